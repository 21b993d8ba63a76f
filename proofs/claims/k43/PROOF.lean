import PyProof.Rows.All
import Wide.All
import OpenK.AllK
import Wide.FinOn
import HandS.ForMost
import HandS.IsInst
import HandS.Wide
import HandS.Style
import HandS.Flt
import HandS.Deep
import HandS.Defaults
import KE.DatumOrd
import HandS.TupLe
import KE.SortData
import HandS.EndOwn
import KE.KNestM
import KE.KDictPairs
import HandS.DictComp
import KE.KDictZip
import KE.KItemsList
import HandS.ListItems
import HandS.Walk
import KE.GoesEnum
import HandS.TupSets
import HandS.SetBool
import KE.KeyNested
import HandS.Conv
import HandS.Small
import KE.KDictSum
import KE.KEqDict
import PyProof.StrBlock2
import PyProof.FString5
import KE.KSlice
import PySem.Challenge.RW_dotmoor_k43_whole_the_judge_of_bent_rows
set_option Elab.async false
set_option linter.all false
set_option maxRecDepth 100000
set_option maxHeartbeats 4000000
namespace DM
open PySem L2
/-! ### built-ins by their names -/
theorem bt_len : bootBuiltins "len" = some (.builtin "len") := by decide +kernel
theorem bt_isinstance : bootBuiltins "isinstance" = some (.builtin "isinstance") := by decide +kernel
theorem bt_all : bootBuiltins "all" = some (.builtin "all") := by decide +kernel
theorem bt_any : bootBuiltins "any" = some (.builtin "any") := by decide +kernel
theorem bt_sorted : bootBuiltins "sorted" = some (.builtin "sorted") := by decide +kernel
theorem bt_abs : bootBuiltins "abs" = some (.builtin "abs") := by decide +kernel
theorem bt_max : bootBuiltins "max" = some (.builtin "max") := by decide +kernel
theorem bt_min : bootBuiltins "min" = some (.builtin "min") := by decide +kernel
theorem bt_sum : bootBuiltins "sum" = some (.builtin "sum") := by decide +kernel
theorem bt_list : bootBuiltins "list" = some (.type "list") := by decide +kernel
theorem bt_tuple : bootBuiltins "tuple" = some (.type "tuple") := by decide +kernel
theorem bt_dict : bootBuiltins "dict" = some (.type "dict") := by decide +kernel
theorem bt_bool : bootBuiltins "bool" = some (.type "bool") := by decide +kernel
theorem bt_int : bootBuiltins "int" = some (.type "int") := by decide +kernel
structure Blt (mg : Str → Option Value) : Prop where
  len : mg "len" = none
  isinstance : mg "isinstance" = none
  all : mg "all" = none
  list : mg "list" = none
  tuple : mg "tuple" = none
  dict : mg "dict" = none
  bool : mg "bool" = none
  range : mg "range" = none
  abs : mg "abs" = none
  any : mg "any" = none
  sorted : mg "sorted" = none
  int : mg "int" = none
  max : mg "max" = none
  min : mg "min" = none
  sum : mg "sum" = none
  zip : mg "zip" = none
  enumerate : mg "enumerate" = none
/-! ### a def that may be called by its name -/
def Cal (P : Program) (w : World) (K : PySem.W.Frag) (mg : Str → Option Value) (base : Heap) (k : Nat) (x : Str) (ps : List Str) (sp : Sp) : Prop :=
  ∃ (f : Addr) (fd : FuncData), FnOk P w K mg base CX0 k f fd ps sp ∧ Binds K fd ps [] ∧ PySem.W.keepIn K (.ref f) = true ∧ mg x = some (.ref f)
section
variable {X : Cx}
theorem pe_cal {k k' : Nat} {x : Str} {ps : List Str} {sp : Sp} {e : Expr} {es : List Expr} {t : TA} {p pos : Pos} (C : Cal X.prog X.w X.K X.mg X.base k x ps sp) (hr : Room k' X.A) (ha : PA X (e :: es) t)
    (hk : k ≤ k' := by decide) (hg : Gl X x := by rfl) (hdb : (x == ("__debug__" : Str)) = false := by decide) (he : starEach (e :: es) X.env = (false, eval e X.env) :: starEach es X.env := by rfl) (hpl : (backTo pos (starEach es X.env)).any (·.1) = false := by rfl) :
    PE X (.Call (.Name x p) (e :: es) [] pos) (tCall sp [] E0 t) := by
  obtain ⟨f, fd, F, b, kp, hm⟩ := C
  exact pe_call F (hr.mono hk) hg hm kp b .nil pass0 ha hdb he hpl
end
theorem nil_binds {K : PySem.W.Frag} {fd : FuncData} {ps : List Str} {ds : List Value} (v : Vals [] ds) (b : Binds K fd ps ds) : Binds K fd ps [] := by
  cases v
  exact b
/-! ### statements -/
theorem seq_with {t u : TS} {D : Ends} {σ : St} {H : Hp} (P : St → Hp → Prop) (h1 : ∀ R : St → Hp → Prop, (∀ σ' H', P σ' H' → R σ' H') → t { D with nx := R } σ H) (h2 : ∀ σ' H', P σ' H' → u D σ' H') : tSeq t u D σ H := h1 (u D) h2
theorem iteDF {c : Prop} [Decidable c] {A B : Prop} (hc : ¬ c) (h : B) : if decide c = true then A else B := by
  rw [decide_eq_false hc]
  exact iteF h
theorem iteDT {c : Prop} [Decidable c] {A B : Prop} (hc : c) (h : A) : if decide c = true then A else B := by
  rw [decide_eq_true hc]
  exact iteT h
theorem same_new {H : Hp} {p : Addr} (h : H p = none) (o : HO) : Same H (upd H p o) := fun b u q => by rw [upd_ne (ne_of_none q h)]; exact q
theorem new_at {H : Hp} {p : Addr} {o : HO} (_ : Same H (upd H p o)) : upd H p o p = some o := upd_same
theorem sz {n : Nat} (h : n ≤ 100000) : n ≤ sizeLine := Nat.le_trans h (by decide)
/-! ### the bag -/
/-- all but what stands at b is as it was -/
def But (b : Addr) (H H' : Hp) : Prop := ∀ a o, a ≠ b → H a = some o → H' a = some o
theorem But.refl {b : Addr} {H : Hp} : But b H H := fun _ _ _ h => h
theorem But.trans {b : Addr} {H H1 H2 : Hp} (x : But b H H1) (y : But b H1 H2) : But b H H2 := fun a o h e => y a o h (x a o h e)
theorem But.of {b : Addr} {H H1 : Hp} (x : Same H H1) : But b H H1 := fun a o _ e => x a o e
theorem But.upd {b : Addr} {H : Hp} {o : HO} : But b H (upd H b o) := fun a u h e => by rw [upd_ne h]; exact e
def BagAt (H : Hp) (b l : Addr) : Prop := ∃ (ns : List Int) (i g s : Int), H b = some (.lst [.ref l, .int i, .int g, .int s]) ∧ H l = some (.lst (ns.map V.int)) ∧ ns.length ≤ 63 ∧ 0 ≤ i ∧ 0 ≤ g ∧ 0 ≤ s ∧ s < 2147483647
theorem bag_ne {H : Hp} {b l : Addr} {ns : List Int} {i g s : Int} (h : H b = some (.lst [.ref l, .int i, .int g, .int s])) (h' : H l = some (.lst (ns.map V.int))) : l ≠ b := by
  refine ne_of h' h fun e => ?_
  have e1 := HO.lst.inj e
  cases ns with
  | nil => cases e1
  | cons a r => cases e1
theorem bag_upd {H : Hp} {b l : Addr} {ns : List Int} {i g s : Int} (hl : l ≠ b) (h' : H l = some (.lst (ns.map V.int))) (h63 : ns.length ≤ 63) (hi : 0 ≤ i) (hg : 0 ≤ g) (h0 : 0 ≤ s) (h1 : s < 2147483647) : BagAt (upd H b (.lst [.ref l, .int i, .int g, .int s])) b l :=
  ⟨ns, i, g, s, upd_same, by rw [upd_ne hl]; exact h', h63, hi, hg, h0, h1⟩
theorem BagAt.same {H H' : Hp} {b l : Addr} (h : BagAt H b l) (e : Same H H') : BagAt H' b l := by
  obtain ⟨ns, i, g, s, h1, h2, r⟩ := h
  exact ⟨ns, i, g, s, e _ _ h1, e _ _ h2, r⟩
theorem BagAt.hasB {H : Hp} {b l : Addr} (h : BagAt H b l) : ∃ xs, H b = some (.lst xs) := by
  obtain ⟨ns, i, g, s, h1, _⟩ := h
  exact ⟨_, h1⟩
theorem BagAt.hasL {H : Hp} {b l : Addr} (h : BagAt H b l) : ∃ xs, H l = some (.lst xs) := by
  obtain ⟨ns, i, g, s, h1, h2, _⟩ := h
  exact ⟨_, h2⟩
/-- a store elsewhere leaves the bag -/
theorem BagAt.put {H : Hp} {b l p : Addr} {o : HO} (h : BagAt H b l) (h1 : p ≠ b) (h2 : p ≠ l) : BagAt (upd H p o) b l := by
  obtain ⟨ns, i, g, s, e1, e2, r⟩ := h
  exact ⟨ns, i, g, s, by rw [upd_ne (Ne.symm h1)]; exact e1, by rw [upd_ne (Ne.symm h2)]; exact e2, r⟩
/-- what is new is not the bag's -/
theorem BagAt.new {H : Hp} {b l p : Addr} (h : BagAt H b l) (hp : H p = none) : p ≠ b ∧ p ≠ l := by
  obtain ⟨xs, e1⟩ := h.hasB
  obtain ⟨ys, e2⟩ := h.hasL
  exact ⟨Ne.symm (ne_of_none e1 hp), Ne.symm (ne_of_none e2 hp)⟩
theorem bag_tup {H : Hp} {b l p : Addr} {xs : List V} (hB : BagAt H b l) (h : H p = some (.tup xs)) : p ≠ b := by
  obtain ⟨ys, e⟩ := hB.hasB
  exact ne_of h e (by intro z; cases z)
/-- what the bag's makers and readers promise -/
def spBag (K : PySem.W.Frag) : Sp := fun vs H Q _ => ∃ (a : Addr) (ns : List Int), vs = [.ref a] ∧ SqL K H a (ns.map V.int) ∧ ns.length ≤ 63 ∧ ∀ (b l : Addr) (H' : Hp), Same H H' → H b = none → H l = none → BagAt H' b l → Q (.ref b) H'
def spPull : Sp := fun vs H Q _ => ∃ (b l : Addr) (m : Int), vs = [.ref b, .int m] ∧ BagAt H b l ∧ 0 < m ∧ m < 4611686018427387904 ∧ ∀ (r : Int) (H' : Hp), BagAt H' b l → But b H H' → 0 ≤ r → r < m → Q (.int r) H'
def spOf : Sp := fun vs H Q _ => ∃ (b l p : Addr) (xs : List V), vs = [.ref b, .ref p] ∧ BagAt H b l ∧ H p = some (.lst xs) ∧ p ≠ b ∧ 0 < xs.length ∧ xs.length ≤ 1000 ∧ ∀ (v : V) (H' : Hp), BagAt H' b l → But b H H' → v ∈ xs → Q v H'
def spLaw (K : PySem.W.Frag) : Sp := fun vs H Q _ => ∃ (a : Addr) (ns : List Int), vs = [.ref a] ∧ SqL K H a (ns.map V.int) ∧ ns.length ≤ 63 ∧ ∀ H', Q (.bl true) H'
/-- a promise that asks more -/
theorem fn_weak {P : Program} {w : World} {K : PySem.W.Frag} {mg : Str → Option Value} {base : Heap} {CX : CXT} {k : Nat} {f : Addr} {fd : FuncData} {ps : List Str} {sp sp' : Sp} (F : FnOk P w K mg base CX k f fd ps sp) (h : ∀ vs H Q E, sp' vs H Q E → sp vs H Q E) : FnOk P w K mg base CX k f fd ps sp' :=
  ⟨fun vs H Q E q => F.len vs H Q E (h _ _ _ _ q), fun A outer s H args us vs Q E hr e0 hb rv q => F.run A outer s H args us vs Q E hr e0 hb rv (h _ _ _ _ q)⟩
theorem cal_weak {P : Program} {w : World} {K : PySem.W.Frag} {mg : Str → Option Value} {base : Heap} {k : Nat} {x : Str} {ps : List Str} {sp sp' : Sp} (C : Cal P w K mg base k x ps sp) (h : ∀ vs H Q E, sp' vs H Q E → sp vs H Q E) : Cal P w K mg base k x ps sp' := by
  obtain ⟨f, fd, F, b, kp, m⟩ := C
  exact ⟨f, fd, fn_weak F h, b, kp, m⟩
end DM

namespace DM
open PySem L2
def top (i : Nat) : Stmt := PySem.Challenge.pw_dotmoor_k43_whole_the_judge_of_bent_rows.main.body.getD i (.Pass ⟨0, 0, 0, 0⟩)
section
variable {P : Program} {w : World} {K : PySem.W.Frag} {mg : Str → Option Value} {base : Heap} {f : Addr} {fd : FuncData}
abbrev s_bag : Stmt := top 38
theorem sc_bag : FnScope ["_law_script", "_law_salt", "_law_cell"] ["_law_script"] (defScope s_bag) := ⟨rfl, rfl, rfl, by decide +kernel, rfl, by decide +kernel, by decide +kernel⟩
theorem cut_ints (ns : List Int) : ∃ ms : List Int, cutV (ns.map V.int) none (some 63) = ms.map V.int ∧ ms.length ≤ ns.length := by
  refine ⟨(ns.drop (HT.sIx ns.length 0 none)).take (HT.sIx ns.length ns.length (some 63) - HT.sIx ns.length 0 none), ?_, ?_⟩
  · unfold cutV
    rw [List.length_map, List.map_take, List.map_drop]
  · rw [List.length_take, List.length_drop]
    omega
theorem ok_bag (B : Blt mg) (F : Fun K "_law_bag" "_law_bag" s_bag f fd) : FnOk P w K mg base CX0 1 f fd ["_law_script"] (spBag K) := by
  refine F.ok sc_bag (fun vs H Q E h => ?_) (fun cdv A outer s H vs Q E hr h => ?_)
  · obtain ⟨a, ns, rfl, _⟩ := h
    rfl
  obtain ⟨a, ns, rfl, hS, h63, q⟩ := h
  refine ⟨_, (pss_cons (ps_set (i := 1) sc_bag.nd rfl (Or.inl rfl) pe_int)
    (pss_cons (ps_for PassesOwn.never rfl (pi_list (pe_slice sl_list (pv 0) po_none (po_some pe_int))) (pg_name (i := 2) sc_bag.nd rfl (Or.inl rfl))
    (pss_one (ps_set (i := 1) sc_bag.nd rfl (Or.inl rfl) (pe_op op_mod (pe_op op_add (pe_op op_add (pe_op op_mul (pv 1) pe_int) (pe_op op_mod (pv 2) pe_int)) pe_int) pe_int))))
    (pss_one (ps_ret (pe_lst (pa_cons (pe_callTy call_list_of rfl B.list bt_list (pa_cons (pe_slice sl_list (pv 0) po_none (po_some pe_int)) pa_nil)) (pa_cons pe_int (pa_cons pe_int (pa_cons (pv 1) pa_nil))))))))), ?_⟩
  obtain ⟨ms, em, lm⟩ := cut_ints ns
  refine ⟨_, rfl, _, rfl, a, _, rfl, hS, fun p hp => ?_⟩
  refine ⟨p, rfl, ⟨_, SqL.of upd_same⟩, ?_⟩
  have g1 : Same H (upd H p (.lst (cutV (ns.map V.int) none (some 63)))) := same_new hp _
  have hp1 : upd H p (.lst (cutV (ns.map V.int) none (some 63))) p = some (.lst (ms.map V.int)) := by rw [upd_same, em]
  refine for_list (K := K) (a := p) (xs := ms.map V.int) (fun _ σ H' => H' = upd H p (.lst (cutV (ns.map V.int) none (some 63))) ∧ ∃ (s : Int) (c : Option V), σ = [some (.ref a), some (.int s), c] ∧ 0 ≤ s ∧ s < 2147483647) ?_ ?_ ?_ ?_
  · exact ⟨rfl, 9117, none, rfl, by decide, by decide⟩
  · rintro i σ H' _ ⟨rfl, _⟩
    exact SqL.of hp1
  · rintro i x σ H' hx ⟨rfl, s, c, rfl, h0, h1⟩
    obtain ⟨n, rfl⟩ : ∃ n, x = V.int n := by
      rw [List.getElem?_map] at hx
      cases e : ms[i]? with
      | none => rw [e] at hx; cases hx
      | some n => rw [e] at hx; exact ⟨n, (Option.some.inj hx).symm⟩
    refine ⟨_, rfl, _, _, rfl, rfl, .inr ⟨by decide, by decide⟩, _, rfl, _, _, rfl, rfl, (by dsimp only; decide), _, _, rfl, rfl, _, _, rfl, rfl, _, _, rfl, rfl, (by dsimp only; decide), ?_⟩
    refine ⟨rfl, _, _, rfl, ?_, ?_⟩
    · exact Int.emod_nonneg _ (by decide)
    · exact Int.emod_lt_of_pos _ (by decide)
  · rintro σ H' ⟨rfl, s, c, rfl, h0, h1⟩
    refine ⟨_, rfl, _, rfl, a, _, rfl, g1.seq hS, fun p2 hp2 => ?_⟩
    refine ⟨p2, _, rfl, .inl (SqL.of upd_same), fun p3 hp3 => ?_⟩
    refine ⟨_, rfl, sz (by decide : 4 ≤ 100000), fun p4 hp4 => ?_⟩
    refine q p4 p3 _ (g1.trans ((same_new hp2 _).trans ((same_new hp3 _).trans (same_new hp4 _)))) ?_ (g1.free ((same_new hp2 _).free hp3)) ?_
    · exact g1.free ((same_new hp2 _).free ((same_new hp3 _).free hp4))
    · refine bag_upd (ns := ms) (Ne.symm (Ne.symm (ne_of_none (H := upd _ p3 _) upd_same hp4))) ?_ (by omega) (by decide) (by decide) h0 h1
      rw [upd_same, em]
abbrev s_pull : Stmt := top 39
theorem sc_pull : FnScope ["_law_bag_here", "_law_amount", "_law_cell", "_law_got", "_law_seed"] ["_law_bag_here", "_law_amount"] (defScope s_pull) := ⟨rfl, rfl, rfl, by decide +kernel, rfl, by decide +kernel, by decide +kernel⟩
theorem ok_pull (B : Blt mg) (F : Fun K "_law_pull" "_law_pull" s_pull f fd) : FnOk P w K mg base CX0 1 f fd ["_law_bag_here", "_law_amount"] spPull := by
  refine F.ok sc_pull (fun vs H Q E h => ?_) (fun cdv A outer s H vs Q E hr h => ?_)
  · obtain ⟨b, l, m, rfl, _⟩ := h
    rfl
  obtain ⟨b, l, m, rfl, hB, hm0, hm1, q⟩ := h
  refine ⟨_, (pss_cons (ps_if (PW.pt (pw_and (pt_cmpR op_eq (pe_ix ix_list (pv 0) pe_int (fun _ _ => rfl)) pe_int (nomark _)) (pw_and1 (pt_cmpR op_lt (pe_ix ix_list (pv 0) pe_int (fun _ _ => rfl)) (pe_callB call_len_seq rfl B.len bt_len (pa_cons (pe_ix ix_list (pv 0) pe_int (fun _ _ => rfl)) pa_nil)) (nomark _)))))
    (pss_cons (ps_set (i := 2) sc_pull.nd rfl (Or.inl rfl) (pe_ix ix_list (pe_ix ix_list (pv 0) pe_int (fun _ _ => rfl)) (pe_ix ix_list (pv 0) pe_int (fun _ _ => rfl)) (fun _ _ => rfl)))
    (pss_cons (ps_asg (pe_op op_add (pe_ix ix_list (pv 0) pe_int (fun _ _ => rfl)) pe_int) (pg_sub (pv 0) pe_int set_list))
    (pss_one (ps_if (pt_cmpR op_ge (pv 2) (pe_op op_pow pe_int pe_int) (nomark _))
    (pss_one (ps_asg (pv 2) (pg_sub (pv 0) pe_int set_list)))
    (pss_one (ps_asg (pe_op op_mod (pe_op op_add (pe_op op_add (pe_op op_mul (pe_ix ix_list (pv 0) pe_int (fun _ _ => rfl)) pe_int) (pe_op op_mul (pe_op op_mod (pv 2) pe_int) pe_int)) pe_int) pe_int) (pg_sub (pv 0) pe_int set_list)))))))
    pss_nil)
    (pss_cons (ps_if (pt_cmpR op_gt (pe_ix ix_list (pv 0) pe_int (fun _ _ => rfl)) pe_int (nomark _))
    (pss_cons (ps_set (i := 3) sc_pull.nd rfl (Or.inl rfl) (pe_op op_mod (pe_ix ix_list (pv 0) pe_int (fun _ _ => rfl)) (pv 1)))
    (pss_cons (ps_asg (pe_op op_fdivW (pe_ix ix_list (pv 0) pe_int (fun _ _ => rfl)) (pv 1)) (pg_sub (pv 0) pe_int set_list))
    (pss_one (ps_ret (pv 3)))))
    pss_nil)
    (pss_cons (ps_set (i := 4) sc_pull.nd rfl (Or.inl rfl) (pe_ix ix_list (pv 0) pe_int (fun _ _ => rfl)))
    (pss_cons (ps_asg (pe_op op_mod (pe_op op_add (pe_op op_add (pe_op op_mul (pv 4) pe_int) (pe_op op_mul (pe_op op_fdiv (pv 4) pe_int) pe_int)) pe_int) pe_int) (pg_sub (pv 0) pe_int set_list))
    (pss_one (ps_ret (pe_op op_mod (pe_op op_add (pe_op op_fdiv (pe_ix ix_list (pv 0) pe_int (fun _ _ => rfl)) pe_int) (pe_op op_mul (pe_op op_mod (pe_ix ix_list (pv 0) pe_int (fun _ _ => rfl)) pe_int) pe_int)) (pv 1)))))))), ?_⟩
  obtain ⟨ns, i, g, z, hb, hl, h63, hi, hg, hz0, hz1⟩ := hB
  have hlb := bag_ne hb hl
  refine seq_with (fun σ' H' => (∃ c, σ' = [some (.ref b), some (.int m), c, none, none]) ∧ BagAt H' b l ∧ But b H H') (fun R hR => ?_) ?_
  · refine ⟨_, rfl, b, _, _, _, rfl, rfl, SqL.of hb, rfl, rfl, _, rfl, ?_⟩
    refine ite2 (fun c => ?_) (fun c => ?_)
    · refine ⟨_, rfl, b, _, _, _, rfl, rfl, SqL.of hb, rfl, _, rfl, b, _, _, _, rfl, rfl, SqL.of hb, rfl, l, _, rfl, .inl (SqL.of hl), _, _, rfl, rfl, _, rfl, ?_⟩
      refine ite2 (fun c2 => ?_) (fun c2 => ?_)
      · have c3 : i < ((ns.map V.int).length : Int) := of_decide_eq_true c2
        rw [List.length_map] at c3
        have hit : i.toNat < ns.length := by omega
        have ei : i = ((i.toNat : Nat) : Int) := by omega
        have hat : atI (ns.map V.int) i = some (.int ns[i.toNat]) := by
          exact at_of ei (by rw [List.getElem?_map, List.getElem?_eq_getElem hit] <;> rfl)
        refine ⟨_, rfl, b, _, _, _, rfl, rfl, SqL.of hb, rfl, _, rfl, b, _, _, _, rfl, rfl, SqL.of hb, rfl, l, _, _, _, rfl, rfl, SqL.of hl, hat, ?_⟩
        refine ⟨_, rfl, b, _, _, _, rfl, rfl, SqL.of hb, rfl, _, _, rfl, rfl, _, rfl, b, _, _, _, rfl, rfl, hb, rfl, ?_⟩
        refine ⟨_, rfl, _, _, rfl, rfl, ⟨by decide, by decide, by decide⟩, _, _, rfl, rfl, _, rfl, ?_⟩
        refine ite2 (fun c4 => ?_) (fun c4 => ?_)
        · have c5 : ns[i.toNat] ≥ (10 : Int) ^ (18 : Int).toNat := of_decide_eq_true c4
          have c6 : (0 : Int) ≤ (10 : Int) ^ (18 : Int).toNat := by decide
          refine ⟨_, rfl, _, rfl, b, _, _, _, rfl, rfl, upd_same, rfl, hR _ _ ⟨⟨_, rfl⟩, ?_, ?_⟩⟩
          · rw [upd_upd]
            exact bag_upd (ns := ns) hlb hl h63 (by omega) (by omega) hz0 hz1
          · rw [upd_upd]
            exact But.upd
        · refine ⟨_, rfl, b, _, _, _, rfl, rfl, SqL.of upd_same, rfl, _, _, rfl, rfl, .inr ⟨by decide, by decide⟩, _, rfl, _, _, rfl, rfl, (by dsimp only; decide), _, _, rfl, rfl, .inr ⟨by decide, by decide⟩, _, _, rfl, rfl, _, _, rfl, rfl, _, _, rfl, rfl, (by dsimp only; decide), ?_⟩
          refine ⟨_, rfl, b, _, _, _, rfl, rfl, upd_same, rfl, hR _ _ ⟨⟨_, rfl⟩, ?_, ?_⟩⟩
          · rw [upd_upd]
            exact bag_upd (ns := ns) hlb hl h63 (by omega) hg (Int.emod_nonneg _ (by decide)) (Int.emod_lt_of_pos _ (by decide))
          · rw [upd_upd]
            exact But.upd
      · refine hR _ _ ⟨⟨_, rfl⟩, ⟨ns, i, g, z, hb, hl, h63, hi, hg, hz0, hz1⟩, But.refl⟩
    · refine iteF ?_
      exact hR _ _ ⟨⟨_, rfl⟩, ⟨ns, i, g, z, hb, hl, h63, hi, hg, hz0, hz1⟩, But.refl⟩
  · rintro σ' H' ⟨⟨c, rfl⟩, hB', hBut⟩
    obtain ⟨ns, i, g, z, hb, hl, h63, hi, hg, hz0, hz1⟩ := hB'
    have hlb := bag_ne hb hl
    refine ⟨_, rfl, b, _, _, _, rfl, rfl, SqL.of hb, rfl, _, _, rfl, rfl, _, rfl, ?_⟩
    refine ite2 (fun c => ?_) (fun c => ?_)
    · refine ⟨_, rfl, b, _, _, _, rfl, rfl, SqL.of hb, rfl, _, rfl, _, _, rfl, rfl, hm0, ?_⟩
      refine ⟨_, rfl, b, _, _, _, rfl, rfl, SqL.of hb, rfl, _, rfl, _, _, rfl, rfl, wide_div (b := 62) hm0 (by omega) (by decide) (by decide), ?_⟩
      refine ⟨_, rfl, b, _, _, _, rfl, rfl, hb, rfl, _, rfl, ?_⟩
      refine q _ _ ?_ (hBut.trans But.upd) (Int.emod_nonneg _ (by omega)) (Int.emod_lt_of_pos _ hm0)
      exact bag_upd (ns := ns) hlb hl h63 hi (Int.ediv_nonneg hg (by omega)) hz0 hz1
    · refine ⟨_, rfl, b, _, _, _, rfl, rfl, SqL.of hb, rfl, ?_⟩
      refine ⟨_, rfl, _, _, rfl, rfl, .inr ⟨by decide, by decide⟩, _, rfl, _, _, rfl, rfl, ⟨by decide, by decide⟩, _, _, rfl, rfl, .inr ⟨by decide, by decide⟩, _, _, rfl, rfl, _, _, rfl, rfl, _, _, rfl, rfl, (by dsimp only; decide), ?_⟩
      refine ⟨_, rfl, b, _, _, _, rfl, rfl, hb, rfl, ?_⟩
      refine ⟨_, rfl, b, _, _, _, rfl, rfl, SqL.of upd_same, rfl, _, _, rfl, rfl, ⟨by decide, by decide⟩, _, rfl, b, _, _, _, rfl, rfl, SqL.of upd_same, rfl, _, _, rfl, rfl, (by dsimp only; decide), _, _, rfl, rfl, .inr ⟨by decide, by decide⟩, _, _, rfl, rfl, _, rfl, _, _, rfl, rfl, hm0, ?_⟩
      refine q _ _ ?_ (hBut.trans But.upd) (Int.emod_nonneg _ (by omega)) (Int.emod_lt_of_pos _ hm0)
      exact bag_upd (ns := ns) hlb hl h63 hi hg (Int.emod_nonneg _ (by decide)) (Int.emod_lt_of_pos _ (by decide))
abbrev s_of : Stmt := top 40
theorem sc_of : FnScope ["_law_bag_here", "_law_things"] ["_law_bag_here", "_law_things"] (defScope s_of) := ⟨rfl, rfl, rfl, by decide +kernel, rfl, by decide +kernel, by decide +kernel⟩
theorem ok_of (B : Blt mg) (c_pull : Cal P w K mg base 1 "_law_pull" ["_law_bag_here", "_law_amount"] spPull) (F : Fun K "_law_of" "_law_of" s_of f fd) : FnOk P w K mg base CX0 2 f fd ["_law_bag_here", "_law_things"] spOf := by
  refine F.ok sc_of (fun vs H Q E h => ?_) (fun cdv A outer s H vs Q E hr h => ?_)
  · obtain ⟨b, l, p, xs, rfl, _⟩ := h
    rfl
  obtain ⟨b, l, p, xs, rfl, hB, hp, hpb, h0, h1, q⟩ := h
  refine ⟨_, (pss_one (ps_ret (pe_ix ix_list (pv 1) (pe_cal c_pull hr (pa_cons (pv 0) (pa_cons (pe_callB call_len_seq rfl B.len bt_len (pa_cons (pv 1) pa_nil)) pa_nil))) (fun _ _ => rfl)))), ?_⟩
  refine ⟨_, rfl, _, rfl, _, rfl, p, xs, rfl, .inl (SqL.of hp), b, _, _, rfl, hB, by omega, by omega, fun r H' hB' hbut r0 r1 => ?_⟩
  have hr' : r.toNat < xs.length := by omega
  have er : r = ((r.toNat : Nat) : Int) := by omega
  have hat : atI xs r = some xs[r.toNat] := by
    exact at_of er (List.getElem?_eq_getElem hr')
  exact ⟨p, xs, r, _, rfl, rfl, SqL.of (hbut _ _ hpb hp), hat, q _ _ hB' hbut (List.getElem_mem hr')⟩
end
end DM

namespace DM
open PySem L2
/-! ### what is like what -/
def scl : V → Bool
  | .non => true | .bl _ => true | .int _ => true | .str _ => true
  | _ => false
def Alike : Nat → Hp → V → V → Prop
  | 0, _, x, y => x = y ∧ scl x = true
  | n + 1, H, x, y => (x = y ∧ scl x = true) ∨
    (∃ p q xs ys, x = .ref p ∧ y = .ref q ∧ H p = some (.tup xs) ∧ H q = some (.tup ys) ∧ xs.length = ys.length ∧ xs.length ≤ 1000 ∧ ∀ (i : Nat) (x y : V), xs[i]? = some x → ys[i]? = some y → Alike n H x y) ∨
    (∃ p q xs ys, x = .ref p ∧ y = .ref q ∧ H p = some (.lst xs) ∧ H q = some (.lst ys) ∧ xs.length = ys.length ∧ xs.length ≤ 1000 ∧ ∀ (i : Nat) (x y : V), xs[i]? = some x → ys[i]? = some y → Alike n H x y)
theorem Alike.same : ∀ {n : Nat} {H H' : Hp} {x y : V}, Alike n H x y → Same H H' → Alike n H' x y
  | 0, _, _, _, _, h, _ => h
  | n + 1, _, _, _, _, h, e => by
    rcases h with h | ⟨p, q, xs, ys, a, b, c, d, l, m, r⟩ | ⟨p, q, xs, ys, a, b, c, d, l, m, r⟩
    · exact .inl h
    · exact .inr (.inl ⟨p, q, xs, ys, a, b, e _ _ c, e _ _ d, l, m, fun i x y hx hy => (r i x y hx hy).same e⟩)
    · exact .inr (.inr ⟨p, q, xs, ys, a, b, e _ _ c, e _ _ d, l, m, fun i x y hx hy => (r i x y hx hy).same e⟩)
theorem Alike.scal {n : Nat} {H : Hp} {x : V} (h : scl x = true) : Alike n H x x := by
  cases n with
  | zero => exact ⟨rfl, h⟩
  | succ n => exact .inl ⟨rfl, h⟩
theorem Alike.of_eq {n : Nat} {H : Hp} {x y : V} (e : x = y) (h : scl x = true) : Alike n H x y := by
  subst e
  exact Alike.scal h
theorem Alike.up : ∀ {n : Nat} {H : Hp} {x y : V}, Alike n H x y → Alike (n + 1) H x y
  | 0, _, _, _, h => .inl h
  | _ + 1, _, _, _, .inl h => .inl h
  | _ + 1, _, _, _, .inr (.inl ⟨p, q, xs, ys, a, b, c, d, e, f, g⟩) => .inr (.inl ⟨p, q, xs, ys, a, b, c, d, e, f, fun i x y hx hy => (g i x y hx hy).up⟩)
  | _ + 1, _, _, _, .inr (.inr ⟨p, q, xs, ys, a, b, c, d, e, f, g⟩) => .inr (.inr ⟨p, q, xs, ys, a, b, c, d, e, f, fun i x y hx hy => (g i x y hx hy).up⟩)
theorem alike_pair {n : Nat} {H : Hp} {u v : Int} : ∀ (i : Nat) (x y : V), ([.int u, .int v] : List V)[i]? = some x → ([.int u, .int v] : List V)[i]? = some y → Alike n H x y
  | 0, _, _, hx, hy => by cases hx; cases hy; exact Alike.scal rfl
  | 1, _, _, hx, hy => by cases hx; cases hy; exact Alike.scal rfl
def spLike (n : Nat) : Sp := fun vs H Q _ => ∃ x y, vs = [x, y] ∧ Alike n H x y ∧ ∀ H', Same H H' → Q (.bl true) H'
theorem if_pos' {c A B : Prop} [Decidable c] (h : c) (a : A) : if c then A else B := by
  rw [if_pos h]
  exact a
theorem lc_yes {σ : St} {H : Hp} {A B : Hp → Prop} (h : A H) : tYes σ H (fun b H3 => if b = true then A H3 else B H3) := by
  show (if true = true then A H else B H)
  rw [if_pos rfl]
  exact h
def tyn : V → String
  | .non => "NoneType" | .bl _ => "bool" | .int _ => "int" | .str _ => "str"
  | _ => ""
theorem tyn_x {K : PySem.W.Frag} {H : Hp} : ∀ {x : V}, scl x = true → TyX K H x (.type (tyn x))
  | .non, _ => .base .non
  | .bl b, _ => .base (.bl b)
  | .int i, _ => .base (.int i)
  | .str s, _ => .base (.str s)
theorem tyn_no {K : PySem.W.Frag} : ∀ {x : V}, scl x = true → PySem.W.kitOne K (.type (tyn x)) (.type "dict") = some false ∧ PySem.W.kitOne K (.type (tyn x)) (.type "tuple") = some false ∧ PySem.W.kitOne K (.type (tyn x)) (.type "list") = some false ∧ ∃ b, PySem.W.kitOne K (.type (tyn x)) (.type "bool") = some b
  | .non, _ => ⟨kit_ty (by decide +kernel : kitB "NoneType" "dict" = some false), kit_ty (by decide +kernel : kitB "NoneType" "tuple" = some false), kit_ty (by decide +kernel : kitB "NoneType" "list" = some false), _, kit_ty (by decide +kernel : kitB "NoneType" "bool" = some false)⟩
  | .bl _, _ => ⟨kit_ty (by decide +kernel : kitB "bool" "dict" = some false), kit_ty (by decide +kernel : kitB "bool" "tuple" = some false), kit_ty (by decide +kernel : kitB "bool" "list" = some false), _, kit_ty (by decide +kernel : kitB "bool" "bool" = some true)⟩
  | .int _, _ => ⟨kit_ty (by decide +kernel : kitB "int" "dict" = some false), kit_ty (by decide +kernel : kitB "int" "tuple" = some false), kit_ty (by decide +kernel : kitB "int" "list" = some false), _, kit_ty (by decide +kernel : kitB "int" "bool" = some false)⟩
  | .str _, _ => ⟨kit_ty (by decide +kernel : kitB "str" "dict" = some false), kit_ty (by decide +kernel : kitB "str" "tuple" = some false), kit_ty (by decide +kernel : kitB "str" "list" = some false), _, kit_ty (by decide +kernel : kitB "str" "bool" = some false)⟩
theorem scl_eq : ∀ {x : V}, scl x = true → L2.scal x x = true
  | .non, _ => rfl
  | .bl _, _ => rfl
  | .int _, _ => rfl
  | .str _, _ => rfl
section
variable {P : Program} {w : World} {K : PySem.W.Frag} {mg : Str → Option Value} {base : Heap} {f : Addr} {fd : FuncData}
abbrev s_like : Stmt := top 41
theorem sc_like : FnScope ["_law_found", "_law_due_here", "_law_k"] ["_law_found", "_law_due_here"] (defScope s_like) := ⟨rfl, rfl, rfl, by decide +kernel, rfl, by decide +kernel, by decide +kernel⟩
theorem like_leaf {k n : Nat} (B : Blt mg) (F : Fun K "_law_like" "_law_like" s_like f fd) (x : V) (hx : scl x = true) (cdv : Value) (A : Around) (outer : List Env) (s : Shared) (H : Hp) (Q : VK) (E : XK) (hr : Room k (A.deeper (PyProof.Rows.envOfC "_law_like" (defScope s_like) s.heap.objs.size f cdv))) (q : ∀ H', Same H H' → Q (.bl true) H') :
    ∃ t, PSs (cxOf CX0 P w K mg base ["_law_found", "_law_due_here", "_law_k"] "_law_like" (defScope s_like) f cdv A outer s H E).nox (defBody s_like) t ∧ t { nx := fun _ H' => Q .non H', rt := Q } (start ["_law_found", "_law_due_here", "_law_k"] [x, x]) H := by
  refine ⟨_, (pss_cons (ps_if (pt_val (pe_callB call_isi rfl B.isinstance bt_isinstance (pa_cons (pv 1) (pa_cons (pe_bltn (v := .ty "dict") rfl B.dict bt_dict rfl) pa_nil)))) pss_never pss_nil) (pss_cons (ps_if (PW.pt (pw_or (pt_cmpR op_ne (pe_callB call_isi rfl B.isinstance bt_isinstance (pa_cons (pv 1) (pa_cons (pe_bltn (v := .ty "tuple") rfl B.tuple bt_tuple rfl) pa_nil))) (pe_callB call_isi rfl B.isinstance bt_isinstance (pa_cons (pv 0) (pa_cons (pe_bltn (v := .ty "tuple") rfl B.tuple bt_tuple rfl) pa_nil))) (nomark _)) (pw_or1 (pt_cmpR op_ne (pe_callB call_isi rfl B.isinstance bt_isinstance (pa_cons (pv 1) (pa_cons (pe_bltn (v := .ty "list") rfl B.list bt_list rfl) pa_nil))) (pe_callB call_isi rfl B.isinstance bt_isinstance (pa_cons (pv 0) (pa_cons (pe_bltn (v := .ty "list") rfl B.list bt_list rfl) pa_nil))) (nomark _))))) pss_never pss_nil) (pss_cons (ps_if (pt_not (pt_val (pe_callB call_isiT rfl B.isinstance bt_isinstance (pa_cons (pv 1) (pa_cons (pe_tup (pa_cons (pe_bltn (v := .ty "tuple") rfl B.tuple bt_tuple rfl) (pa_cons (pe_bltn (v := .ty "list") rfl B.list bt_list rfl) pa_nil))) pa_nil))))) (pss_one (ps_ret (pe_and (pe_cmpR op_eq (pe_callB call_isi rfl B.isinstance bt_isinstance (pa_cons (pv 0) (pa_cons (pe_bltn (v := .ty "bool") rfl B.bool bt_bool rfl) pa_nil))) (pe_callB call_isi rfl B.isinstance bt_isinstance (pa_cons (pv 1) (pa_cons (pe_bltn (v := .ty "bool") rfl B.bool bt_bool rfl) pa_nil))) (nomark _)) (pe_one (pe_cmpR op_eq (pv 0) (pv 1) (nomark _)))))) pss_nil) pss_never))), ?_⟩
  have ty : ∀ H', TyX K H' x (.type (tyn x)) := fun H' => tyn_x hx
  obtain ⟨kd, kt, kl, b, kb⟩ := tyn_no (K := K) hx
  refine ⟨_, rfl, _, _, _, _, _, rfl, .ty _, ty _, kd, _, rfl, iteF ?_⟩
  refine ⟨_, rfl, _, _, _, _, _, rfl, .ty _, ty _, kt, _, rfl, _, _, _, _, _, rfl, .ty _, ty _, kt, rfl, _, rfl, iteF ?_⟩
  refine ⟨_, rfl, _, _, _, _, _, rfl, .ty _, ty _, kl, _, rfl, _, _, _, _, _, rfl, .ty _, ty _, kl, rfl, _, rfl, iteF ?_⟩
  refine ⟨_, rfl, sz (by decide : 2 ≤ 100000), fun p1 hp1 => ?_⟩
  refine ⟨_, p1, _, _, _, false, rfl, upd_same, .cons (.ty _) (.cons (.ty _) .nil), ty _, kitAny_cons kt (fun _ => kitAny_cons kl (fun _ => kitAny_nil) (fun z => nomatch z)) (fun z => nomatch z), _, rfl, iteT ?_⟩
  refine ⟨_, rfl, _, _, _, _, _, rfl, .ty _, ty _, kb, _, rfl, _, _, _, _, _, rfl, .ty _, ty _, kb, rfl, _, rfl, ?_⟩
  refine if_pos' (decide_eq_true rfl) ?_
  refine ⟨_, rfl, _, rfl, scl_eq hx, ?_⟩
  have e : decide (x = x) = true := decide_eq_true rfl
  rw [e]
  exact q _ (same_new hp1 _)
theorem ok_like0 (B : Blt mg) (F : Fun K "_law_like" "_law_like" s_like f fd) : FnOk P w K mg base CX0 1 f fd ["_law_found", "_law_due_here"] (spLike 0) := by
  refine F.ok sc_like (fun vs H Q E h => ?_) (fun cdv A outer s H vs Q E hr h => ?_)
  · obtain ⟨x, y, rfl, _⟩ := h
    rfl
  obtain ⟨x, y, rfl, ⟨rfl, hx⟩, q⟩ := h
  exact like_leaf (n := 0) B F x hx cdv A outer s H Q E hr q
theorem ok_likeS {n : Nat} (B : Blt mg) (F : Fun K "_law_like" "_law_like" s_like f fd) (c_like : Cal P w K mg base (n + 1) "_law_like" ["_law_found", "_law_due_here"] (spLike n)) : FnOk P w K mg base CX0 (n + 2) f fd ["_law_found", "_law_due_here"] (spLike (n + 1)) := by
  refine F.ok sc_like (fun vs H Q E h => ?_) (fun cdv A outer s H vs Q E hr h => ?_)
  · obtain ⟨x, y, rfl, _⟩ := h
    rfl
  obtain ⟨x, y, rfl, hA, q⟩ := h
  rcases hA with ⟨rfl, hx⟩ | ⟨p, q0, xs, ys, rfl, rfl, hp, hq, hlen, h1000, hall⟩ | ⟨p, q0, xs, ys, rfl, rfl, hp, hq, hlen, h1000, hall⟩
  · exact like_leaf (n := n) B F x hx cdv A outer s H Q E hr q
  ·
    refine ⟨_, (pss_cons (ps_if (pt_val (pe_callB call_isi rfl B.isinstance bt_isinstance (pa_cons (pv 1) (pa_cons (pe_bltn (v := .ty "dict") rfl B.dict bt_dict rfl) pa_nil)))) pss_never pss_nil) (pss_cons (ps_if (PW.pt (pw_or (pt_cmpR op_ne (pe_callB call_isi rfl B.isinstance bt_isinstance (pa_cons (pv 1) (pa_cons (pe_bltn (v := .ty "tuple") rfl B.tuple bt_tuple rfl) pa_nil))) (pe_callB call_isi rfl B.isinstance bt_isinstance (pa_cons (pv 0) (pa_cons (pe_bltn (v := .ty "tuple") rfl B.tuple bt_tuple rfl) pa_nil))) (nomark _)) (pw_or1 (pt_cmpR op_ne (pe_callB call_isi rfl B.isinstance bt_isinstance (pa_cons (pv 1) (pa_cons (pe_bltn (v := .ty "list") rfl B.list bt_list rfl) pa_nil))) (pe_callB call_isi rfl B.isinstance bt_isinstance (pa_cons (pv 0) (pa_cons (pe_bltn (v := .ty "list") rfl B.list bt_list rfl) pa_nil))) (nomark _))))) pss_never pss_nil) (pss_cons (ps_if (pt_not (pt_val (pe_callB call_isiT rfl B.isinstance bt_isinstance (pa_cons (pv 1) (pa_cons (pe_tup (pa_cons (pe_bltn (v := .ty "tuple") rfl B.tuple bt_tuple rfl) (pa_cons (pe_bltn (v := .ty "list") rfl B.list bt_list rfl) pa_nil))) pa_nil))))) pss_never pss_nil) (pss_one (ps_ret (pe_and (pe_cmpR op_eq (pe_callB call_len_seq rfl B.len bt_len (pa_cons (pv 0) pa_nil)) (pe_callB call_len_seq rfl B.len bt_len (pa_cons (pv 1) pa_nil)) (nomark _)) (pe_one (pe_callB (cr_all rfl) rfl B.all bt_all (pa_cons (pe_lc (own := [("_law_k", 2)]) (g := gName 2) (tt := tYes) rfl sc_like.nd (pi_range1 rfl B.range (pa_cons (pe_callB call_len_seq rfl B.len bt_len (pa_cons (pv 1) pa_nil)) pa_nil)) (blkOk_by (own := [("_law_k", 2)]) (N := ["_law_found", "_law_due_here", "_law_k"]) (sc := defScope s_like) (by decide +kernel)) (fun _ _ _ _ _ => pg_name (i := 2) sc_like.nd rfl (Or.inl rfl)) (fun _ _ _ _ _ => pts_nil) (fun _ _ _ _ _ => (pe_cal c_like hr (pa_cons (pe_ix (r := rIxT K) ix_tup (pv 0) (pv 2) (fun _ _ => rfl)) (pa_cons (pe_ix (r := rIxT K) ix_tup (pv 1) (pv 2) (fun _ _ => rfl)) pa_nil)) (Nat.le_refl _)))) pa_nil))))))))), ?_⟩
    refine ⟨_, rfl, _, _, _, _, _, rfl, .ty _, .base (TyOf.tup hq), kit_ty (by decide +kernel : kitB "tuple" "dict" = some false), _, rfl, iteF ?_⟩
    refine ⟨_, rfl, _, _, _, _, _, rfl, .ty _, .base (TyOf.tup hq), kit_ty (by decide +kernel : kitB "tuple" "tuple" = some true), _, rfl, _, _, _, _, _, rfl, .ty _, .base (TyOf.tup hp), kit_ty (by decide +kernel : kitB "tuple" "tuple" = some true), rfl, _, rfl, iteF ?_⟩
    refine ⟨_, rfl, _, _, _, _, _, rfl, .ty _, .base (TyOf.tup hq), kit_ty (by decide +kernel : kitB "tuple" "list" = some false), _, rfl, _, _, _, _, _, rfl, .ty _, .base (TyOf.tup hp), kit_ty (by decide +kernel : kitB "tuple" "list" = some false), rfl, _, rfl, iteF ?_⟩
    refine ⟨_, rfl, sz (by decide : 2 ≤ 100000), fun p1 hp1 => ?_⟩
    have g1 := same_new hp1 (.tup [.ty "tuple", .ty "list"])
    have hp' := g1 _ _ hp
    have hq' := g1 _ _ hq
    refine ⟨_, p1, _, _, _, true, rfl, upd_same, .cons (.ty _) (.cons (.ty _) .nil), .base (TyOf.tup hq'), kitAny_cons (kit_ty (by decide +kernel : kitB "tuple" "tuple" = some true)) (fun z => nomatch z) (fun _ => rfl), _, rfl, iteF ?_⟩
    refine ⟨_, rfl, p, xs, rfl, .inr (SqT.of hp'), _, rfl, q0, ys, rfl, .inr (SqT.of hq'), rfl, _, rfl, ?_⟩
    have el : V.int (xs.length : Int) = V.int (ys.length : Int) := by rw [hlen]
    refine if_pos' (decide_eq_true el) ?_
    refine ⟨_, rfl, q0, ys, rfl, .inr (SqT.of hq'), _, rfl, by omega, by omega, fun D hD => ?_⟩
    have en : ((ys.length : Int)).toNat = ys.length := by omega
    refine lc_range (lo := 0) (n := ((ys.length : Int)).toNat) (fun i H' => Same (upd H p1 (.tup [.ty "tuple", .ty "list"])) H' ∧ H' D = some (.lst ((List.replicate i true).map V.bl))) ?_ ?_ ?_
    · exact ⟨same_new hD _, upd_same⟩
    · rintro i H' hi ⟨sm, hd'⟩
      refine ⟨rfl, lc_yes ?_⟩
      have hi1 : i < xs.length := by omega
      have hi2 : i < ys.length := by omega
      refine ⟨_, rfl, _, rfl, p, xs, _, _, rfl, rfl, SqT.of (sm _ _ hp'), at_of (by omega) (List.getElem?_eq_getElem hi1), _, rfl, _, rfl, q0, ys, _, _, rfl, rfl, SqT.of (sm _ _ hq'), at_of (by omega) (List.getElem?_eq_getElem hi2), ?_⟩
      refine ⟨_, _, rfl, (hall i _ _ (List.getElem?_eq_getElem hi1) (List.getElem?_eq_getElem hi2)).same (g1.trans sm), fun H2 s2 => ?_⟩
      refine ⟨_, s2 _ _ hd', ?_, ?_, ?_⟩
      · rw [List.length_map, List.length_replicate]
        exact Nat.lt_of_lt_of_le (by omega : i < 100000) (sz (Nat.le_refl _))
      · exact fun a o e => by rw [upd_ne (ne_of_none e hD)]; exact s2 _ _ (sm _ _ e)
      · rw [upd_same, List.replicate_succ', List.map_append]
        rfl
    · rintro H' ⟨sm, hd'⟩
      refine ⟨D, _, rfl, SqL.of hd', ?_⟩
      have ea : (List.replicate ((ys.length : Int)).toNat true).all id = true := by simp
      rw [ea]
      exact q _ (g1.trans sm)
  ·
    refine ⟨_, (pss_cons (ps_if (pt_val (pe_callB call_isi rfl B.isinstance bt_isinstance (pa_cons (pv 1) (pa_cons (pe_bltn (v := .ty "dict") rfl B.dict bt_dict rfl) pa_nil)))) pss_never pss_nil) (pss_cons (ps_if (PW.pt (pw_or (pt_cmpR op_ne (pe_callB call_isi rfl B.isinstance bt_isinstance (pa_cons (pv 1) (pa_cons (pe_bltn (v := .ty "tuple") rfl B.tuple bt_tuple rfl) pa_nil))) (pe_callB call_isi rfl B.isinstance bt_isinstance (pa_cons (pv 0) (pa_cons (pe_bltn (v := .ty "tuple") rfl B.tuple bt_tuple rfl) pa_nil))) (nomark _)) (pw_or1 (pt_cmpR op_ne (pe_callB call_isi rfl B.isinstance bt_isinstance (pa_cons (pv 1) (pa_cons (pe_bltn (v := .ty "list") rfl B.list bt_list rfl) pa_nil))) (pe_callB call_isi rfl B.isinstance bt_isinstance (pa_cons (pv 0) (pa_cons (pe_bltn (v := .ty "list") rfl B.list bt_list rfl) pa_nil))) (nomark _))))) pss_never pss_nil) (pss_cons (ps_if (pt_not (pt_val (pe_callB call_isiT rfl B.isinstance bt_isinstance (pa_cons (pv 1) (pa_cons (pe_tup (pa_cons (pe_bltn (v := .ty "tuple") rfl B.tuple bt_tuple rfl) (pa_cons (pe_bltn (v := .ty "list") rfl B.list bt_list rfl) pa_nil))) pa_nil))))) pss_never pss_nil) (pss_one (ps_ret (pe_and (pe_cmpR op_eq (pe_callB call_len_seq rfl B.len bt_len (pa_cons (pv 0) pa_nil)) (pe_callB call_len_seq rfl B.len bt_len (pa_cons (pv 1) pa_nil)) (nomark _)) (pe_one (pe_callB (cr_all rfl) rfl B.all bt_all (pa_cons (pe_lc (own := [("_law_k", 2)]) (g := gName 2) (tt := tYes) rfl sc_like.nd (pi_range1 rfl B.range (pa_cons (pe_callB call_len_seq rfl B.len bt_len (pa_cons (pv 1) pa_nil)) pa_nil)) (blkOk_by (own := [("_law_k", 2)]) (N := ["_law_found", "_law_due_here", "_law_k"]) (sc := defScope s_like) (by decide +kernel)) (fun _ _ _ _ _ => pg_name (i := 2) sc_like.nd rfl (Or.inl rfl)) (fun _ _ _ _ _ => pts_nil) (fun _ _ _ _ _ => (pe_cal c_like hr (pa_cons (pe_ix (r := rIxL K) ix_list (pv 0) (pv 2) (fun _ _ => rfl)) (pa_cons (pe_ix (r := rIxL K) ix_list (pv 1) (pv 2) (fun _ _ => rfl)) pa_nil)) (Nat.le_refl _)))) pa_nil))))))))), ?_⟩
    refine ⟨_, rfl, _, _, _, _, _, rfl, .ty _, .base (TyOf.lst hq), kit_ty (by decide +kernel : kitB "list" "dict" = some false), _, rfl, iteF ?_⟩
    refine ⟨_, rfl, _, _, _, _, _, rfl, .ty _, .base (TyOf.lst hq), kit_ty (by decide +kernel : kitB "list" "tuple" = some false), _, rfl, _, _, _, _, _, rfl, .ty _, .base (TyOf.lst hp), kit_ty (by decide +kernel : kitB "list" "tuple" = some false), rfl, _, rfl, iteF ?_⟩
    refine ⟨_, rfl, _, _, _, _, _, rfl, .ty _, .base (TyOf.lst hq), kit_ty (by decide +kernel : kitB "list" "list" = some true), _, rfl, _, _, _, _, _, rfl, .ty _, .base (TyOf.lst hp), kit_ty (by decide +kernel : kitB "list" "list" = some true), rfl, _, rfl, iteF ?_⟩
    refine ⟨_, rfl, sz (by decide : 2 ≤ 100000), fun p1 hp1 => ?_⟩
    have g1 := same_new hp1 (.tup [.ty "tuple", .ty "list"])
    have hp' := g1 _ _ hp
    have hq' := g1 _ _ hq
    refine ⟨_, p1, _, _, _, true, rfl, upd_same, .cons (.ty _) (.cons (.ty _) .nil), .base (TyOf.lst hq'), kitAny_cons (kit_ty (by decide +kernel : kitB "list" "tuple" = some false)) (fun _ => kitAny_cons (kit_ty (by decide +kernel : kitB "list" "list" = some true)) (fun z => nomatch z) (fun _ => rfl)) (fun z => nomatch z), _, rfl, iteF ?_⟩
    refine ⟨_, rfl, p, xs, rfl, .inl (SqL.of hp'), _, rfl, q0, ys, rfl, .inl (SqL.of hq'), rfl, _, rfl, ?_⟩
    have el : V.int (xs.length : Int) = V.int (ys.length : Int) := by rw [hlen]
    refine if_pos' (decide_eq_true el) ?_
    refine ⟨_, rfl, q0, ys, rfl, .inl (SqL.of hq'), _, rfl, by omega, by omega, fun D hD => ?_⟩
    have en : ((ys.length : Int)).toNat = ys.length := by omega
    refine lc_range (lo := 0) (n := ((ys.length : Int)).toNat) (fun i H' => Same (upd H p1 (.tup [.ty "tuple", .ty "list"])) H' ∧ H' D = some (.lst ((List.replicate i true).map V.bl))) ?_ ?_ ?_
    · exact ⟨same_new hD _, upd_same⟩
    · rintro i H' hi ⟨sm, hd'⟩
      refine ⟨rfl, lc_yes ?_⟩
      have hi1 : i < xs.length := by omega
      have hi2 : i < ys.length := by omega
      refine ⟨_, rfl, _, rfl, p, xs, _, _, rfl, rfl, SqL.of (sm _ _ hp'), at_of (by omega) (List.getElem?_eq_getElem hi1), _, rfl, _, rfl, q0, ys, _, _, rfl, rfl, SqL.of (sm _ _ hq'), at_of (by omega) (List.getElem?_eq_getElem hi2), ?_⟩
      refine ⟨_, _, rfl, (hall i _ _ (List.getElem?_eq_getElem hi1) (List.getElem?_eq_getElem hi2)).same (g1.trans sm), fun H2 s2 => ?_⟩
      refine ⟨_, s2 _ _ hd', ?_, ?_, ?_⟩
      · rw [List.length_map, List.length_replicate]
        exact Nat.lt_of_lt_of_le (by omega : i < 100000) (sz (Nat.le_refl _))
      · exact fun a o e => by rw [upd_ne (ne_of_none e hD)]; exact s2 _ _ (sm _ _ e)
      · rw [upd_same, List.replicate_succ', List.map_append]
        rfl
    · rintro H' ⟨sm, hd'⟩
      refine ⟨D, _, rfl, SqL.of hd', ?_⟩
      have ea : (List.replicate ((ys.length : Int)).toNat true).all id = true := by simp
      rw [ea]
      exact q _ (g1.trans sm)

theorem ok_like (B : Blt mg) (F : Fun K "_law_like" "_law_like" s_like f fd) (b : Binds K fd ["_law_found", "_law_due_here"] []) (m : mg "_law_like" = some (.ref f)) : ∀ n : Nat, FnOk P w K mg base CX0 (n + 1) f fd ["_law_found", "_law_due_here"] (spLike n)
  | 0 => ok_like0 B F
  | n + 1 => ok_likeS B F ⟨f, fd, ok_like B F b m n, b, F.kp, m⟩
end
end DM

namespace DM
open PySem L2
/-- a pair of numbers from -40 to 40 -/
def Pt (H : Hp) (p : Addr) (x y : Int) : Prop := H p = some (.tup [.int x, .int y]) ∧ -40 ≤ x ∧ x ≤ 40 ∧ -40 ≤ y ∧ y ≤ 40
theorem Pt.same {H H' : Hp} {p : Addr} {x y : Int} (h : Pt H p x y) (e : Same H H') : Pt H' p x y := ⟨e _ _ h.1, h.2⟩
theorem Pt.but {H H' : Hp} {b l p : Addr} {x y : Int} (h : Pt H p x y) (hB : BagAt H b l) (e : But b H H') : Pt H' p x y := ⟨e _ _ (bag_tup hB h.1) h.1, h.2⟩
def spClip : Sp := fun vs H Q _ => ∃ n : Int, vs = [.int n] ∧ ∀ r : Int, -40 ≤ r → r ≤ 40 → Q (.int r) H
def spSpot : Sp := fun vs H Q _ => ∃ (b l pb : Addr) (x y m : Int), vs = [.ref b, .ref pb, .int m] ∧ BagAt H b l ∧ H pb = some (.tup [.int x, .int y]) ∧ 0 < m ∧ m ≤ 1000 ∧ ∀ (p : Addr) (H' : Hp) (x' y' : Int), BagAt H' b l → But b H H' → Pt H' p x' y' → Q (.ref p) H'
def spBase : Sp := fun vs H Q _ => ∃ (b l : Addr), vs = [.ref b] ∧ BagAt H b l ∧ ∀ (p : Addr) (H' : Hp) (x y : Int), BagAt H' b l → But b H H' → H' p = some (.tup [.int x, .int y]) → Q (.ref p) H'
section
variable {P : Program} {w : World} {K : PySem.W.Frag} {mg : Str → Option Value} {base : Heap} {f : Addr} {fd : FuncData}
abbrev s_clipped : Stmt := top 45
theorem sc_clipped : FnScope ["_law_number"] ["_law_number"] (defScope s_clipped) := ⟨rfl, rfl, rfl, by decide +kernel, rfl, by decide +kernel, by decide +kernel⟩
theorem ok_clipped (B : Blt mg) (F : Fun K "_law_clipped" "_law_clipped" s_clipped f fd) : FnOk P w K mg base CX0 1 f fd ["_law_number"] spClip := by
  refine F.ok sc_clipped (fun vs H Q E h => ?_) (fun cdv A outer s H vs Q E hr h => ?_)
  · obtain ⟨n, rfl, _⟩ := h
    rfl
  obtain ⟨n, rfl, q⟩ := h
  refine ⟨_, (pss_one (ps_ret (pe_callB (call_max2 rfl) rfl B.max bt_max (pa_cons (pe_un un_neg pe_int) (pa_cons (pe_callB (call_min2 rfl) rfl B.min bt_min (pa_cons pe_int (pa_cons (pv 0) pa_nil))) pa_nil))))), ?_⟩
  refine ⟨_, rfl, _, rfl, _, _, rfl, _, _, rfl, ?_⟩
  refine q _ ?_ ?_ <;> split <;> split <;> omega
abbrev s_spot : Stmt := top 46
theorem sc_spot : FnScope ["_law_bag_here", "_law_base_here", "_law_wide", "_law_x"] ["_law_bag_here", "_law_base_here", "_law_wide"] (defScope s_spot) := ⟨rfl, rfl, rfl, by decide +kernel, rfl, by decide +kernel, by decide +kernel⟩
theorem ok_spot (c_pull : Cal P w K mg base 1 "_law_pull" ["_law_bag_here", "_law_amount"] spPull) (c_clipped : Cal P w K mg base 1 "_law_clipped" ["_law_number"] spClip) (F : Fun K "_law_spot" "_law_spot" s_spot f fd) : FnOk P w K mg base CX0 2 f fd ["_law_bag_here", "_law_base_here", "_law_wide"] spSpot := by
  refine F.ok sc_spot (fun vs H Q E h => ?_) (fun cdv A outer s H vs Q E hr h => ?_)
  · obtain ⟨b, l, pb, x, y, m, rfl, _⟩ := h
    rfl
  obtain ⟨b, l, pb, x, y, m, rfl, hB, hp, m0, m1, q⟩ := h
  refine ⟨_, (pss_cons (ps_set (i := 3) sc_spot.nd rfl (Or.inl rfl) (pe_cal c_clipped hr (pa_cons (pe_op op_sub (pe_op op_add (pe_ix ix_tup (pv 1) pe_int (fun _ _ => rfl)) (pe_cal c_pull hr (pa_cons (pv 0) (pa_cons (pe_op op_add (pe_op op_mul pe_int (pv 2)) pe_int) pa_nil)))) (pv 2)) pa_nil)))
    (pss_one (ps_ret (pe_tup (pa_cons (pv 3) (pa_cons (pe_cal c_clipped hr (pa_cons (pe_op op_sub (pe_op op_add (pe_ix ix_tup (pv 1) pe_int (fun _ _ => rfl)) (pe_cal c_pull hr (pa_cons (pv 0) (pa_cons (pe_op op_add (pe_op op_mul pe_int (pv 2)) pe_int) pa_nil)))) (pv 2)) pa_nil)) pa_nil)))))), ?_⟩
  refine ⟨_, rfl, pb, _, _, _, rfl, rfl, SqT.of hp, rfl, _, rfl, _, rfl, _, _, rfl, rfl, .inl ⟨by decide, by decide⟩, _, _, rfl, rfl, b, _, _, rfl, hB, by omega, by omega, fun r1 H1 hB1 bt1 r10 r11 => ?_⟩
  refine ⟨_, _, rfl, rfl, _, rfl, _, _, rfl, rfl, _, rfl, fun x' hx1 hx2 => ?_⟩
  have hp1 := bt1 _ _ (bag_tup hB hp) hp
  refine ⟨_, rfl, _, rfl, pb, _, _, _, rfl, rfl, SqT.of hp1, rfl, _, rfl, _, rfl, _, _, rfl, rfl, .inl ⟨by decide, by decide⟩, _, _, rfl, rfl, b, _, _, rfl, hB1, by omega, by omega, fun r2 H2 hB2 bt2 r20 r21 => ?_⟩
  refine ⟨_, _, rfl, rfl, _, rfl, _, _, rfl, rfl, _, rfl, fun y' hy1 hy2 => ?_⟩
  refine ⟨sz (by decide : 2 ≤ 100000), fun p hpn => ?_⟩
  exact q p _ x' y' (hB2.same (same_new hpn _)) ((bt1.trans bt2).trans (But.of (same_new hpn _))) ⟨upd_same, hx1, hx2, hy1, hy2⟩
abbrev s_base : Stmt := top 47
theorem sc_base : FnScope ["_law_bag_here", "_law_far"] ["_law_bag_here"] (defScope s_base) := ⟨rfl, rfl, rfl, by decide +kernel, rfl, by decide +kernel, by decide +kernel⟩
theorem ok_base (c_pull : Cal P w K mg base 1 "_law_pull" ["_law_bag_here", "_law_amount"] spPull) (c_of : Cal P w K mg base 2 "_law_of" ["_law_bag_here", "_law_things"] spOf) (F : Fun K "_law_base" "_law_base" s_base f fd) : FnOk P w K mg base CX0 3 f fd ["_law_bag_here"] spBase := by
  refine F.ok sc_base (fun vs H Q E h => ?_) (fun cdv A outer s H vs Q E hr h => ?_)
  · obtain ⟨b, l, rfl, _⟩ := h
    rfl
  obtain ⟨b, l, rfl, hB, q⟩ := h
  refine ⟨_, (pss_cons (ps_set (i := 1) sc_base.nd rfl (Or.inl rfl) (pe_tup (pa_cons (pe_op op_sub (pe_cal c_pull hr (pa_cons (pv 0) (pa_cons pe_int pa_nil))) pe_int) (pa_cons (pe_op op_sub (pe_cal c_pull hr (pa_cons (pv 0) (pa_cons pe_int pa_nil))) pe_int) pa_nil))))
    (pss_one (ps_ret (pe_cal c_of hr (pa_cons (pv 0) (pa_cons (pe_lst (pa_cons (pe_tup (pa_cons pe_int (pa_cons pe_int pa_nil))) (pa_cons (pe_tup (pa_cons pe_int (pa_cons pe_int pa_nil))) (pa_cons (pe_tup (pa_cons pe_int (pa_cons pe_int pa_nil))) (pa_cons (pe_tup (pa_cons (pe_un un_neg pe_int) (pa_cons (pe_un un_neg pe_int) pa_nil))) (pa_cons (pe_tup (pa_cons pe_int (pa_cons pe_int pa_nil))) (pa_cons (pe_tup (pa_cons pe_int (pa_cons (pe_un un_neg pe_int) pa_nil))) (pa_cons (pv 1) pa_nil)))))))) pa_nil)))))), ?_⟩
  refine ⟨_, rfl, b, _, _, rfl, hB, by decide, by decide, fun r1 H1 hB1 bt1 r10 r11 => ?_⟩
  refine ⟨_, _, rfl, rfl, _, rfl, b, _, _, rfl, hB1, by decide, by decide, fun r2 H2 hB2 bt2 r20 r21 => ?_⟩
  refine ⟨_, _, rfl, rfl, sz (by decide : 2 ≤ 100000), fun p0 n0 => ?_⟩
  refine ⟨_, rfl, sz (by decide : 2 ≤ 100000), fun p1 n1 => ⟨sz (by decide : 2 ≤ 100000), fun p2 n2 => ⟨sz (by decide : 2 ≤ 100000), fun p3 n3 => ?_⟩⟩⟩
  refine ⟨_, rfl, _, rfl, sz (by decide : 2 ≤ 100000), fun p4 n4 => ⟨sz (by decide : 2 ≤ 100000), fun p5 n5 => ?_⟩⟩
  refine ⟨_, rfl, sz (by decide : 2 ≤ 100000), fun p6 n6 => ?_⟩
  refine ⟨_, rfl, sz (by decide : 7 ≤ 100000), fun p7 n7 => ?_⟩
  have g0 := same_new n0 (.tup [.int (r1 - 40), .int (r2 - 40)])
  have g1 := same_new n1 (.tup [.int 0, .int 0])
  have g2 := same_new n2 (.tup [.int 0, .int 0])
  have g3 := same_new n3 (.tup [.int 0, .int 0])
  have g4 := same_new n4 (.tup [.int (-38), .int (-38)])
  have g5 := same_new n5 (.tup [.int 38, .int 38])
  have g6 := same_new n6 (.tup [.int 37, .int (-39)])
  have g7 := same_new n7 (.lst [.ref p1, .ref p2, .ref p3, .ref p4, .ref p5, .ref p6, .ref p0])
  have gA := g0.trans (g1.trans (g2.trans (g3.trans (g4.trans (g5.trans (g6.trans g7))))))
  have hB3 := hB2.same gA
  have e0 := (g1.trans (g2.trans (g3.trans (g4.trans (g5.trans (g6.trans g7)))))) _ _ upd_same
  have e1 := (g2.trans (g3.trans (g4.trans (g5.trans (g6.trans g7))))) _ _ upd_same
  have e2 := (g3.trans (g4.trans (g5.trans (g6.trans g7)))) _ _ upd_same
  have e3 := (g4.trans (g5.trans (g6.trans g7))) _ _ upd_same
  have e4 := (g5.trans (g6.trans g7)) _ _ upd_same
  have e5 := (g6.trans g7) _ _ upd_same
  have e6 := g7 _ _ upd_same
  obtain ⟨ys, eb⟩ := (hB2.same (g0.trans (g1.trans (g2.trans (g3.trans (g4.trans (g5.trans g6))))))).hasB
  refine ⟨b, _, p7, _, rfl, hB3, upd_same, Ne.symm (ne_of_none eb n7), by show 0 < 7; decide, by show 7 ≤ 1000; decide, fun v H' hB' bt' hv => ?_⟩
  have btA := (bt1.trans bt2).trans ((But.of gA).trans bt')
  have fin : ∀ (p : Addr) (x y : Int), upd _ p7 _ p = some (.tup [.int x, .int y]) → Q (.ref p) H' := fun p x y e => q p H' x y hB' btA (bt' _ _ (bag_tup hB3 e) e)
  simp only [List.mem_cons, List.not_mem_nil, or_false] at hv
  rcases hv with rfl | rfl | rfl | rfl | rfl | rfl | rfl
  · exact fin _ _ _ e1
  · exact fin _ _ _ e2
  · exact fin _ _ _ e3
  · exact fin _ _ _ e4
  · exact fin _ _ _ e5
  · exact fin _ _ _ e6
  · exact fin _ _ _ e0
end
end DM

namespace DM
open PySem L2
/-- a pair of numbers as data -/
theorem dp_pair {K : PySem.W.Frag} {H : Hp} {p : Addr} {x y : Int} (h : H p = some (.tup [.int x, .int y])) : Dp K H (.ref p) (.tuple [.int x, .int y]) := .tup (SqT.of h) (.cons (.int x) (.cons (.int y) .nil))
theorem dp_four {K : PySem.W.Frag} {H : Hp} {p : Addr} {x y z w : Int} (h : H p = some (.tup [.int x, .int y, .int z, .int w])) : Dp K H (.ref p) (.tuple [.int x, .int y, .int z, .int w]) := .tup (SqT.of h) (.cons (.int x) (.cons (.int y) (.cons (.int z) (.cons (.int w) .nil))))
theorem eqv_pair (a b c d : Int) : PyData.eqv (.tuple [.int a, .int b]) (.tuple [.int c, .int d]) = decide (a = c ∧ b = d) := by
  simp only [PyData.eqv, PyData.eqvAll, Bool.and_true, Bool.decide_and]
  rfl
theorem shaped_pair (a b : Int) : SeqAt.shaped (.tuple [.int a, .int b]) = true := by
  first | rfl | simp [SeqAt.shaped, PyData.canLay0, PyData.depth]
end DM

namespace DM
open PySem L2
/-! ### a stroke as a tuple -/
def Stk (H : Hp) (p : Addr) (x1 y1 x2 y2 : Int) : Prop := H p = some (.tup [.int x1, .int y1, .int x2, .int y2]) ∧ (-40 ≤ x1 ∧ x1 ≤ 40 ∧ -40 ≤ y1 ∧ y1 ≤ 40 ∧ -40 ≤ x2 ∧ x2 ≤ 40 ∧ -40 ≤ y2 ∧ y2 ≤ 40) ∧ ¬ (x1 = x2 ∧ y1 = y2)
theorem Stk.same {H H' : Hp} {p : Addr} {x1 y1 x2 y2 : Int} (h : Stk H p x1 y1 x2 y2) (e : Same H H') : Stk H' p x1 y1 x2 y2 := ⟨e _ _ h.1, h.2⟩
theorem Stk.but {H H' : Hp} {b l p : Addr} {x1 y1 x2 y2 : Int} (h : Stk H p x1 y1 x2 y2) (hB : BagAt H b l) (e : But b H H') : Stk H' p x1 y1 x2 y2 := ⟨e _ _ (bag_tup hB h.1) h.1, h.2⟩
def spStroke : Sp := fun vs H Q _ => ∃ (b l pb : Addr) (x y m : Int), vs = [.ref b, .ref pb, .int m] ∧ BagAt H b l ∧ H pb = some (.tup [.int x, .int y]) ∧ 0 < m ∧ m ≤ 1000 ∧ ∀ (p : Addr) (H' : Hp) (x1 y1 x2 y2 : Int), BagAt H' b l → But b H H' → Stk H' p x1 y1 x2 y2 → Q (.ref p) H'
section
variable {P : Program} {w : World} {K : PySem.W.Frag} {mg : Str → Option Value} {base : Heap} {f : Addr} {fd : FuncData}
abbrev s_stroke : Stmt := top 48
theorem sc_stroke : FnScope ["_law_bag_here", "_law_base_here", "_law_wide", "_law_one", "_law_other"] ["_law_bag_here", "_law_base_here", "_law_wide"] (defScope s_stroke) := ⟨rfl, rfl, rfl, by decide +kernel, rfl, by decide +kernel, by decide +kernel⟩
theorem ok_stroke (c_spot : Cal P w K mg base 2 "_law_spot" ["_law_bag_here", "_law_base_here", "_law_wide"] spSpot) (F : Fun K "_law_stroke" "_law_stroke" s_stroke f fd) : FnOk P w K mg base CX0 3 f fd ["_law_bag_here", "_law_base_here", "_law_wide"] spStroke := by
  refine F.ok sc_stroke (fun vs H Q E h => ?_) (fun cdv A outer s H vs Q E hr h => ?_)
  · obtain ⟨b, l, pb, x, y, m, rfl, _⟩ := h
    rfl
  obtain ⟨b, l, pb, x, y, m, rfl, hB, hp, m0, m1, q⟩ := h
  refine ⟨_, (pss_cons (ps_par (i := 3) (j := 4) (by rfl) sc_stroke.nd rfl rfl (by decide) rfl rfl (pa_cons (pe_cal c_spot hr (pa_cons (pv 0) (pa_cons (pv 1) (pa_cons (pv 2) pa_nil)))) (pa_cons (pe_cal c_spot hr (pa_cons (pv 0) (pa_cons (pv 1) (pa_cons (pv 2) pa_nil)))) pa_nil)) (by rfl))
    (pss_cons (ps_if (pt_cmpR (op_eqD hr.units) (pv 3) (pv 4) (nomark _))
    (pss_one (ps_set (i := 4) sc_stroke.nd rfl (Or.inl rfl) (pe_tup (pa_cons (pe_op op_add (pe_ix ix_tup (pv 4) pe_int (fun _ _ => rfl)) (pe_ifExp (pt_cmpR op_lt (pe_ix ix_tup (pv 4) pe_int (fun _ _ => rfl)) pe_int (nomark _)) pe_int (pe_un un_neg pe_int))) (pa_cons (pe_ix ix_tup (pv 4) pe_int (fun _ _ => rfl)) pa_nil)))))
    pss_nil)
    (pss_one (ps_ret (pe_op op_catT (pv 3) (pv 4)))))), ?_⟩
  refine ⟨_, rfl, _, rfl, _, rfl, b, _, pb, x, y, m, rfl, hB, hp, m0, m1, fun p1 H1 x1 y1 hB1 bt1 h1 => ?_⟩
  have hp1 := bt1 _ _ (bag_tup hB hp) hp
  refine ⟨_, rfl, _, rfl, _, rfl, b, _, pb, x, y, m, rfl, hB1, hp1, m0, m1, fun p2 H2 x2 y2 hB2 bt2 h2 => ?_⟩
  have h1' := h1.but hB1 bt2
  refine ⟨_, _, rfl, ?_⟩
  dsimp only
  have bt := bt1.trans bt2
  refine seq_with (fun σ' H' => ∃ (p : Addr) (u v : Int), σ' = [some (.ref b), some (.ref pb), some (.int m), some (.ref p1), some (.ref p)] ∧ BagAt H' b l ∧ But b H H' ∧ Pt H' p1 x1 y1 ∧ Pt H' p u v ∧ ¬ (x1 = u ∧ y1 = v)) (fun R hR => ?_) ?_
  · refine ⟨_, rfl, _, rfl, _, _, dp_pair h1'.1, dp_pair h2.1, shaped_pair _ _, shaped_pair _ _, _, rfl, ?_⟩
    rw [eqv_pair]
    by_cases c : x1 = x2 ∧ y1 = y2
    · refine iteDT c ?_
      have b2 := h2.2
      refine ⟨_, rfl, p2, _, _, _, rfl, rfl, SqT.of h2.1, rfl, _, rfl, p2, _, _, _, rfl, rfl, SqT.of h2.1, rfl, _, _, rfl, rfl, _, rfl, ?_⟩
      by_cases d : x2 < 40
      · refine iteDT d ?_
        refine ⟨_, _, rfl, rfl, _, rfl, p2, _, _, _, rfl, rfl, SqT.of h2.1, rfl, sz (by decide : 2 ≤ 100000), fun p3 n3 => ?_⟩
        have g := same_new n3 (.tup [.int (x2 + 1), .int y2])
        exact hR _ _ ⟨p3, x2 + 1, y2, rfl, hB2.same g, bt.trans (But.of g), h1'.same g, ⟨upd_same, by omega⟩, by omega⟩
      · refine iteDF d ?_
        refine ⟨_, rfl, _, _, rfl, rfl, _, rfl, p2, _, _, _, rfl, rfl, SqT.of h2.1, rfl, sz (by decide : 2 ≤ 100000), fun p3 n3 => ?_⟩
        have g := same_new n3 (.tup [.int (x2 + -1), .int y2])
        exact hR _ _ ⟨p3, x2 + -1, y2, rfl, hB2.same g, bt.trans (But.of g), h1'.same g, ⟨upd_same, by omega⟩, by omega⟩
    · refine iteDF c ?_
      exact hR _ _ ⟨p2, x2, y2, rfl, hB2, bt, h1', h2, c⟩
  · rintro σ' H' ⟨p, u, v, rfl, hB', bt', k1, k2, hne⟩
    refine ⟨_, rfl, _, rfl, p1, p, _, _, rfl, rfl, SqT.of k1.1, SqT.of k2.1, (by intro z; cases z), sz (by decide : 4 ≤ 100000), (fun z => by cases z), fun _ p4 n4 => ?_⟩
    have g := same_new n4 (.tup [.int x1, .int y1, .int u, .int v])
    obtain ⟨_, c1⟩ := k1
    obtain ⟨_, c2⟩ := k2
    exact q p4 _ x1 y1 u v (hB'.same g) (bt'.trans (But.of g)) ⟨upd_same, by omega, hne⟩
end
end DM

namespace DM
/-! ### fractions as pairs, by products -/
theorem fr_trans {a A b B c C : Int} (hB : 0 < B) (hA : 0 ≤ A) (hC : 0 ≤ C) (h1 : a * B ≤ b * A) (h2 : b * C ≤ c * B) : a * C ≤ c * A := by
  have e1 := Int.mul_le_mul_of_nonneg_right h1 hC
  have e2 := Int.mul_le_mul_of_nonneg_right h2 hA
  have e3 : b * A * C = b * C * A := by simp only [Int.mul_comm, Int.mul_left_comm]
  have e4 : a * B * C = B * (a * C) := by simp only [Int.mul_comm, Int.mul_left_comm]
  have e5 : c * B * A = B * (c * A) := by simp only [Int.mul_comm, Int.mul_left_comm]
  rw [e3] at e1
  exact Int.le_of_mul_le_mul_left (by omega : B * (a * C) ≤ B * (c * A)) hB
def later (p q : Int × Int) : Int × Int := if p.1 * q.2 > q.1 * p.2 then p else q
def sooner (p q : Int × Int) : Int × Int := if p.1 * q.2 < q.1 * p.2 then p else q
theorem later_pos {p q : Int × Int} (h1 : 0 < p.2) (h2 : 0 < q.2) : 0 < (later p q).2 := by
  unfold later
  split
  · exact h1
  · exact h2
theorem sooner_pos {p q : Int × Int} (h1 : 0 < p.2) (h2 : 0 < q.2) : 0 < (sooner p q).2 := by
  unfold sooner
  split
  · exact h1
  · exact h2
/-- no later than n / m: both are -/
theorem later_le {p q : Int × Int} {n m : Int} (h1 : 0 < p.2) (h2 : 0 < q.2) (hm : 0 ≤ m) : (later p q).1 * m ≤ n * (later p q).2 ↔ p.1 * m ≤ n * p.2 ∧ q.1 * m ≤ n * q.2 := by
  unfold later
  split
  · rename_i c
    refine ⟨fun h => ⟨h, ?_⟩, fun h => h.1⟩
    exact fr_trans h1 (by omega) hm (show q.1 * p.2 ≤ p.1 * q.2 by omega) h
  · rename_i c
    refine ⟨fun h => ⟨?_, h⟩, fun h => h.2⟩
    exact fr_trans h2 (by omega) hm (show p.1 * q.2 ≤ q.1 * p.2 by omega) h
theorem sooner_ge {p q : Int × Int} {n m : Int} (h1 : 0 < p.2) (h2 : 0 < q.2) (hm : 0 ≤ m) : n * (sooner p q).2 ≤ (sooner p q).1 * m ↔ n * p.2 ≤ p.1 * m ∧ n * q.2 ≤ q.1 * m := by
  unfold sooner
  split
  · rename_i c
    refine ⟨fun h => ⟨h, ?_⟩, fun h => h.1⟩
    exact fr_trans h1 hm (by omega) h (show p.1 * q.2 ≤ q.1 * p.2 by omega)
  · rename_i c
    refine ⟨fun h => ⟨?_, h⟩, fun h => h.2⟩
    exact fr_trans h2 hm (by omega) h (show q.1 * p.2 ≤ p.1 * q.2 by omega)
/-! ### one axis: begin + step * t from low to high -/
def clip (b s lo hi : Int) : Option ((Int × Int) × (Int × Int)) :=
  if s = 0 then (if lo ≤ b ∧ b ≤ hi then some ((0, 1), (1, 1)) else none) else if s < 0 then some ((b - hi, 0 - s), (b - lo, 0 - s)) else some ((lo - b, s), (hi - b, s))
/-- at n / m within, both rims counted -/
def Clo (b s lo hi n m : Int) : Prop := 0 ≤ (b - lo) * m + s * n ∧ 0 ≤ (hi - b) * m - s * n
theorem clip_none {b s lo hi : Int} (h : clip b s lo hi = none) {n m : Int} (hm : 0 < m) : ¬ Clo b s lo hi n m := by
  unfold clip at h
  split at h
  · rename_i hs
    split at h
    · cases h
    · rename_i c
      subst hs
      unfold Clo
      rw [Int.zero_mul]
      intro ⟨h1, h2⟩
      apply c
      have a1 : 0 ≤ (b - lo) * m := by omega
      have a2 : 0 ≤ (hi - b) * m := by omega
      constructor
      · rcases Int.lt_or_le b lo with z | z
        · have := Int.mul_neg_of_neg_of_pos (show b - lo < 0 by omega) hm
          omega
        · exact z
      · rcases Int.lt_or_le hi b with z | z
        · have := Int.mul_neg_of_neg_of_pos (show hi - b < 0 by omega) hm
          omega
        · exact z
  · split at h <;> cases h
theorem clip_some {b s lo hi : Int} {p q : Int × Int} (h : clip b s lo hi = some (p, q)) : 0 < p.2 ∧ 0 < q.2 ∧ ∀ n m : Int, 0 < m → 0 ≤ n → n ≤ m → (Clo b s lo hi n m ↔ p.1 * m ≤ n * p.2 ∧ n * q.2 ≤ q.1 * m) := by
  unfold clip at h
  split at h
  · rename_i hs
    split at h
    · rename_i c
      cases h
      refine ⟨by decide, by decide, fun n m hm h0 h1 => ?_⟩
      subst hs
      unfold Clo
      rw [Int.zero_mul, Int.zero_mul, Int.mul_one, Int.one_mul]
      refine ⟨fun _ => ⟨h0, h1⟩, fun _ => ?_⟩
      have a1 := Int.mul_nonneg (show 0 ≤ b - lo by omega) (show 0 ≤ m by omega)
      have a2 := Int.mul_nonneg (show 0 ≤ hi - b by omega) (show 0 ≤ m by omega)
      omega
    · cases h
  · split at h
    · rename_i hs
      cases h
      refine ⟨by show 0 < 0 - s; omega, by show 0 < 0 - s; omega, fun n m hm h0 h1 => ?_⟩
      unfold Clo
      have e1 : (b - hi) * m = - ((hi - b) * m) := by rw [← Int.neg_mul]; congr 1; omega
      have e2 : n * (0 - s) = - (s * n) := by rw [Int.zero_sub, Int.mul_neg, Int.mul_comm]
      show _ ↔ (b - hi) * m ≤ n * (0 - s) ∧ n * (0 - s) ≤ (b - lo) * m
      rw [e1, e2]
      omega
    · rename_i hs
      cases h
      refine ⟨by show 0 < s; omega, by show 0 < s; omega, fun n m hm h0 h1 => ?_⟩
      unfold Clo
      have e1 : (lo - b) * m = - ((b - lo) * m) := by rw [← Int.neg_mul]; congr 1; omega
      have e2 : n * s = s * n := Int.mul_comm ..
      show _ ↔ (lo - b) * m ≤ n * s ∧ n * s ≤ (hi - b) * m
      rw [e1, e2]
      omega
/-! ### a stroke and a square -/
/-- at n / m on the stroke, in the square (left and lower rim with it) -/
def Ins (x1 y1 x2 y2 sx sy n m : Int) : Prop :=
  (2 * sx - 1) * m ≤ 2 * x1 * m + 2 * (x2 - x1) * n ∧ 2 * x1 * m + 2 * (x2 - x1) * n < (2 * sx + 1) * m ∧ (2 * sy - 1) * m ≤ 2 * y1 * m + 2 * (y2 - y1) * n ∧ 2 * y1 * m + 2 * (y2 - y1) * n < (2 * sy + 1) * m
instance {x1 y1 x2 y2 sx sy n m : Int} : Decidable (Ins x1 y1 x2 y2 sx sy n m) := by unfold Ins; exact inferInstance
/-- the square of (sx, sy) holds a place of the stroke -/
def Thr (x1 y1 x2 y2 sx sy : Int) : Prop := ∃ n m : Int, 0 < m ∧ 0 ≤ n ∧ n ≤ m ∧ Ins x1 y1 x2 y2 sx sy n m
def goesL (x1 y1 x2 y2 sx sy : Int) : Bool :=
  match clip (2 * x1) (2 * (x2 - x1)) (2 * sx - 1) (2 * sx + 1), clip (2 * y1) (2 * (y2 - y1)) (2 * sy - 1) (2 * sy + 1) with
  | some (px, qx), some (py, qy) =>
    let c := later (0, 1) (later px py)
    let e := sooner (1, 1) (sooner qx qy)
    if e.1 * c.2 < c.1 * e.2 then false else decide (Ins x1 y1 x2 y2 sx sy c.1 c.2) || (decide (Ins x1 y1 x2 y2 sx sy e.1 e.2) || decide (Ins x1 y1 x2 y2 sx sy (c.1 * e.2 + e.1 * c.2) (2 * c.2 * e.2)))
  | _, _ => false
/-- a form in (n, m) -/
def lin (u v n m : Int) : Int := u * m + v * n
theorem lin_add (u v n m n' m' k k' : Int) : lin u v (k * n + k' * n') (k * m + k' * m') = k * lin u v n m + k' * lin u v n' m' := by
  unfold lin
  simp only [Int.mul_add, Int.mul_left_comm]
  omega
theorem ins_lin {x1 y1 x2 y2 sx sy n m : Int} : Ins x1 y1 x2 y2 sx sy n m ↔ 0 ≤ lin (2 * x1 - (2 * sx - 1)) (2 * (x2 - x1)) n m ∧ 0 < lin (2 * sx + 1 - 2 * x1) (-(2 * (x2 - x1))) n m ∧ 0 ≤ lin (2 * y1 - (2 * sy - 1)) (2 * (y2 - y1)) n m ∧ 0 < lin (2 * sy + 1 - 2 * y1) (-(2 * (y2 - y1))) n m := by
  unfold Ins lin
  rw [Int.sub_mul (2 * x1), Int.sub_mul (2 * sx + 1), Int.sub_mul (2 * y1), Int.sub_mul (2 * sy + 1), Int.neg_mul, Int.neg_mul]
  omega
theorem clo_lin {b s lo hi n m : Int} : Clo b s lo hi n m ↔ 0 ≤ lin (b - lo) s n m ∧ 0 ≤ lin (hi - b) (-s) n m := by
  unfold Clo lin
  rw [Int.neg_mul]
  omega
theorem mid_ge {u v c C e E : Int} (hC : 0 < C) (hE : 0 < E) (h1 : 0 ≤ lin u v c C) (h2 : 0 ≤ lin u v e E) : 0 ≤ lin u v (c * E + e * C) (2 * C * E) := by
  have e1 : c * E + e * C = E * c + C * e := by rw [Int.mul_comm c, Int.mul_comm e]
  have e2 : 2 * C * E = E * C + C * E := by rw [Int.mul_assoc, Int.mul_comm E C]; omega
  rw [e1, e2, lin_add]
  have a1 := Int.mul_nonneg (show 0 ≤ E by omega) h1
  have a2 := Int.mul_nonneg (show 0 ≤ C by omega) h2
  omega
/-- the middle of two unlike times is strictly within a form that is nowhere below nought and not nought at all -/
theorem mid_gt {u v c C e E n m : Int} (hC : 0 < C) (hE : 0 < E) (hne : c * E ≠ e * C) (h1 : 0 ≤ lin u v c C) (h2 : 0 ≤ lin u v e E) (h3 : 0 < lin u v n m) : 0 < lin u v (c * E + e * C) (2 * C * E) := by
  have e1 : c * E + e * C = E * c + C * e := by rw [Int.mul_comm c, Int.mul_comm e]
  have e2 : 2 * C * E = E * C + C * E := by rw [Int.mul_assoc, Int.mul_comm E C]; omega
  rw [e1, e2, lin_add]
  have a1 := Int.mul_nonneg (show 0 ≤ E by omega) h1
  have a2 := Int.mul_nonneg (show 0 ≤ C by omega) h2
  rcases Int.lt_or_eq_of_le h1 with z1 | z1
  · have := Int.mul_pos hE z1
    omega
  rcases Int.lt_or_eq_of_le h2 with z2 | z2
  · have := Int.mul_pos hC z2
    omega
  exfalso
  unfold lin at z1 z2 h3
  -- u C + v c = 0, u E + v e = 0
  have k1 : (u * C + v * c) * E = 0 := by rw [← z1]; exact Int.zero_mul _
  have k2 : (u * E + v * e) * C = 0 := by rw [← z2]; exact Int.zero_mul _
  have k3 : v * (c * E - e * C) = 0 := by
    rw [Int.mul_sub]
    rw [Int.add_mul] at k1 k2
    have f1 : u * C * E = u * E * C := by simp only [Int.mul_comm, Int.mul_left_comm]
    rw [f1] at k1
    have f2 : v * c * E = v * (c * E) := Int.mul_assoc ..
    have f3 : v * e * C = v * (e * C) := Int.mul_assoc ..
    rw [f2] at k1
    rw [f3] at k2
    omega
  have k4 : v = 0 := by
    rcases Int.mul_eq_zero.mp k3 with z | z
    · exact z
    · omega
  subst k4
  have k5 : u * C = 0 := by rw [Int.zero_mul] at z1; omega
  have k6 : u = 0 := by
    rcases Int.mul_eq_zero.mp k5 with z | z
    · exact z
    · omega
  subst k6
  rw [Int.zero_mul, Int.zero_mul] at h3
  omega
theorem lin_same {u v c C n m : Int} (h : n * C = c * m) : lin u v c C * m = lin u v n m * C := by
  unfold lin
  rw [Int.add_mul, Int.add_mul]
  have f1 : u * C * m = u * m * C := by simp only [Int.mul_comm, Int.mul_left_comm]
  have f2 : v * c * m = v * (c * m) := Int.mul_assoc ..
  have f3 : v * n * C = v * (n * C) := Int.mul_assoc ..
  rw [f1, f2, f3, h]
theorem same_ge {u v c C n m : Int} (hm : 0 < m) (hC : 0 < C) (h : n * C = c * m) (h1 : 0 ≤ lin u v n m) : 0 ≤ lin u v c C := by
  have e := lin_same (u := u) (v := v) h
  have a := Int.mul_nonneg h1 (show 0 ≤ C by omega)
  rcases Int.lt_or_le (lin u v c C) 0 with z | z
  · have := Int.mul_neg_of_neg_of_pos z hm
    omega
  · exact z
theorem same_gt {u v c C n m : Int} (hm : 0 < m) (hC : 0 < C) (h : n * C = c * m) (h1 : 0 < lin u v n m) : 0 < lin u v c C := by
  have e := lin_same (u := u) (v := v) h
  have a := Int.mul_pos h1 hC
  rcases Int.lt_or_le 0 (lin u v c C) with z | z
  · exact z
  · have := Int.mul_le_mul_of_nonneg_right z (show 0 ≤ m by omega)
    omega
theorem goesL_iff (x1 y1 x2 y2 sx sy : Int) : goesL x1 y1 x2 y2 sx sy = true ↔ Thr x1 y1 x2 y2 sx sy := by
  have cx : ∀ {n m : Int}, Ins x1 y1 x2 y2 sx sy n m → Clo (2 * x1) (2 * (x2 - x1)) (2 * sx - 1) (2 * sx + 1) n m ∧ Clo (2 * y1) (2 * (y2 - y1)) (2 * sy - 1) (2 * sy + 1) n m := fun {n m} h => by
    rw [ins_lin] at h
    rw [clo_lin, clo_lin]
    omega
  unfold goesL
  cases ex : clip (2 * x1) (2 * (x2 - x1)) (2 * sx - 1) (2 * sx + 1) with
  | none =>
    refine ⟨fun h => absurd h Bool.false_ne_true, fun ⟨n, m, hm, h0, h1, hi⟩ => ?_⟩
    exact absurd (cx hi).1 (clip_none ex hm)
  | some pq =>
    obtain ⟨px, qx⟩ := pq
    cases ey : clip (2 * y1) (2 * (y2 - y1)) (2 * sy - 1) (2 * sy + 1) with
    | none =>
      refine ⟨fun h => absurd h Bool.false_ne_true, fun ⟨n, m, hm, h0, h1, hi⟩ => ?_⟩
      exact absurd (cx hi).2 (clip_none ey hm)
    | some pq =>
      obtain ⟨py, qy⟩ := pq
      obtain ⟨ax, bx, hx⟩ := clip_some ex
      obtain ⟨ay, bay, hy⟩ := clip_some ey
      dsimp only
      have pc : 0 < (later (0, 1) (later px py)).2 := later_pos (by decide) (later_pos ax ay)
      have pe : 0 < (sooner (1, 1) (sooner qx qy)).2 := sooner_pos (by decide) (sooner_pos bx bay)
      have lc : ∀ {n m : Int}, 0 ≤ m → ((later (0, 1) (later px py)).1 * m ≤ n * (later (0, 1) (later px py)).2 ↔ 0 ≤ n ∧ px.1 * m ≤ n * px.2 ∧ py.1 * m ≤ n * py.2) := fun {n m} h => by
        rw [later_le (by decide) (later_pos ax ay) h, later_le ax ay h]
        show (0 * m ≤ n * 1 ∧ _) ↔ _
        rw [Int.zero_mul, Int.mul_one]
      have le : ∀ {n m : Int}, 0 ≤ m → (n * (sooner (1, 1) (sooner qx qy)).2 ≤ (sooner (1, 1) (sooner qx qy)).1 * m ↔ n ≤ m ∧ n * qx.2 ≤ qx.1 * m ∧ n * qy.2 ≤ qy.1 * m) := fun {n m} h => by
        rw [sooner_ge (by decide) (sooner_pos bx bay) h, sooner_ge bx bay h]
        show (n * 1 ≤ 1 * m ∧ _) ↔ _
        rw [Int.mul_one, Int.one_mul]
      generalize later (0, 1) (later px py) = c at *
      generalize sooner (1, 1) (sooner qx qy) = e at *
      obtain ⟨c, C⟩ := c
      obtain ⟨e, E⟩ := e
      dsimp only at *
      split
      · rename_i hlt
        refine ⟨fun h => absurd h Bool.false_ne_true, fun ⟨n, m, hm, h0, h1, hi⟩ => ?_⟩
        obtain ⟨k1, k2⟩ := cx hi
        have a := (hx n m hm h0 h1).mp k1
        have b := (hy n m hm h0 h1).mp k2
        have r1 := (lc (n := n) (m := m) (by omega)).mpr ⟨h0, a.1, b.1⟩
        have r2 := (le (n := n) (m := m) (by omega)).mpr ⟨h1, a.2, b.2⟩
        have := fr_trans hm (by omega) (by omega) r1 r2
        omega
      · rename_i hle
        have hce : c * E ≤ e * C := by omega
        -- both lie within, closed
        have lcc := (lc (n := c) (m := C) (by omega)).mp (Int.le_refl _)
        have lec := (le (n := c) (m := C) (by omega)).mp hce
        have lee := (le (n := e) (m := E) (by omega)).mp (Int.le_refl _)
        have lce := (lc (n := e) (m := E) (by omega)).mp hce
        have vc1 := (hx c C pc lcc.1 lec.1).mpr ⟨lcc.2.1, lec.2.1⟩
        have vc2 := (hy c C pc lcc.1 lec.1).mpr ⟨lcc.2.2, lec.2.2⟩
        have ve1 := (hx e E pe lce.1 lee.1).mpr ⟨lce.2.1, lee.2.1⟩
        have ve2 := (hy e E pe lce.1 lee.1).mpr ⟨lce.2.2, lee.2.2⟩
        rw [clo_lin] at vc1 vc2 ve1 ve2
        simp only [Bool.or_eq_true, decide_eq_true_eq]
        constructor
        · rintro (h | h | h)
          · exact ⟨c, C, pc, lcc.1, lec.1, h⟩
          · exact ⟨e, E, pe, lce.1, lee.1, h⟩
          · have z1 := Int.mul_nonneg lcc.1 (show 0 ≤ E by omega)
            have z2 := Int.mul_nonneg lce.1 (show 0 ≤ C by omega)
            have z3 := Int.mul_le_mul_of_nonneg_right lec.1 (show 0 ≤ E by omega)
            have z4 := Int.mul_le_mul_of_nonneg_right lee.1 (show 0 ≤ C by omega)
            have z5 : 2 * C * E = C * E + E * C := by rw [Int.mul_assoc, Int.mul_comm E C]; omega
            have z6 := Int.mul_pos pc pe
            have z7 : E * C = C * E := Int.mul_comm ..
            exact ⟨_, _, by omega, by omega, by omega, h⟩
        · rintro ⟨n, m, hm, h0, h1, hi⟩
          obtain ⟨k1, k2⟩ := cx hi
          have a := (hx n m hm h0 h1).mp k1
          have b := (hy n m hm h0 h1).mp k2
          have r1 := (lc (n := n) (m := m) (by omega)).mpr ⟨h0, a.1, b.1⟩
          have r2 := (le (n := n) (m := m) (by omega)).mpr ⟨h1, a.2, b.2⟩
          rw [ins_lin] at hi
          by_cases hne : c * E = e * C
          · left
            have r3 : n * C ≤ c * m := by
              have := fr_trans (a := n) (A := m) (b := e) (B := E) (c := c) (C := C) pe (by omega) (by omega) r2 (by omega)
              exact this
            have r4 : n * C = c * m := by omega
            rw [ins_lin]
            exact ⟨same_ge hm pc r4 hi.1, same_gt hm pc r4 hi.2.1, same_ge hm pc r4 hi.2.2.1, same_gt hm pc r4 hi.2.2.2⟩
          · right; right
            rw [ins_lin]
            exact ⟨mid_ge pc pe vc1.1 ve1.1, mid_gt pc pe hne vc1.2 ve1.2 hi.2.1, mid_ge pc pe vc2.1 ve2.1, mid_gt pc pe hne vc2.2 ve2.2 hi.2.2.2⟩
end DM

namespace DM
open PySem L2
/-! ### the law's own going through a square -/
def fr (H : Hp) (p : Addr) (a : Int × Int) : Prop := H p = some (.tup [.int a.1, .int a.2])
/-- numbers that stay small -/
def sm (k : Int) (a : Int × Int) : Prop := -k ≤ a.1 ∧ a.1 ≤ k ∧ -k ≤ a.2 ∧ a.2 ≤ k
def spClp : Sp := fun vs H Q _ => ∃ b s lo hi : Int, vs = [.int b, .int s, .int lo, .int hi] ∧
  (clip b s lo hi = none → ∀ (r : Addr) (H' : Hp), Same H H' → H' r = some (.lst []) → Q (.ref r) H') ∧
  (∀ p q : Int × Int, clip b s lo hi = some (p, q) → ∀ (r p1 p2 : Addr) (H' : Hp), Same H H' → H' r = some (.lst [.ref p1, .ref p2]) → fr H' p1 p → fr H' p2 q → Q (.ref r) H')
def spLater : Sp := fun vs H Q _ => ∃ (p1 p2 : Addr) (a b : Int × Int), vs = [.ref p1, .ref p2] ∧ fr H p1 a ∧ fr H p2 b ∧ sm 1000000000 a ∧ ∀ r : Addr, fr H r (later a b) → Q (.ref r) H
def spSooner : Sp := fun vs H Q _ => ∃ (p1 p2 : Addr) (a b : Int × Int), vs = [.ref p1, .ref p2] ∧ fr H p1 a ∧ fr H p2 b ∧ sm 1000000000 a ∧ ∀ r : Addr, fr H r (sooner a b) → Q (.ref r) H
def spInside : Sp := fun vs H Q _ => ∃ (ps pt pw : Addr) (x1 y1 x2 y2 sx sy n m : Int), vs = [.ref ps, .ref pw, .ref pt] ∧ Stk H ps x1 y1 x2 y2 ∧ H pw = some (.tup [.int n, .int m]) ∧ H pt = some (.tup [.int sx, .int sy]) ∧ (-1000 ≤ sx ∧ sx ≤ 1000 ∧ -1000 ≤ sy ∧ sy ≤ 1000) ∧ Q (.bl (decide (Ins x1 y1 x2 y2 sx sy n m))) H
def spGoes : Sp := fun vs H Q _ => ∃ (ps pt : Addr) (x1 y1 x2 y2 sx sy : Int), vs = [.ref ps, .ref pt] ∧ Stk H ps x1 y1 x2 y2 ∧ H pt = some (.tup [.int sx, .int sy]) ∧ (-1000 ≤ sx ∧ sx ≤ 1000 ∧ -1000 ≤ sy ∧ sy ≤ 1000) ∧ ∀ H', Same H H' → Q (.bl (goesL x1 y1 x2 y2 sx sy)) H'
theorem sm_later {a b : Int × Int} {k : Int} (h1 : sm k a) (h2 : sm k b) : sm k (later a b) := by
  unfold later
  split
  · exact h1
  · exact h2
theorem sm_sooner {a b : Int × Int} {k : Int} (h1 : sm k a) (h2 : sm k b) : sm k (sooner a b) := by
  unfold sooner
  split
  · exact h1
  · exact h2
theorem sm_clip {b s lo hi : Int} {p q : Int × Int} (h : clip b s lo hi = some (p, q)) (hb : -80 ≤ b ∧ b ≤ 80) (hs : -160 ≤ s ∧ s ≤ 160) (hl : -3000 ≤ lo ∧ lo ≤ 3000) (hh : -3000 ≤ hi ∧ hi ≤ 3000) : sm 10000 p ∧ sm 10000 q := by
  unfold clip at h
  split at h
  · split at h
    · cases h
      exact ⟨⟨by decide, by decide, by decide, by decide⟩, ⟨by decide, by decide, by decide, by decide⟩⟩
    · cases h
  · split at h
    · cases h
      exact ⟨⟨by show -10000 ≤ b - hi; omega, by show b - hi ≤ 10000; omega, by show -10000 ≤ 0 - s; omega, by show 0 - s ≤ 10000; omega⟩, ⟨by show -10000 ≤ b - lo; omega, by show b - lo ≤ 10000; omega, by show -10000 ≤ 0 - s; omega, by show 0 - s ≤ 10000; omega⟩⟩
    · cases h
      exact ⟨⟨by show -10000 ≤ lo - b; omega, by show lo - b ≤ 10000; omega, by show -10000 ≤ s; omega, by show s ≤ 10000; omega⟩, ⟨by show -10000 ≤ hi - b; omega, by show hi - b ≤ 10000; omega, by show -10000 ≤ s; omega, by show s ≤ 10000; omega⟩⟩
section
variable {P : Program} {w : World} {K : PySem.W.Frag} {mg : Str → Option Value} {base : Heap} {f : Addr} {fd : FuncData}
abbrev s_clip : Stmt := top 53
theorem sc_clip : FnScope ["_law_begin", "_law_step", "_law_low_here", "_law_high"] ["_law_begin", "_law_step", "_law_low_here", "_law_high"] (defScope s_clip) := ⟨rfl, rfl, rfl, by decide +kernel, rfl, by decide +kernel, by decide +kernel⟩
theorem ok_clip (F : Fun K "_law_clip" "_law_clip" s_clip f fd) : FnOk P w K mg base CX0 1 f fd ["_law_begin", "_law_step", "_law_low_here", "_law_high"] spClp := by
  refine F.ok sc_clip (fun vs H Q E h => ?_) (fun cdv A outer s H vs Q E hr h => ?_)
  · obtain ⟨b, s, lo, hi, rfl, _⟩ := h
    rfl
  obtain ⟨b, s', lo, hi, rfl, qn, qs⟩ := h
  refine ⟨_, (pss_cons (ps_if (pt_cmpR op_eq (pv 1) pe_int (nomark _))
    (pss_one (ps_ret (pe_ifExp (pt_chain op_le op_le (pv 2) (pv 0) (pv 3)) (pe_lst (pa_cons (pe_tup (pa_cons pe_int (pa_cons pe_int pa_nil))) (pa_cons (pe_tup (pa_cons pe_int (pa_cons pe_int pa_nil))) pa_nil))) (pe_lst pa_nil))))
    pss_nil)
    (pss_cons (ps_if (pt_cmpR op_lt (pv 1) pe_int (nomark _))
    (pss_one (ps_ret (pe_lst (pa_cons (pe_tup (pa_cons (pe_op op_sub (pv 0) (pv 3)) (pa_cons (pe_op op_sub pe_int (pv 1)) pa_nil))) (pa_cons (pe_tup (pa_cons (pe_op op_sub (pv 0) (pv 2)) (pa_cons (pe_op op_sub pe_int (pv 1)) pa_nil))) pa_nil)))))
    pss_nil)
    (pss_one (ps_ret (pe_lst (pa_cons (pe_tup (pa_cons (pe_op op_sub (pv 2) (pv 0)) (pa_cons (pv 1) pa_nil))) (pa_cons (pe_tup (pa_cons (pe_op op_sub (pv 3) (pv 0)) (pa_cons (pv 1) pa_nil))) pa_nil))))))), ?_⟩
  refine ⟨_, rfl, rfl, _, rfl, ?_⟩
  by_cases c : s' = 0
  · refine iteDT (congrArg V.int c) ?_
    refine ⟨_, rfl, _, rfl, _, _, rfl, rfl, _, rfl, ?_⟩
    by_cases d1 : lo ≤ b
    · refine iteDT d1 ?_
      refine ⟨_, rfl, _, _, rfl, rfl, _, rfl, ?_⟩
      by_cases d2 : b ≤ hi
      · refine iteDT d2 ?_
        refine ⟨sz (by decide : 2 ≤ 100000), fun p1 n1 => ⟨sz (by decide : 2 ≤ 100000), fun p2 n2 => ⟨sz (by decide : 2 ≤ 100000), fun p3 n3 => ?_⟩⟩⟩
        refine qs (0, 1) (1, 1) (by unfold clip; rw [if_pos c, if_pos ⟨d1, d2⟩]) p3 p1 p2 _ ((same_new n1 _).trans ((same_new n2 _).trans (same_new n3 _))) upd_same ?_ ?_
        · exact same_new n3 _ _ _ (same_new n2 _ _ _ upd_same)
        · exact same_new n3 _ _ _ upd_same
      · refine iteDF d2 ?_
        refine ⟨sz (by decide : 0 ≤ 100000), fun p1 n1 => ?_⟩
        exact qn (by unfold clip; rw [if_pos c, if_neg (fun z => d2 z.2)]) p1 _ (same_new n1 _) upd_same
    · refine iteDF d1 ?_
      refine ⟨_, rfl, iteF ?_⟩
      refine ⟨sz (by decide : 0 ≤ 100000), fun p1 n1 => ?_⟩
      exact qn (by unfold clip; rw [if_pos c, if_neg (fun z => d1 z.1)]) p1 _ (same_new n1 _) upd_same
  · refine iteDF (fun z => c (V.int.inj z)) ?_
    refine ⟨_, rfl, _, _, rfl, rfl, _, rfl, ?_⟩
    by_cases d : s' < 0
    · refine iteDT d ?_
      refine ⟨_, rfl, _, rfl, _, _, rfl, rfl, _, rfl, _, _, rfl, rfl, sz (by decide : 2 ≤ 100000), fun p1 n1 => ?_⟩
      refine ⟨_, rfl, _, rfl, _, _, rfl, rfl, _, rfl, _, _, rfl, rfl, sz (by decide : 2 ≤ 100000), fun p2 n2 => ⟨sz (by decide : 2 ≤ 100000), fun p3 n3 => ?_⟩⟩
      refine qs (b - hi, 0 - s') (b - lo, 0 - s') (by unfold clip; rw [if_neg c, if_pos d]) p3 p1 p2 _ ((same_new n1 _).trans ((same_new n2 _).trans (same_new n3 _))) upd_same ?_ ?_
      · exact same_new n3 _ _ _ (same_new n2 _ _ _ upd_same)
      · exact same_new n3 _ _ _ upd_same
    · refine iteDF d ?_
      refine ⟨_, rfl, _, rfl, _, _, rfl, rfl, _, rfl, sz (by decide : 2 ≤ 100000), fun p1 n1 => ?_⟩
      refine ⟨_, rfl, _, rfl, _, _, rfl, rfl, _, rfl, sz (by decide : 2 ≤ 100000), fun p2 n2 => ⟨sz (by decide : 2 ≤ 100000), fun p3 n3 => ?_⟩⟩
      refine qs (lo - b, s') (hi - b, s') (by unfold clip; rw [if_neg c, if_neg d]) p3 p1 p2 _ ((same_new n1 _).trans ((same_new n2 _).trans (same_new n3 _))) upd_same ?_ ?_
      · exact same_new n3 _ _ _ (same_new n2 _ _ _ upd_same)
      · exact same_new n3 _ _ _ upd_same
abbrev s_later : Stmt := top 54
theorem sc_later : FnScope ["_law_one", "_law_other"] ["_law_one", "_law_other"] (defScope s_later) := ⟨rfl, rfl, rfl, by decide +kernel, rfl, by decide +kernel, by decide +kernel⟩
theorem ok_later (F : Fun K "_law_later" "_law_later" s_later f fd) : FnOk P w K mg base CX0 1 f fd ["_law_one", "_law_other"] spLater := by
  refine F.ok sc_later (fun vs H Q E h => ?_) (fun cdv A outer s H vs Q E hr h => ?_)
  · obtain ⟨p1, p2, a, b, rfl, _⟩ := h
    rfl
  obtain ⟨p1, p2, a, b, rfl, h1, h2, hs, q⟩ := h
  refine ⟨_, (pss_one (ps_ret (pe_ifExp (pt_cmpR op_gt (pe_op op_mul (pe_ix ix_tup (pv 0) pe_int (fun _ _ => rfl)) (pe_ix ix_tup (pv 1) pe_int (fun _ _ => rfl))) (pe_op op_mul (pe_ix ix_tup (pv 1) pe_int (fun _ _ => rfl)) (pe_ix ix_tup (pv 0) pe_int (fun _ _ => rfl))) (nomark _)) (pv 0) (pv 1)))), ?_⟩
  unfold sm at hs
  refine ⟨_, rfl, p1, _, _, _, rfl, rfl, SqT.of h1, rfl, _, rfl, p2, _, _, _, rfl, rfl, SqT.of h2, rfl, _, _, rfl, rfl, .inl ⟨by omega, by omega⟩, ?_⟩
  refine ⟨_, rfl, p2, _, _, _, rfl, rfl, SqT.of h2, rfl, _, rfl, p1, _, _, _, rfl, rfl, SqT.of h1, rfl, _, _, rfl, rfl, .inr ⟨by omega, by omega⟩, _, _, rfl, rfl, _, rfl, ?_⟩
  unfold later at q
  by_cases c : a.1 * b.2 > b.1 * a.2
  · refine iteDT c ?_
    rw [if_pos c] at q
    exact ⟨_, rfl, q p1 h1⟩
  · refine iteDF c ?_
    rw [if_neg c] at q
    exact ⟨_, rfl, q p2 h2⟩
abbrev s_sooner : Stmt := top 55
theorem sc_sooner : FnScope ["_law_one", "_law_other"] ["_law_one", "_law_other"] (defScope s_sooner) := ⟨rfl, rfl, rfl, by decide +kernel, rfl, by decide +kernel, by decide +kernel⟩
theorem ok_sooner (F : Fun K "_law_sooner" "_law_sooner" s_sooner f fd) : FnOk P w K mg base CX0 1 f fd ["_law_one", "_law_other"] spSooner := by
  refine F.ok sc_sooner (fun vs H Q E h => ?_) (fun cdv A outer s H vs Q E hr h => ?_)
  · obtain ⟨p1, p2, a, b, rfl, _⟩ := h
    rfl
  obtain ⟨p1, p2, a, b, rfl, h1, h2, hs, q⟩ := h
  refine ⟨_, (pss_one (ps_ret (pe_ifExp (pt_cmpR op_lt (pe_op op_mul (pe_ix ix_tup (pv 0) pe_int (fun _ _ => rfl)) (pe_ix ix_tup (pv 1) pe_int (fun _ _ => rfl))) (pe_op op_mul (pe_ix ix_tup (pv 1) pe_int (fun _ _ => rfl)) (pe_ix ix_tup (pv 0) pe_int (fun _ _ => rfl))) (nomark _)) (pv 0) (pv 1)))), ?_⟩
  unfold sm at hs
  refine ⟨_, rfl, p1, _, _, _, rfl, rfl, SqT.of h1, rfl, _, rfl, p2, _, _, _, rfl, rfl, SqT.of h2, rfl, _, _, rfl, rfl, .inl ⟨by omega, by omega⟩, ?_⟩
  refine ⟨_, rfl, p2, _, _, _, rfl, rfl, SqT.of h2, rfl, _, rfl, p1, _, _, _, rfl, rfl, SqT.of h1, rfl, _, _, rfl, rfl, .inr ⟨by omega, by omega⟩, _, _, rfl, rfl, _, rfl, ?_⟩
  unfold sooner at q
  by_cases c : a.1 * b.2 < b.1 * a.2
  · refine iteDT c ?_
    rw [if_pos c] at q
    exact ⟨_, rfl, q p1 h1⟩
  · refine iteDF c ?_
    rw [if_neg c] at q
    exact ⟨_, rfl, q p2 h2⟩
abbrev s_inside : Stmt := top 56
theorem sc_inside : FnScope ["_law_stroke_here", "_law_when", "_law_spot_here", "_law_over", "_law_under", "_law_x", "_law_y", "_law_right"] ["_law_stroke_here", "_law_when", "_law_spot_here"] (defScope s_inside) := ⟨rfl, rfl, rfl, by decide +kernel, rfl, by decide +kernel, by decide +kernel⟩
theorem ok_inside (F : Fun K "_law_inside" "_law_inside" s_inside f fd) : FnOk P w K mg base CX0 1 f fd ["_law_stroke_here", "_law_when", "_law_spot_here"] spInside := by
  refine F.ok sc_inside (fun vs H Q E h => ?_) (fun cdv A outer s H vs Q E hr h => ?_)
  · obtain ⟨ps, pt, pw, x1, y1, x2, y2, sx, sy, n, m, rfl, _⟩ := h
    rfl
  obtain ⟨ps, pt, pw, x1, y1, x2, y2, sx, sy, n, m, rfl, ⟨hs, bs, _⟩, hw, ht, bt, q⟩ := h
  refine ⟨_, (pss_cons (ps_asg (pv 1) (pg_tup rfl (pgs_cons (pg_name (i := 3) sc_inside.nd rfl (Or.inl rfl)) (pgs_cons (pg_name (i := 4) sc_inside.nd rfl (Or.inl rfl)) pgs_nil))))
    (pss_cons (ps_set (i := 5) sc_inside.nd rfl (Or.inl rfl) (pe_op op_add (pe_op op_mul (pe_op op_mul pe_int (pe_ix ix_tup (pv 0) pe_int (fun _ _ => rfl))) (pv 4)) (pe_op op_mul (pe_op op_mul pe_int (pe_op op_sub (pe_ix ix_tup (pv 0) pe_int (fun _ _ => rfl)) (pe_ix ix_tup (pv 0) pe_int (fun _ _ => rfl)))) (pv 3))))
    (pss_cons (ps_set (i := 6) sc_inside.nd rfl (Or.inl rfl) (pe_op op_add (pe_op op_mul (pe_op op_mul pe_int (pe_ix ix_tup (pv 0) pe_int (fun _ _ => rfl))) (pv 4)) (pe_op op_mul (pe_op op_mul pe_int (pe_op op_sub (pe_ix ix_tup (pv 0) pe_int (fun _ _ => rfl)) (pe_ix ix_tup (pv 0) pe_int (fun _ _ => rfl)))) (pv 3))))
    (pss_cons (ps_set (i := 7) sc_inside.nd rfl (Or.inl rfl) (pe_chain op_le op_lt (pe_op op_mul (pe_op op_sub (pe_op op_mul pe_int (pe_ix ix_tup (pv 2) pe_int (fun _ _ => rfl))) pe_int) (pv 4)) (pv 5) (pe_op op_mul (pe_op op_add (pe_op op_mul pe_int (pe_ix ix_tup (pv 2) pe_int (fun _ _ => rfl))) pe_int) (pv 4))))
    (pss_one (ps_ret (pe_and (pv 7) (pe_one (pe_chain op_le op_lt (pe_op op_mul (pe_op op_sub (pe_op op_mul pe_int (pe_ix ix_tup (pv 2) pe_int (fun _ _ => rfl))) pe_int) (pv 4)) (pv 6) (pe_op op_mul (pe_op op_add (pe_op op_mul pe_int (pe_ix ix_tup (pv 2) pe_int (fun _ _ => rfl))) pe_int) (pv 4))))))))))), ?_⟩
  refine ⟨_, rfl, pw, _, rfl, SqT.of hw, rfl, _, _, rfl, _, _, rfl, rfl, ?_⟩
  refine ⟨_, rfl, ps, _, _, _, rfl, rfl, SqT.of hs, rfl, _, _, rfl, rfl, .inl ⟨by decide, by decide⟩, _, rfl, _, _, rfl, rfl, .inl ⟨by omega, by omega⟩, _, rfl, ps, _, _, _, rfl, rfl, SqT.of hs, rfl, _, rfl, ps, _, _, _, rfl, rfl, SqT.of hs, rfl, _, _, rfl, rfl, _, _, rfl, rfl, .inl ⟨by decide, by decide⟩, _, rfl, _, _, rfl, rfl, .inl ⟨by omega, by omega⟩, _, _, rfl, rfl, ?_⟩
  refine ⟨_, rfl, ps, _, _, _, rfl, rfl, SqT.of hs, rfl, _, _, rfl, rfl, .inl ⟨by decide, by decide⟩, _, rfl, _, _, rfl, rfl, .inl ⟨by omega, by omega⟩, _, rfl, ps, _, _, _, rfl, rfl, SqT.of hs, rfl, _, rfl, ps, _, _, _, rfl, rfl, SqT.of hs, rfl, _, _, rfl, rfl, _, _, rfl, rfl, .inl ⟨by decide, by decide⟩, _, rfl, _, _, rfl, rfl, .inl ⟨by omega, by omega⟩, _, _, rfl, rfl, ?_⟩
  have key : decide (Ins x1 y1 x2 y2 sx sy n m) = (decide ((2 * sx - 1) * m ≤ 2 * x1 * m + 2 * (x2 - x1) * n) && (decide (2 * x1 * m + 2 * (x2 - x1) * n < (2 * sx + 1) * m) && (decide ((2 * sy - 1) * m ≤ 2 * y1 * m + 2 * (y2 - y1) * n) && decide (2 * y1 * m + 2 * (y2 - y1) * n < (2 * sy + 1) * m)))) := by
    rw [← Bool.decide_and, ← Bool.decide_and, ← Bool.decide_and]
    rfl
  rw [key] at q
  refine ⟨_, rfl, pt, _, _, _, rfl, rfl, SqT.of ht, rfl, _, _, rfl, rfl, .inl ⟨by decide, by decide⟩, _, _, rfl, rfl, _, rfl, _, _, rfl, rfl, .inl ⟨by omega, by omega⟩, _, rfl, _, _, rfl, rfl, _, rfl, ?_⟩
  by_cases d1 : (2 * sx - 1) * m ≤ 2 * x1 * m + 2 * (x2 - x1) * n
  · refine iteDT d1 ?_
    rw [decide_eq_true d1, Bool.true_and] at q
    refine ⟨_, rfl, pt, _, _, _, rfl, rfl, SqT.of ht, rfl, _, _, rfl, rfl, .inl ⟨by decide, by decide⟩, _, _, rfl, rfl, _, rfl, _, _, rfl, rfl, .inl ⟨by omega, by omega⟩, _, _, rfl, rfl, ?_⟩
    refine ⟨_, rfl, _, rfl, ?_⟩
    by_cases d2 : 2 * x1 * m + 2 * (x2 - x1) * n < (2 * sx + 1) * m
    · refine iteDT d2 ?_
      rw [decide_eq_true d2, Bool.true_and] at q
      refine ⟨_, rfl, pt, _, _, _, rfl, rfl, SqT.of ht, rfl, _, _, rfl, rfl, .inl ⟨by decide, by decide⟩, _, _, rfl, rfl, _, rfl, _, _, rfl, rfl, .inl ⟨by omega, by omega⟩, _, rfl, _, _, rfl, rfl, _, rfl, ?_⟩
      by_cases d3 : (2 * sy - 1) * m ≤ 2 * y1 * m + 2 * (y2 - y1) * n
      · refine iteDT d3 ?_
        rw [decide_eq_true d3, Bool.true_and] at q
        exact ⟨_, rfl, pt, _, _, _, rfl, rfl, SqT.of ht, rfl, _, _, rfl, rfl, .inl ⟨by decide, by decide⟩, _, _, rfl, rfl, _, rfl, _, _, rfl, rfl, .inl ⟨by omega, by omega⟩, _, _, rfl, rfl, q⟩
      · refine iteDF d3 ?_
        rw [decide_eq_false d3, Bool.false_and] at q
        exact q
    · refine iteDF d2 ?_
      rw [decide_eq_false d2, Bool.false_and] at q
      exact q
  · refine iteDF d1 ?_
    rw [decide_eq_false d1, Bool.false_and] at q
    exact ⟨_, rfl, _, rfl, iteF q⟩
end
end DM

namespace DM
/-! ### a stroke goes through a box of squares -/
def InBox (x1 y1 x2 y2 lx ly gx gy n m : Int) : Prop :=
  (2 * lx - 1) * m ≤ 2 * x1 * m + 2 * (x2 - x1) * n ∧ 2 * x1 * m + 2 * (x2 - x1) * n < (2 * gx + 1) * m ∧ (2 * ly - 1) * m ≤ 2 * y1 * m + 2 * (y2 - y1) * n ∧ 2 * y1 * m + 2 * (y2 - y1) * n < (2 * gy + 1) * m
def Box (x1 y1 x2 y2 lx ly gx gy : Int) : Prop := ∃ n m : Int, 0 < m ∧ 0 ≤ n ∧ n ≤ m ∧ InBox x1 y1 x2 y2 lx ly gx gy n m
theorem box_thr {x1 y1 x2 y2 sx sy : Int} : Box x1 y1 x2 y2 sx sy sx sy ↔ Thr x1 y1 x2 y2 sx sy := Iff.rfl
theorem box_of_thr {x1 y1 x2 y2 lx ly gx gy sx sy : Int} (h : Thr x1 y1 x2 y2 sx sy) (h1 : lx ≤ sx) (h2 : sx ≤ gx) (h3 : ly ≤ sy) (h4 : sy ≤ gy) : Box x1 y1 x2 y2 lx ly gx gy := by
  obtain ⟨n, m, hm, h0, h1', a, b, c, d⟩ := h
  have e1 := Int.mul_le_mul_of_nonneg_right (show 2 * lx - 1 ≤ 2 * sx - 1 by omega) (show 0 ≤ m by omega)
  have e2 := Int.mul_le_mul_of_nonneg_right (show 2 * sx + 1 ≤ 2 * gx + 1 by omega) (show 0 ≤ m by omega)
  have e3 := Int.mul_le_mul_of_nonneg_right (show 2 * ly - 1 ≤ 2 * sy - 1 by omega) (show 0 ≤ m by omega)
  have e4 := Int.mul_le_mul_of_nonneg_right (show 2 * sy + 1 ≤ 2 * gy + 1 by omega) (show 0 ≤ m by omega)
  exact ⟨n, m, hm, h0, h1', by omega, by omega, by omega, by omega⟩
theorem conv_le {a b c n m : Int} (hn : 0 ≤ n) (hnm : n ≤ m) (h1 : a ≤ c) (h2 : b ≤ c) : 2 * a * m + 2 * (b - a) * n ≤ 2 * c * m := by
  have e1 := Int.mul_nonneg (show 0 ≤ c - a by omega) (show 0 ≤ m - n by omega)
  have e2 := Int.mul_nonneg (show 0 ≤ c - b by omega) hn
  simp only [Int.sub_mul, Int.mul_sub, Int.mul_assoc] at *
  omega
theorem conv_ge {a b c n m : Int} (hn : 0 ≤ n) (hnm : n ≤ m) (h1 : c ≤ a) (h2 : c ≤ b) : 2 * c * m ≤ 2 * a * m + 2 * (b - a) * n := by
  have e1 := Int.mul_nonneg (show 0 ≤ a - c by omega) (show 0 ≤ m - n by omega)
  have e2 := Int.mul_nonneg (show 0 ≤ b - c by omega) hn
  simp only [Int.sub_mul, Int.mul_sub, Int.mul_assoc] at *
  omega
theorem out_low {a b l n m : Int} (hm : 0 < m) (hn : 0 ≤ n) (hnm : n ≤ m) (h1 : a < l) (h2 : b < l) (h : (2 * l - 1) * m ≤ 2 * a * m + 2 * (b - a) * n) : False := by
  have e := conv_le hn hnm (show a ≤ l - 1 by omega) (show b ≤ l - 1 by omega)
  have f : 2 * (l - 1) * m = (2 * l - 1) * m - m := by simp only [Int.sub_mul, Int.mul_sub]; omega
  omega
theorem out_high {a b g n m : Int} (hm : 0 < m) (hn : 0 ≤ n) (hnm : n ≤ m) (h1 : g < a) (h2 : g < b) (h : 2 * a * m + 2 * (b - a) * n < (2 * g + 1) * m) : False := by
  have e := conv_ge hn hnm (show g + 1 ≤ a by omega) (show g + 1 ≤ b by omega)
  have f : 2 * (g + 1) * m = (2 * g + 1) * m + m := by simp only [Int.add_mul, Int.mul_add]; omega
  omega
/-- one number between both ends and within the bounds -/
theorem mid_some {a b l g : Int} (h1 : ¬ (a < l ∧ b < l)) (h2 : ¬ (g < a ∧ g < b)) (hlg : l ≤ g) : ∃ c n m : Int, 0 < m ∧ 0 ≤ n ∧ n ≤ m ∧ 2 * a * m + 2 * (b - a) * n = 2 * c * m ∧ l ≤ c ∧ c ≤ g := by
  by_cases e : l ≤ a ∧ a ≤ g
  · exact ⟨a, 0, 1, by decide, by decide, by decide, by omega, by omega, by omega⟩
  · by_cases c : a < l
    · refine ⟨l, l - a, b - a, by omega, by omega, by omega, ?_, by omega, by omega⟩
      have : 2 * (b - a) * (l - a) = 2 * (l - a) * (b - a) := by rw [Int.mul_assoc, Int.mul_assoc, Int.mul_comm (b - a)]
      rw [this, ← Int.add_mul]
      congr 1
      omega
    · refine ⟨g, a - g, a - b, by omega, by omega, by omega, ?_, by omega, by omega⟩
      have : 2 * (b - a) * (a - g) = 2 * (g - a) * (a - b) := by
        have z : (b - a) * (a - g) = (g - a) * (a - b) := by rw [← Int.neg_mul_neg (b - a), Int.mul_comm]; congr 1 <;> omega
        rw [Int.mul_assoc, z, Int.mul_assoc]
      rw [this, ← Int.add_mul]
      congr 1
      omega
theorem half_in {c l g m V : Int} (hm : 0 < m) (e : V = 2 * c * m) (h1 : l ≤ c) (h2 : c ≤ g) : (2 * l - 1) * m ≤ V ∧ V < (2 * g + 1) * m := by
  have e1 := Int.mul_le_mul_of_nonneg_right (show 2 * l - 1 ≤ 2 * c - 1 by omega) (show 0 ≤ m by omega)
  have e2 := Int.mul_le_mul_of_nonneg_right (show 2 * c + 1 ≤ 2 * g + 1 by omega) (show 0 ≤ m by omega)
  rw [Int.sub_mul (2 * c)] at e1
  rw [Int.add_mul (2 * c)] at e2
  omega
/-- a bound from below, from above, by moments -/
def LoOk (v W m : Int) : Prop := (∃ k : Int, v = 2 * k ∧ 2 * k * m ≤ W) ∨ (∃ k : Int, v = 2 * k + 1 ∧ 2 * k * m < W)
def HiOk (v W m : Int) : Prop := (∃ k : Int, v = 2 * k ∧ W ≤ 2 * k * m) ∨ (∃ k : Int, v = 2 * k - 1 ∧ W < 2 * k * m)
theorem lo_hi {v v' W m : Int} (hm : 0 < m) (h : LoOk v W m) (h' : HiOk v' W m) : v ≤ v' := by
  have lt : ∀ a b : Int, a * m < b * m → a < b := fun a b z => Int.lt_of_mul_lt_mul_right z (by omega)
  have le : ∀ a b : Int, a * m ≤ b * m → a ≤ b := fun a b z => Int.le_of_mul_le_mul_right z hm
  rcases h with ⟨k, rfl, h⟩ | ⟨k, rfl, h⟩ <;> rcases h' with ⟨j, rfl, h'⟩ | ⟨j, rfl, h'⟩
  · have := le _ _ (Int.le_trans h h'); omega
  · have := lt _ _ (Int.lt_of_le_of_lt h h'); omega
  · have := lt _ _ (Int.lt_of_lt_of_le h h'); omega
  · have := lt _ _ (Int.lt_trans h h'); omega
def inM (a b t l g : Int) : Int := if a < b then 2 * t * (2 * (l - a) - 1) else 1 - 2 * t * (2 * (g - a) + 1)
def outM (a b t l g : Int) : Int := if a < b then 2 * t * (2 * (g - a) + 1) - 1 else -2 * t * (2 * (l - a) - 1)
theorem axis_up {a b t l g n m : Int} (hm : 0 < m) (ht : 0 < t) (hab : a < b) : ((2 * l - 1) * m ≤ 2 * a * m + 2 * (b - a) * n ↔ 2 * (t * (2 * (l - a) - 1)) * m ≤ 4 * (b - a) * t * n) ∧ (2 * a * m + 2 * (b - a) * n < (2 * g + 1) * m ↔ 4 * (b - a) * t * n < 2 * (t * (2 * (g - a) + 1)) * m) := by
  have e1 : 2 * (t * (2 * (l - a) - 1)) * m = (2 * t) * ((2 * l - 1) * m - 2 * a * m) := by
    rw [← Int.sub_mul, ← Int.mul_assoc, ← Int.mul_assoc]; congr 2; omega
  have e2 : 4 * (b - a) * t * n = (2 * t) * (2 * (b - a) * n) := by
    rw [show 4 * (b - a) * t = 2 * t * (2 * (b - a)) by rw [Int.mul_assoc, Int.mul_assoc, Int.mul_left_comm t, ← Int.mul_assoc 2 2, Int.mul_comm t]; rfl]
    rw [Int.mul_assoc]
  have e3 : 2 * (t * (2 * (g - a) + 1)) * m = (2 * t) * ((2 * g + 1) * m - 2 * a * m) := by
    rw [← Int.sub_mul, ← Int.mul_assoc, ← Int.mul_assoc]; congr 2; omega
  rw [e1, e2, e3]
  have le : ∀ x y : Int, (2 * t) * x ≤ (2 * t) * y ↔ x ≤ y := fun x y => ⟨fun z => Int.le_of_mul_le_mul_left z (by omega), fun z => Int.mul_le_mul_of_nonneg_left z (by omega)⟩
  have lt : ∀ x y : Int, (2 * t) * x < (2 * t) * y ↔ x < y := fun x y => ⟨fun z => Int.lt_of_mul_lt_mul_left z (by omega), fun z => Int.mul_lt_mul_of_pos_left z (by omega)⟩
  rw [le, lt]
  omega
theorem axis_down {a b t l g n m : Int} (hm : 0 < m) (ht : 0 < t) (hab : b < a) : ((2 * l - 1) * m ≤ 2 * a * m + 2 * (b - a) * n ↔ 4 * (a - b) * t * n ≤ 2 * (-(t * (2 * (l - a) - 1))) * m) ∧ (2 * a * m + 2 * (b - a) * n < (2 * g + 1) * m ↔ 2 * (-(t * (2 * (g - a) + 1))) * m < 4 * (a - b) * t * n) := by
  have e1 : 2 * (-(t * (2 * (l - a) - 1))) * m = (2 * t) * (2 * a * m - (2 * l - 1) * m) := by
    rw [← Int.sub_mul, ← Int.mul_assoc]; congr 1; rw [← Int.mul_neg, ← Int.mul_assoc]; congr 1; omega
  have e2 : 4 * (a - b) * t * n = (2 * t) * (-(2 * (b - a) * n)) := by
    rw [show 4 * (a - b) * t = 2 * t * (2 * (a - b)) by rw [Int.mul_assoc, Int.mul_assoc, Int.mul_left_comm t, ← Int.mul_assoc 2 2, Int.mul_comm t]; rfl]
    rw [Int.mul_assoc]; congr 1; rw [← Int.neg_mul]; congr 1; omega
  have e3 : 2 * (-(t * (2 * (g - a) + 1))) * m = (2 * t) * (2 * a * m - (2 * g + 1) * m) := by
    rw [← Int.sub_mul, ← Int.mul_assoc]; congr 1; rw [← Int.mul_neg, ← Int.mul_assoc]; congr 1; omega
  rw [e1, e2, e3]
  have le : ∀ x y : Int, (2 * t) * x ≤ (2 * t) * y ↔ x ≤ y := fun x y => ⟨fun z => Int.le_of_mul_le_mul_left z (by omega), fun z => Int.mul_le_mul_of_nonneg_left z (by omega)⟩
  have lt : ∀ x y : Int, (2 * t) * x < (2 * t) * y ↔ x < y := fun x y => ⟨fun z => Int.lt_of_mul_lt_mul_left z (by omega), fun z => Int.mul_lt_mul_of_pos_left z (by omega)⟩
  rw [le, lt]
  omega
def aw (a b : Int) : Int := if b - a < 0 then -(b - a) else b - a
theorem aw_up {a b : Int} (h : a < b) : aw a b = b - a := by unfold aw; rw [if_neg (by omega)]
theorem aw_down {a b : Int} (h : b < a) : aw a b = a - b := by unfold aw; rw [if_pos (by omega)]; omega
theorem axis_bounds {a b t l g n m : Int} (hm : 0 < m) (ht : 0 < t) (hab : a ≠ b) (h1 : (2 * l - 1) * m ≤ 2 * a * m + 2 * (b - a) * n) (h2 : 2 * a * m + 2 * (b - a) * n < (2 * g + 1) * m) : LoOk (inM a b t l g) (4 * aw a b * t * n) m ∧ HiOk (outM a b t l g) (4 * aw a b * t * n) m := by
  unfold inM outM
  rcases Int.lt_or_lt_of_ne hab with c | c
  · rw [if_pos c, if_pos c, aw_up c]
    have e := axis_up (t := t) (l := l) (g := g) (n := n) hm ht c
    exact ⟨.inl ⟨t * (2 * (l - a) - 1), by rw [Int.mul_assoc], e.1.mp h1⟩, .inr ⟨t * (2 * (g - a) + 1), by rw [Int.mul_assoc], e.2.mp h2⟩⟩
  · rw [if_neg (by omega), if_neg (by omega), aw_down c]
    have e := axis_down (t := t) (l := l) (g := g) (n := n) hm ht c
    exact ⟨.inr ⟨-(t * (2 * (g - a) + 1)), by rw [Int.mul_assoc 2 t]; omega, e.2.mp h2⟩, .inl ⟨-(t * (2 * (l - a) - 1)), by rw [Int.mul_assoc, Int.neg_mul]; omega, e.1.mp h1⟩⟩
theorem axis_of {a b t l g n m : Int} (ht : 0 < t) (hab : a ≠ b) (em : m = 4 * aw a b * t) (h1 : inM a b t l g ≤ n) (h2 : n ≤ outM a b t l g) : (2 * l - 1) * m ≤ 2 * a * m + 2 * (b - a) * n ∧ 2 * a * m + 2 * (b - a) * n < (2 * g + 1) * m := by
  unfold inM at h1
  unfold outM at h2
  have hm : 0 < m := by
    rw [em]
    refine Int.mul_pos (Int.mul_pos (by decide) ?_) ht
    unfold aw
    split <;> omega
  have le : ∀ x y : Int, x * m ≤ m * y ↔ x ≤ y := fun x y => by rw [Int.mul_comm x]; exact ⟨fun z => Int.le_of_mul_le_mul_left z hm, fun z => Int.mul_le_mul_of_nonneg_left z (by omega)⟩
  have ge : ∀ x y : Int, m * y ≤ x * m ↔ y ≤ x := fun x y => by rw [Int.mul_comm x]; exact ⟨fun z => Int.le_of_mul_le_mul_left z hm, fun z => Int.mul_le_mul_of_nonneg_left z (by omega)⟩
  have lt : ∀ x y : Int, m * y < x * m ↔ y < x := fun x y => by rw [Int.mul_comm x]; exact ⟨fun z => Int.lt_of_mul_lt_mul_left z (by omega), fun z => Int.mul_lt_mul_of_pos_left z hm⟩
  have gt : ∀ x y : Int, x * m < m * y ↔ x < y := fun x y => by rw [Int.mul_comm x]; exact ⟨fun z => Int.lt_of_mul_lt_mul_left z (by omega), fun z => Int.mul_lt_mul_of_pos_left z hm⟩
  rcases Int.lt_or_lt_of_ne hab with c | c
  · rw [if_pos c, Int.mul_assoc] at h1 h2
    rw [aw_up c] at em
    have e := axis_up (t := t) (l := l) (g := g) (n := n) hm ht c
    rw [e.1, e.2, ← em, le, lt]
    omega
  · rw [if_neg (by omega), Int.mul_assoc] at h1 h2
    rw [aw_down c] at em
    have e := axis_down (t := t) (l := l) (g := g) (n := n) hm ht c
    rw [e.1, e.2, ← em, ge, gt]
    omega
def mx2 (i j : Int) : Int := if j > i then j else i
def mn2 (i j : Int) : Int := if j < i then j else i
theorem mx2_lt {i j k : Int} : mx2 i j < k ↔ i < k ∧ j < k := by unfold mx2; split <;> omega
theorem lt_mn2 {i j k : Int} : k < mn2 i j ↔ k < i ∧ k < j := by unfold mn2; split <;> omega
def mx3 (i j k : Int) : Int := mx2 (mx2 i j) k
def mn3 (i j k : Int) : Int := mn2 (mn2 i j) k
theorem le_mx3 (i j k : Int) : i ≤ mx3 i j k ∧ j ≤ mx3 i j k ∧ k ≤ mx3 i j k := by unfold mx3 mx2; split <;> split <;> omega
theorem mn3_le (i j k : Int) : mn3 i j k ≤ i ∧ mn3 i j k ≤ j ∧ mn3 i j k ≤ k := by unfold mn3 mn2; split <;> split <;> omega
theorem mx3_le_mn3 {a b c d e f : Int} (h1 : a ≤ d ∧ a ≤ e ∧ a ≤ f) (h2 : b ≤ d ∧ b ≤ e ∧ b ≤ f) (h3 : c ≤ d ∧ c ≤ e ∧ c ≤ f) : mx3 a b c ≤ mn3 d e f := by unfold mx3 mx2 mn3 mn2; split <;> split <;> split <;> split <;> omega
/-- the program's own passing of a box -/
def passL (x1 y1 x2 y2 lx ly gx gy : Int) : Bool :=
  if mx2 x1 x2 < lx ∨ gx < mn2 x1 x2 then false else if mx2 y1 y2 < ly ∨ gy < mn2 y1 y2 then false else
  if aw x1 x2 = 0 ∨ aw y1 y2 = 0 then true else
  decide (mx3 0 (inM x1 x2 (aw y1 y2) lx gx) (inM y1 y2 (aw x1 x2) ly gy) ≤ mn3 (4 * aw x1 x2 * aw y1 y2) (outM x1 x2 (aw y1 y2) lx gx) (outM y1 y2 (aw x1 x2) ly gy))
theorem aw_zero {a b : Int} : aw a b = 0 ↔ a = b := by unfold aw; split <;> omega
theorem aw_pos {a b : Int} (h : a ≠ b) : 0 < aw a b := by unfold aw; split <;> omega
theorem passL_iff {x1 y1 x2 y2 lx ly gx gy : Int} (hx : lx ≤ gx) (hy : ly ≤ gy) : passL x1 y1 x2 y2 lx ly gx gy = true ↔ Box x1 y1 x2 y2 lx ly gx gy := by
  unfold passL
  split
  · rename_i c
    rw [mx2_lt, lt_mn2] at c
    refine ⟨fun z => (nomatch z), fun ⟨n, m, hm, h0, h1, a, b, _, _⟩ => ?_⟩
    rcases c with c | c
    · exact (out_low hm h0 h1 c.1 c.2 a).elim
    · exact (out_high hm h0 h1 c.1 c.2 b).elim
  rename_i cx
  rw [mx2_lt, lt_mn2] at cx
  split
  · rename_i c
    rw [mx2_lt, lt_mn2] at c
    refine ⟨fun z => (nomatch z), fun ⟨n, m, hm, h0, h1, _, _, a, b⟩ => ?_⟩
    rcases c with c | c
    · exact (out_low hm h0 h1 c.1 c.2 a).elim
    · exact (out_high hm h0 h1 c.1 c.2 b).elim
  rename_i cy
  rw [mx2_lt, lt_mn2] at cy
  split
  · rename_i c
    refine ⟨fun _ => ?_, fun _ => rfl⟩
    rw [aw_zero, aw_zero] at c
    rcases c with c | c
    · subst c
      obtain ⟨d, n, m, hm, h0, h1, e, e1, e2⟩ := mid_some (a := y1) (b := y2) (l := ly) (g := gy) (by omega) (by omega) hy
      have i1 := half_in hm e e1 e2
      have i2 := half_in (l := lx) (g := gx) (c := x1) (V := 2 * x1 * m + 2 * (x1 - x1) * n) hm (by rw [Int.sub_self, Int.mul_zero, Int.zero_mul, Int.add_zero]) (by omega) (by omega)
      exact ⟨n, m, hm, h0, h1, i2.1, i2.2, i1.1, i1.2⟩
    · subst c
      obtain ⟨d, n, m, hm, h0, h1, e, e1, e2⟩ := mid_some (a := x1) (b := x2) (l := lx) (g := gx) (by omega) (by omega) hx
      have i1 := half_in hm e e1 e2
      have i2 := half_in (l := ly) (g := gy) (c := y1) (V := 2 * y1 * m + 2 * (y1 - y1) * n) hm (by rw [Int.sub_self, Int.mul_zero, Int.zero_mul, Int.add_zero]) (by omega) (by omega)
      exact ⟨n, m, hm, h0, h1, i1.1, i1.2, i2.1, i2.2⟩
  · rename_i c
    rw [aw_zero, aw_zero] at c
    have nx : x1 ≠ x2 := fun z => c (.inl z)
    have ny : y1 ≠ y2 := fun z => c (.inr z)
    have px := aw_pos nx
    have py := aw_pos ny
    rw [decide_eq_true_eq]
    have eW : 4 * aw y1 y2 * aw x1 x2 = 4 * aw x1 x2 * aw y1 y2 := by rw [Int.mul_assoc, Int.mul_comm (aw y1 y2), Int.mul_assoc]
    have pW : 0 < 4 * aw x1 x2 * aw y1 y2 := Int.mul_pos (Int.mul_pos (by decide) px) py
    constructor
    · intro h
      have a1 := le_mx3 0 (inM x1 x2 (aw y1 y2) lx gx) (inM y1 y2 (aw x1 x2) ly gy)
      have a2 := mn3_le (4 * aw x1 x2 * aw y1 y2) (outM x1 x2 (aw y1 y2) lx gx) (outM y1 y2 (aw x1 x2) ly gy)
      have k1 := axis_of (n := mx3 0 (inM x1 x2 (aw y1 y2) lx gx) (inM y1 y2 (aw x1 x2) ly gy)) py nx rfl a1.2.1 (by omega)
      have k2 := axis_of (n := mx3 0 (inM x1 x2 (aw y1 y2) lx gx) (inM y1 y2 (aw x1 x2) ly gy)) px ny eW.symm a1.2.2 (by omega)
      exact ⟨_, _, pW, a1.1, by omega, k1.1, k1.2, k2.1, k2.2⟩
    · rintro ⟨n, m, hm, h0, h1, a, b, c, d⟩
      have k1 := axis_bounds (t := aw y1 y2) hm py nx a b
      have k2 := axis_bounds (t := aw x1 x2) hm px ny c d
      rw [eW] at k2
      have l0 : LoOk 0 (4 * aw x1 x2 * aw y1 y2 * n) m := .inl ⟨0, rfl, by rw [Int.mul_zero, Int.zero_mul]; exact Int.mul_nonneg (by omega) h0⟩
      have h4 : HiOk (4 * aw x1 x2 * aw y1 y2) (4 * aw x1 x2 * aw y1 y2 * n) m := .inl ⟨2 * aw x1 x2 * aw y1 y2, by simp only [Int.mul_assoc]; omega, by
        rw [show 2 * (2 * aw x1 x2 * aw y1 y2) = 4 * aw x1 x2 * aw y1 y2 by simp only [Int.mul_assoc]; omega]
        exact Int.mul_le_mul_of_nonneg_left h1 (by omega)⟩
      exact mx3_le_mn3 ⟨lo_hi hm l0 h4, lo_hi hm l0 k1.2, lo_hi hm l0 k2.2⟩ ⟨lo_hi hm k1.1 h4, lo_hi hm k1.1 k1.2, lo_hi hm k1.1 k2.2⟩ ⟨lo_hi hm k2.1 h4, lo_hi hm k2.1 k1.2, lo_hi hm k2.1 k2.2⟩
theorem passL_goes (x1 y1 x2 y2 sx sy : Int) : passL x1 y1 x2 y2 sx sy sx sy = goesL x1 y1 x2 y2 sx sy :=
  Bool.eq_iff_iff.mpr ((passL_iff (Int.le_refl _) (Int.le_refl _)).trans (box_thr.trans (goesL_iff ..).symm))
end DM

namespace DM
open PySem L2
/-! ### the program's own strokes and squares -/
theorem nu_mx2 (i j : Int) : nuMax2 (.int i) (.int j) = some (.int (mx2 i j)) := by
  show some (if decide (i < j) = true then V.int j else V.int i) = _
  unfold mx2
  by_cases c : i < j
  · rw [if_pos (decide_eq_true c), if_pos c]
  · rw [if_neg (by rw [decide_eq_false c]; decide), if_neg c]
theorem nu_mn2 (i j : Int) : nuMin2 (.int i) (.int j) = some (.int (mn2 i j)) := by
  show some (if decide (j < i) = true then V.int j else V.int i) = _
  unfold mn2
  by_cases c : j < i
  · rw [if_pos (decide_eq_true c), if_pos c]
  · rw [if_neg (by rw [decide_eq_false c]; decide), if_neg c]
theorem nu_mx3 (i j k : Int) : nuMax3 (.int i) (.int j) (.int k) = some (.int (mx3 i j k)) := by
  unfold nuMax3 mx3
  rw [nu_mx2]
  exact nu_mx2 _ _
theorem nu_mn3 (i j k : Int) : nuMin3 (.int i) (.int j) (.int k) = some (.int (mn3 i j k)) := by
  unfold nuMin3 mn3
  rw [nu_mn2]
  exact nu_mn2 _ _
def spMoments : Sp := fun vs H Q _ => ∃ a b t l g : Int, vs = [.int a, .int b, .int t, .int l, .int g] ∧ 0 ≤ t ∧ t ≤ 1000 ∧ ∀ (r : Addr) (H' : Hp), Same H H' → H' r = some (.tup [.int (inM a b t l g), .int (outM a b t l g)]) → Q (.ref r) H'
def spPasses : Sp := fun vs H Q _ => ∃ (ps pl pg : Addr) (x1 y1 x2 y2 lx ly gx gy : Int), vs = [.ref ps, .ref pl, .ref pg] ∧ Stk H ps x1 y1 x2 y2 ∧ H pl = some (.tup [.int lx, .int ly]) ∧ H pg = some (.tup [.int gx, .int gy]) ∧ ∀ H', Same H H' → Q (.bl (passL x1 y1 x2 y2 lx ly gx gy)) H'
theorem aw_small {a b : Int} (h1 : -40 ≤ a ∧ a ≤ 40) (h2 : -40 ≤ b ∧ b ≤ 40) : 0 ≤ aw a b ∧ aw a b ≤ 80 := by unfold aw; split <;> omega
section
variable {P : Program} {w : World} {K : PySem.W.Frag} {mg : Str → Option Value} {base : Heap} {f : Addr} {fd : FuncData}
abbrev s_moments : Stmt := top 16
theorem sc_moments : FnScope ["start", "end", "unit", "least", "greatest", "lower", "upper"] ["start", "end", "unit", "least", "greatest"] (defScope s_moments) := ⟨rfl, rfl, rfl, by decide +kernel, rfl, by decide +kernel, by decide +kernel⟩
theorem ok_moments (F : Fun K "moments" "moments" s_moments f fd) : FnOk P w K mg base CX0 1 f fd ["start", "end", "unit", "least", "greatest"] spMoments := by
  refine F.ok sc_moments (fun vs H Q E h => ?_) (fun cdv A outer s H vs Q E hr h => ?_)
  · obtain ⟨a, b, t, l, g, rfl, _⟩ := h
    rfl
  obtain ⟨a, b, t, l, g, rfl, t0, t1, q⟩ := h
  refine ⟨_, (pss_cons (ps_par (i := 5) (j := 6) (by rfl) sc_moments.nd rfl rfl (by decide) rfl rfl (pa_cons (pe_op op_sub (pe_op op_mul pe_int (pe_op op_sub (pv 3) (pv 0))) pe_int) (pa_cons (pe_op op_add (pe_op op_mul pe_int (pe_op op_sub (pv 4) (pv 0))) pe_int) pa_nil)) (by rfl))
    (pss_cons (ps_if (pt_cmpR op_lt (pv 0) (pv 1) (nomark _))
    (pss_one (ps_ret (pe_tup (pa_cons (pe_op op_mul (pe_op op_mul pe_int (pv 2)) (pv 5)) (pa_cons (pe_op op_sub (pe_op op_mul (pe_op op_mul pe_int (pv 2)) (pv 6)) pe_int) pa_nil)))))
    pss_nil)
    (pss_one (ps_ret (pe_tup (pa_cons (pe_op op_sub pe_int (pe_op op_mul (pe_op op_mul pe_int (pv 2)) (pv 6))) (pa_cons (pe_op op_mul (pe_op op_mul (pe_un un_neg pe_int) (pv 2)) (pv 5)) pa_nil))))))), ?_⟩
  unfold inM outM at q
  refine ⟨_, rfl, _, rfl, _, _, rfl, rfl, _, _, rfl, rfl, .inl ⟨by decide, by decide⟩, _, _, rfl, rfl, ?_⟩
  refine ⟨_, rfl, _, rfl, _, _, rfl, rfl, _, _, rfl, rfl, .inl ⟨by decide, by decide⟩, _, _, rfl, rfl, _, _, rfl, ?_⟩
  refine ⟨_, rfl, _, rfl, _, _, rfl, rfl, _, rfl, ?_⟩
  by_cases c : a < b
  · refine iteDT c ?_
    rw [if_pos c, if_pos c] at q
    refine ⟨_, rfl, _, _, rfl, rfl, .inl ⟨by decide, by decide⟩, _, rfl, _, _, rfl, rfl, .inl ⟨by omega, by omega⟩, ?_⟩
    refine ⟨_, rfl, _, _, rfl, rfl, .inl ⟨by decide, by decide⟩, _, rfl, _, _, rfl, rfl, .inl ⟨by omega, by omega⟩, _, _, rfl, rfl, ?_⟩
    exact ⟨sz (by decide : 2 ≤ 100000), fun r nr => q r _ (same_new nr _) upd_same⟩
  · refine iteDF c ?_
    rw [if_neg c, if_neg c] at q
    refine ⟨_, rfl, _, _, rfl, rfl, .inl ⟨by decide, by decide⟩, _, rfl, _, _, rfl, rfl, .inl ⟨by omega, by omega⟩, _, _, rfl, rfl, ?_⟩
    refine ⟨_, rfl, _, rfl, _, _, rfl, rfl, .inl ⟨by decide, by decide⟩, _, rfl, _, _, rfl, rfl, .inl ⟨by omega, by omega⟩, ?_⟩
    exact ⟨sz (by decide : 2 ≤ 100000), fun r nr => q r _ (same_new nr _) upd_same⟩
abbrev s_passes : Stmt := top 15
theorem sc_passes : FnScope ["stroke", "least", "greatest", "x1", "y1", "x2", "y2", "wide", "tall", "in_x", "out_x", "in_y", "out_y"] ["stroke", "least", "greatest"] (defScope s_passes) := ⟨rfl, rfl, rfl, by decide +kernel, rfl, by decide +kernel, by decide +kernel⟩
theorem ok_passes (B : Blt mg) (c_moments : Cal P w K mg base 1 "moments" ["start", "end", "unit", "least", "greatest"] spMoments) (F : Fun K "passes" "passes" s_passes f fd) : FnOk P w K mg base CX0 2 f fd ["stroke", "least", "greatest"] spPasses := by
  refine F.ok sc_passes (fun vs H Q E h => ?_) (fun cdv A outer s H vs Q E hr h => ?_)
  · obtain ⟨ps, pl, pg, x1, y1, x2, y2, lx, ly, gx, gy, rfl, _⟩ := h
    rfl
  obtain ⟨ps, pl, pg, x1, y1, x2, y2, lx, ly, gx, gy, rfl, hst, hl, hg, q⟩ := h
  have bs := hst.2.1
  refine ⟨_, (pss_cons (ps_asg (pv 0) (pg_tup rfl (pgs_cons (pg_name (i := 3) sc_passes.nd rfl (Or.inl rfl)) (pgs_cons (pg_name (i := 4) sc_passes.nd rfl (Or.inl rfl)) (pgs_cons (pg_name (i := 5) sc_passes.nd rfl (Or.inl rfl)) (pgs_cons (pg_name (i := 6) sc_passes.nd rfl (Or.inl rfl)) pgs_nil))))))
    (pss_cons (ps_if (PW.pt (pw_or (pt_cmpR op_lt (pe_callB (call_max2 rfl) rfl B.max bt_max (pa_cons (pv 3) (pa_cons (pv 5) pa_nil))) (pe_ix ix_tup (pv 1) pe_int (fun _ _ => rfl)) (nomark _)) (pw_or1 (pt_cmpR op_lt (pe_ix ix_tup (pv 2) pe_int (fun _ _ => rfl)) (pe_callB (call_min2 rfl) rfl B.min bt_min (pa_cons (pv 3) (pa_cons (pv 5) pa_nil))) (nomark _)))))
    (pss_one (ps_ret pe_bl))
    pss_nil)
    (pss_cons (ps_if (PW.pt (pw_or (pt_cmpR op_lt (pe_callB (call_max2 rfl) rfl B.max bt_max (pa_cons (pv 4) (pa_cons (pv 6) pa_nil))) (pe_ix ix_tup (pv 1) pe_int (fun _ _ => rfl)) (nomark _)) (pw_or1 (pt_cmpR op_lt (pe_ix ix_tup (pv 2) pe_int (fun _ _ => rfl)) (pe_callB (call_min2 rfl) rfl B.min bt_min (pa_cons (pv 4) (pa_cons (pv 6) pa_nil))) (nomark _)))))
    (pss_one (ps_ret pe_bl))
    pss_nil)
    (pss_cons (ps_par (i := 7) (j := 8) (by rfl) sc_passes.nd rfl rfl (by decide) rfl rfl (pa_cons (pe_callB call_abs rfl B.abs bt_abs (pa_cons (pe_op op_sub (pv 5) (pv 3)) pa_nil)) (pa_cons (pe_callB call_abs rfl B.abs bt_abs (pa_cons (pe_op op_sub (pv 6) (pv 4)) pa_nil)) pa_nil)) (by rfl))
    (pss_cons (ps_if (PW.pt (pw_or (pt_cmpR op_eq (pv 7) pe_int (nomark _)) (pw_or1 (pt_cmpR op_eq (pv 8) pe_int (nomark _)))))
    (pss_one (ps_ret pe_bl))
    pss_nil)
    (pss_cons (ps_asg (pe_cal c_moments hr (pa_cons (pv 3) (pa_cons (pv 5) (pa_cons (pv 8) (pa_cons (pe_ix ix_tup (pv 1) pe_int (fun _ _ => rfl)) (pa_cons (pe_ix ix_tup (pv 2) pe_int (fun _ _ => rfl)) pa_nil)))))) (pg_tup rfl (pgs_cons (pg_name (i := 9) sc_passes.nd rfl (Or.inl rfl)) (pgs_cons (pg_name (i := 10) sc_passes.nd rfl (Or.inl rfl)) pgs_nil))))
    (pss_cons (ps_asg (pe_cal c_moments hr (pa_cons (pv 4) (pa_cons (pv 6) (pa_cons (pv 7) (pa_cons (pe_ix ix_tup (pv 1) pe_int (fun _ _ => rfl)) (pa_cons (pe_ix ix_tup (pv 2) pe_int (fun _ _ => rfl)) pa_nil)))))) (pg_tup rfl (pgs_cons (pg_name (i := 11) sc_passes.nd rfl (Or.inl rfl)) (pgs_cons (pg_name (i := 12) sc_passes.nd rfl (Or.inl rfl)) pgs_nil))))
    (pss_one (ps_ret (pe_cmpR op_le (pe_callB (call_max3Nu rfl) rfl B.max bt_max (pa_cons pe_int (pa_cons (pv 9) (pa_cons (pv 11) pa_nil)))) (pe_callB (call_min3Nu rfl) rfl B.min bt_min (pa_cons (pe_op op_mul (pe_op op_mul pe_int (pv 7)) (pv 8)) (pa_cons (pv 10) (pa_cons (pv 12) pa_nil)))) (nomark _))))))))))), ?_⟩
  unfold passL at q
  refine seq_with (fun σ' H' => H = H' ∧ σ' = [some (.ref ps), some (.ref pl), some (.ref pg), some (.int x1), some (.int y1), some (.int x2), some (.int y2), none, none, none, none, none, none]) (fun R hR => ⟨_, rfl, ps, _, rfl, SqT.of hst.1, rfl, _, _, rfl, _, _, rfl, _, _, rfl, _, _, rfl, rfl, hR _ _ ⟨rfl, rfl⟩⟩) ?_
  rintro _ _ ⟨rfl, rfl⟩
  refine ⟨_, rfl, _, rfl, _, _, rfl, _, rfl, pl, _, _, _, rfl, rfl, SqT.of hl, rfl, _, _, rfl, rfl, _, rfl, ?_⟩
  by_cases c1 : mx2 x1 x2 < lx
  · refine iteDT c1 ?_
    rw [if_pos (.inl c1)] at q
    exact q H (Same.refl H)
  refine iteDF c1 ?_
  refine ⟨_, rfl, pg, _, _, _, rfl, rfl, SqT.of hg, rfl, _, rfl, _, rfl, _, _, rfl, _, _, rfl, rfl, _, rfl, ?_⟩
  by_cases c2 : gx < mn2 x1 x2
  · refine iteDT c2 ?_
    rw [if_pos (.inr c2)] at q
    exact q H (Same.refl H)
  refine iteDF c2 ?_
  rw [if_neg (show ¬ (mx2 x1 x2 < lx ∨ gx < mn2 x1 x2) from fun z => z.elim c1 c2)] at q
  refine ⟨_, rfl, _, rfl, _, _, rfl, _, rfl, pl, _, _, _, rfl, rfl, SqT.of hl, rfl, _, _, rfl, rfl, _, rfl, ?_⟩
  by_cases c3 : mx2 y1 y2 < ly
  · refine iteDT c3 ?_
    rw [if_pos (.inl c3)] at q
    exact q H (Same.refl H)
  refine iteDF c3 ?_
  refine ⟨_, rfl, pg, _, _, _, rfl, rfl, SqT.of hg, rfl, _, rfl, _, rfl, _, _, rfl, _, _, rfl, rfl, _, rfl, ?_⟩
  by_cases c4 : gy < mn2 y1 y2
  · refine iteDT c4 ?_
    rw [if_pos (.inr c4)] at q
    exact q H (Same.refl H)
  refine iteDF c4 ?_
  rw [if_neg (show ¬ (mx2 y1 y2 < ly ∨ gy < mn2 y1 y2) from fun z => z.elim c3 c4)] at q
  have sx := aw_small (a := x1) (b := x2) (by omega) (by omega)
  have sy := aw_small (a := y1) (b := y2) (by omega) (by omega)
  dsimp only [tNext]
  refine seq_with (fun σ' H' => H = H' ∧ σ' = [some (.ref ps), some (.ref pl), some (.ref pg), some (.int x1), some (.int y1), some (.int x2), some (.int y2), some (.int (aw x1 x2)), some (.int (aw y1 y2)), none, none, none, none]) (fun R hR => ⟨_, rfl, _, rfl, _, _, rfl, rfl, _, rfl, _, rfl, _, rfl, _, _, rfl, rfl, _, rfl, _, _, rfl, hR _ _ ⟨rfl, rfl⟩⟩) ?_
  rintro _ _ ⟨rfl, rfl⟩
  refine ⟨_, rfl, rfl, _, rfl, ?_⟩
  by_cases c5 : aw x1 x2 = 0
  · refine iteDT (congrArg V.int c5) ?_
    rw [if_pos (.inl c5)] at q
    exact q H (Same.refl H)
  refine iteDF (fun z => c5 (V.int.inj z)) ?_
  refine ⟨_, rfl, rfl, _, rfl, ?_⟩
  by_cases c6 : aw y1 y2 = 0
  · refine iteDT (congrArg V.int c6) ?_
    rw [if_pos (.inr c6)] at q
    exact q H (Same.refl H)
  refine iteDF (fun z => c6 (V.int.inj z)) ?_
  rw [if_neg (show ¬ (aw x1 x2 = 0 ∨ aw y1 y2 = 0) from fun z => z.elim c5 c6)] at q
  dsimp only [tNext]
  refine seq_with (fun σ' H1 => Same H H1 ∧ σ' = [some (.ref ps), some (.ref pl), some (.ref pg), some (.int x1), some (.int y1), some (.int x2), some (.int y2), some (.int (aw x1 x2)), some (.int (aw y1 y2)), some (.int (inM x1 x2 (aw y1 y2) lx gx)), some (.int (outM x1 x2 (aw y1 y2) lx gx)), none, none]) (fun R hR => ?_) ?_
  · exact ⟨_, rfl, _, rfl, _, rfl, _, rfl, pl, _, _, _, rfl, rfl, SqT.of hl, rfl, _, rfl, pg, _, _, _, rfl, rfl, SqT.of hg, rfl, x1, x2, aw y1 y2, lx, gx, rfl, sy.1, by omega, fun r1 H1 s1 h1 => ⟨r1, _, rfl, SqT.of h1, rfl, _, _, rfl, _, _, rfl, rfl, hR _ _ ⟨s1, rfl⟩⟩⟩
  rintro _ H1 ⟨s1, rfl⟩
  refine seq_with (fun σ' H2 => Same H1 H2 ∧ σ' = [some (.ref ps), some (.ref pl), some (.ref pg), some (.int x1), some (.int y1), some (.int x2), some (.int y2), some (.int (aw x1 x2)), some (.int (aw y1 y2)), some (.int (inM x1 x2 (aw y1 y2) lx gx)), some (.int (outM x1 x2 (aw y1 y2) lx gx)), some (.int (inM y1 y2 (aw x1 x2) ly gy)), some (.int (outM y1 y2 (aw x1 x2) ly gy))]) (fun R hR => ?_) ?_
  · exact ⟨_, rfl, _, rfl, _, rfl, _, rfl, pl, _, _, _, rfl, rfl, SqT.of (s1 _ _ hl), rfl, _, rfl, pg, _, _, _, rfl, rfl, SqT.of (s1 _ _ hg), rfl, y1, y2, aw x1 x2, ly, gy, rfl, sx.1, by omega, fun r2 H2 s2 h2 => ⟨r2, _, rfl, SqT.of h2, rfl, _, _, rfl, _, _, rfl, rfl, hR _ _ ⟨s2, rfl⟩⟩⟩
  rintro _ H2 ⟨s2, rfl⟩
  refine ⟨_, rfl, _, rfl, _, _, _, _, rfl, nu_mx3 _ _ _, ?_⟩
  refine ⟨_, rfl, _, _, rfl, rfl, .inl ⟨by decide, by decide⟩, _, rfl, _, _, rfl, rfl, .inl ⟨by show -(2 ^ 64) < 4 * aw x1 x2; omega, by show 4 * aw x1 x2 < 2 ^ 64; omega⟩, _, rfl, _, rfl, _, _, _, _, rfl, nu_mn3 _ _ _, ?_⟩
  exact ⟨_, _, rfl, rfl, q _ (s1.trans s2)⟩
abbrev s_p_goes : Stmt := top 14
theorem sc_p_goes : FnScope ["stroke", "spot"] ["stroke", "spot"] (defScope s_p_goes) := ⟨rfl, rfl, rfl, by decide +kernel, rfl, by decide +kernel, by decide +kernel⟩
theorem ok_p_goes (c_passes : Cal P w K mg base 2 "passes" ["stroke", "least", "greatest"] spPasses) (F : Fun K "goes" "goes" s_p_goes f fd) : FnOk P w K mg base CX0 3 f fd ["stroke", "spot"] spGoes := by
  refine F.ok sc_p_goes (fun vs H Q E h => ?_) (fun cdv A outer s H vs Q E hr h => ?_)
  · obtain ⟨ps, pt, x1, y1, x2, y2, sx, sy, rfl, _⟩ := h
    rfl
  obtain ⟨ps, pt, x1, y1, x2, y2, sx, sy, rfl, hst, hpt, _, q⟩ := h
  refine ⟨_, (pss_one (ps_ret (pe_cal c_passes hr (pa_cons (pv 0) (pa_cons (pv 1) (pa_cons (pv 1) pa_nil)))))), ?_⟩
  refine ⟨_, rfl, _, rfl, _, rfl, ps, pt, pt, x1, y1, x2, y2, sx, sy, sx, sy, rfl, hst, hpt, hpt, fun H' s' => ?_⟩
  rw [passL_goes]
  exact q H' s'
end
end DM

namespace DM
/-! ### the squares of a stroke stand in one row -/
/-- q comes behind p on the way -/
def ahead (x1 y1 x2 y2 : Int) (p q : Int × Int) : Prop :=
  p ≠ q ∧ 0 ≤ (q.1 - p.1) * (x2 - x1) ∧ 0 ≤ (q.2 - p.2) * (y2 - y1) ∧ (x1 = x2 → q.1 = p.1) ∧ (y1 = y2 → q.2 = p.2)
theorem mul_nn {a b : Int} (hb : b ≠ 0) (h : 0 ≤ a * b) (h' : 0 ≤ (-a) * b) : a = 0 := by
  rw [Int.neg_mul] at h'
  exact (Int.mul_eq_zero.mp (by omega)).resolve_right hb
theorem ahead_asymm {x1 y1 x2 y2 : Int} {p q : Int × Int} (h : ahead x1 y1 x2 y2 p q) (h' : ahead x1 y1 x2 y2 q p) : False := by
  obtain ⟨ne, a1, a2, a3, a4⟩ := h
  obtain ⟨_, b1, b2, _, _⟩ := h'
  apply ne
  have e1 : q.1 - p.1 = 0 := by
    by_cases c : x1 = x2
    · have := a3 c; omega
    · exact mul_nn (b := x2 - x1) (by omega) a1 (by rw [show -(q.1 - p.1) = p.1 - q.1 by omega]; exact b1)
  have e2 : q.2 - p.2 = 0 := by
    by_cases c : y1 = y2
    · have := a4 c; omega
    · exact mul_nn (b := y2 - y1) (by omega) a2 (by rw [show -(q.2 - p.2) = p.2 - q.2 by omega]; exact b2)
  exact Prod.ext (by omega) (by omega)
theorem ahead_trans {x1 y1 x2 y2 : Int} {p q r : Int × Int} (h : ahead x1 y1 x2 y2 p q) (h' : ahead x1 y1 x2 y2 q r) : ahead x1 y1 x2 y2 p r := by
  refine ⟨fun e => ?_, ?_, ?_, fun c => (h'.2.2.2.1 c).trans (h.2.2.2.1 c), fun c => (h'.2.2.2.2 c).trans (h.2.2.2.2 c)⟩
  · subst e
    exact ahead_asymm h h'
  · have a := h.2.1
    have b := h'.2.1
    rw [show r.1 - p.1 = (q.1 - p.1) + (r.1 - q.1) by omega, Int.add_mul]
    omega
  · have a := h.2.2.1
    have b := h'.2.2.1
    rw [show r.2 - p.2 = (q.2 - p.2) + (r.2 - q.2) by omega, Int.add_mul]
    omega
theorem ahead_rev {x1 y1 x2 y2 : Int} {p q : Int × Int} : ahead x2 y2 x1 y1 p q ↔ ahead x1 y1 x2 y2 q p := by
  unfold ahead
  rw [show (q.1 - p.1) * (x1 - x2) = (p.1 - q.1) * (x2 - x1) by rw [← Int.neg_mul_neg]; congr 1 <;> omega, show (q.2 - p.2) * (y1 - y2) = (p.2 - q.2) * (y2 - y1) by rw [← Int.neg_mul_neg]; congr 1 <;> omega]
  exact ⟨fun ⟨a, b, c, d, e⟩ => ⟨Ne.symm a, b, c, fun z => (d z.symm).symm, fun z => (e z.symm).symm⟩, fun ⟨a, b, c, d, e⟩ => ⟨Ne.symm a, b, c, fun z => (d z.symm).symm, fun z => (e z.symm).symm⟩⟩
theorem ahead_move {x1 y1 x2 y2 a b : Int} {p q : Int × Int} : ahead (x1 + a) (y1 + b) (x2 + a) (y2 + b) (p.1 + a, p.2 + b) (q.1 + a, q.2 + b) ↔ ahead x1 y1 x2 y2 p q := by
  unfold ahead
  dsimp only
  rw [show q.1 + a - (p.1 + a) = q.1 - p.1 by omega, show q.2 + b - (p.2 + b) = q.2 - p.2 by omega, show x2 + a - (x1 + a) = x2 - x1 by omega, show y2 + b - (y1 + b) = y2 - y1 by omega]
  have e : ((p.1 + a, p.2 + b) ≠ (q.1 + a, q.2 + b)) ↔ p ≠ q := by
    refine ⟨fun h z => h (by rw [z]), fun h z => h ?_⟩
    have z1 := congrArg Prod.fst z
    have z2 := congrArg Prod.snd z
    exact Prod.ext (by dsimp only at z1; omega) (by dsimp only at z2; omega)
  rw [e]
  constructor
  · intro ⟨h1, h2, h3, h4, h5⟩
    exact ⟨h1, h2, h3, fun z => by have := h4 (by omega); omega, fun z => by have := h5 (by omega); omega⟩
  · intro ⟨h1, h2, h3, h4, h5⟩
    exact ⟨h1, h2, h3, fun z => by have := h4 (by omega); omega, fun z => by have := h5 (by omega); omega⟩
theorem ahead_flip {x1 y1 x2 y2 : Int} {p q : Int × Int} : ahead y1 x1 y2 x2 (p.2, p.1) (q.2, q.1) ↔ ahead x1 y1 x2 y2 p q := by
  unfold ahead
  dsimp only
  have e : ((p.2, p.1) ≠ (q.2, q.1)) ↔ p ≠ q := by
    refine ⟨fun h z => h (by rw [z]), fun h z => h ?_⟩
    exact Prod.ext (congrArg Prod.snd z) (congrArg Prod.fst z)
  rw [e]
  exact ⟨fun ⟨a, b, c, d, e⟩ => ⟨a, c, b, e, d⟩, fun ⟨a, b, c, d, e⟩ => ⟨a, c, b, e, d⟩⟩
/-- how far along -/
def along (x1 y1 x2 y2 : Int) (p : Int × Int) : Int := p.1 * (x2 - x1) + p.2 * (y2 - y1)
theorem ahead_along {x1 y1 x2 y2 : Int} {p q : Int × Int} (h : ahead x1 y1 x2 y2 p q) : along x1 y1 x2 y2 p < along x1 y1 x2 y2 q := by
  obtain ⟨ne, a1, a2, a3, a4⟩ := h
  unfold along
  have e1 := Int.sub_mul q.1 p.1 (x2 - x1)
  have e2 := Int.sub_mul q.2 p.2 (y2 - y1)
  rcases Int.lt_or_eq_of_le a1 with z1 | z1
  · omega
  rcases Int.lt_or_eq_of_le a2 with z2 | z2
  · omega
  exfalso
  apply ne
  have f1 : q.1 - p.1 = 0 := by
    by_cases c : x1 = x2
    · have := a3 c; omega
    · exact (Int.mul_eq_zero.mp z1.symm).resolve_right (by omega)
  have f2 : q.2 - p.2 = 0 := by
    by_cases c : y1 = y2
    · have := a4 c; omega
    · exact (Int.mul_eq_zero.mp z2.symm).resolve_right (by omega)
  exact Prod.ext (by omega) (by omega)
/-! ### at a time there is one square -/
theorem half_one {V m s s' : Int} (hm : 0 < m) (h1 : (2 * s - 1) * m ≤ V) (h2 : V < (2 * s + 1) * m) (h1' : (2 * s' - 1) * m ≤ V) (h2' : V < (2 * s' + 1) * m) : s = s' := by
  have a := Int.lt_of_mul_lt_mul_right (Int.lt_of_le_of_lt h1 h2') (by omega)
  have b := Int.lt_of_mul_lt_mul_right (Int.lt_of_le_of_lt h1' h2) (by omega)
  omega
theorem ins_one {x1 y1 x2 y2 n m : Int} {p q : Int × Int} (hm : 0 < m) (h : Ins x1 y1 x2 y2 p.1 p.2 n m) (h' : Ins x1 y1 x2 y2 q.1 q.2 n m) : p = q :=
  Prod.ext (half_one hm h.1 h.2.1 h'.1 h'.2.1) (half_one hm h.2.2.1 h.2.2.2 h'.2.2.1 h'.2.2.2)
theorem half_some (V : Int) {m : Int} (hm : 0 < m) : ∃ s : Int, (2 * s - 1) * m ≤ V ∧ V < (2 * s + 1) * m := by
  refine ⟨(V + m) / (2 * m), ?_⟩
  have a := Int.mul_ediv_self_le (x := V + m) (k := 2 * m) (by omega)
  have b := Int.lt_mul_ediv_self_add (x := V + m) (k := 2 * m) (by omega)
  generalize (V + m) / (2 * m) = s at *
  rw [Int.sub_mul, Int.add_mul, Int.one_mul, show 2 * s * m = 2 * m * s by rw [Int.mul_assoc, Int.mul_comm s, Int.mul_assoc]]
  omega
theorem half_mono {b u n m n' m' s s' : Int} (hm : 0 < m) (hm' : 0 < m') (h1 : (2 * s - 1) * m ≤ 2 * b * m + 2 * u * n) (h2' : 2 * b * m' + 2 * u * n' < (2 * s' + 1) * m') (hn : u * n * m' ≤ u * n' * m) : s ≤ s' := by
  have a1 := Int.mul_le_mul_of_nonneg_right h1 (show 0 ≤ m' by omega)
  have a2 := Int.mul_lt_mul_of_pos_right h2' hm
  have e1 : (2 * b * m + 2 * u * n) * m' = 2 * b * m * m' + 2 * (u * n * m') := by rw [Int.add_mul, Int.mul_assoc 2 u, Int.mul_assoc 2 (u * n)]
  have e2 : (2 * b * m' + 2 * u * n') * m = 2 * b * m * m' + 2 * (u * n' * m) := by rw [Int.add_mul, Int.mul_assoc 2 u, Int.mul_assoc 2 (u * n'), Int.mul_right_comm (2 * b)]
  have e3 : (2 * s' + 1) * m' * m = (2 * s' + 1) * (m * m') := by rw [Int.mul_assoc, Int.mul_comm m' m]
  have e4 : (2 * s - 1) * m * m' = (2 * s - 1) * (m * m') := Int.mul_assoc ..
  rw [e1, e4] at a1
  rw [e2, e3] at a2
  have := Int.lt_of_mul_lt_mul_right (show (2 * s - 1) * (m * m') < (2 * s' + 1) * (m * m') by omega) (Int.le_of_lt (Int.mul_pos hm hm'))
  omega
theorem half_way {b u n m n' m' s s' : Int} (hm : 0 < m) (hm' : 0 < m') (h1 : (2 * s - 1) * m ≤ 2 * b * m + 2 * u * n) (h2 : 2 * b * m + 2 * u * n < (2 * s + 1) * m) (h1' : (2 * s' - 1) * m' ≤ 2 * b * m' + 2 * u * n') (h2' : 2 * b * m' + 2 * u * n' < (2 * s' + 1) * m') (hn : n * m' ≤ n' * m) : 0 ≤ (s' - s) * u ∧ (u = 0 → s' = s) := by
  rcases Int.lt_trichotomy u 0 with c | c | c
  · have k : u * (n' * m) ≤ u * (n * m') := by
      have z := Int.mul_le_mul_of_nonneg_left hn (show 0 ≤ -u by omega)
      rw [Int.neg_mul, Int.neg_mul] at z
      omega
    have := half_mono hm' hm h1' h2 (by rw [Int.mul_assoc, Int.mul_assoc]; exact k)
    exact ⟨Int.mul_nonneg_of_nonpos_of_nonpos (by omega) (by omega), fun z => absurd z (by omega)⟩
  · subst c
    have f := half_mono hm hm' h1 h2' (by rw [Int.zero_mul, Int.zero_mul, Int.zero_mul, Int.zero_mul]; exact Int.le_refl _)
    have g := half_mono hm' hm h1' h2 (by rw [Int.zero_mul, Int.zero_mul, Int.zero_mul, Int.zero_mul]; exact Int.le_refl _)
    have e : s' = s := by omega
    subst e
    exact ⟨by rw [Int.mul_zero]; exact Int.le_refl _, fun _ => rfl⟩
  · have k := Int.mul_le_mul_of_nonneg_left hn (show 0 ≤ u by omega)
    have := half_mono hm hm' h1 h2' (by rw [Int.mul_assoc, Int.mul_assoc]; exact k)
    exact ⟨Int.mul_nonneg (by omega) (by omega), fun z => absurd z (by omega)⟩
theorem ins_way {x1 y1 x2 y2 n m n' m' : Int} {p q : Int × Int} (hm : 0 < m) (hm' : 0 < m') (h : Ins x1 y1 x2 y2 p.1 p.2 n m) (h' : Ins x1 y1 x2 y2 q.1 q.2 n' m') (hn : n * m' ≤ n' * m) : p = q ∨ ahead x1 y1 x2 y2 p q := by
  by_cases c : p = q
  · exact .inl c
  · have a := half_way hm hm' h.1 h.2.1 h'.1 h'.2.1 hn
    have b := half_way hm hm' h.2.2.1 h.2.2.2 h'.2.2.1 h'.2.2.2 hn
    exact .inr ⟨c, a.1, b.1, fun z => a.2 (by omega), fun z => b.2 (by omega)⟩
theorem thr_chain {x1 y1 x2 y2 : Int} {p q : Int × Int} (h : Thr x1 y1 x2 y2 p.1 p.2) (h' : Thr x1 y1 x2 y2 q.1 q.2) : p = q ∨ ahead x1 y1 x2 y2 p q ∨ ahead x1 y1 x2 y2 q p := by
  obtain ⟨n, m, hm, _, _, i⟩ := h
  obtain ⟨n', m', hm', _, _, i'⟩ := h'
  rcases Int.le_total (n * m') (n' * m) with z | z
  · rcases ins_way hm hm' i i' z with y | y
    · exact .inl y
    · exact .inr (.inl y)
  · rcases ins_way hm' hm i' i z with y | y
    · exact .inl y.symm
    · exact .inr (.inr y)
theorem thr_first (x1 y1 x2 y2 : Int) : Thr x1 y1 x2 y2 x1 y1 := ⟨0, 1, by decide, by decide, by decide, by unfold Ins; omega⟩
theorem thr_last (x1 y1 x2 y2 : Int) : Thr x1 y1 x2 y2 x2 y2 := ⟨1, 1, by decide, by decide, by decide, by unfold Ins; omega⟩
theorem thr_from {x1 y1 x2 y2 : Int} {p : Int × Int} (h : Thr x1 y1 x2 y2 p.1 p.2) : (x1, y1) = p ∨ ahead x1 y1 x2 y2 (x1, y1) p := by
  obtain ⟨n, m, hm, h0, _, i⟩ := h
  exact ins_way (p := (x1, y1)) (n := 0) (m := 1) (by decide) hm (by unfold Ins; omega) i (by omega)
theorem thr_to {x1 y1 x2 y2 : Int} {p : Int × Int} (h : Thr x1 y1 x2 y2 p.1 p.2) : p = (x2, y2) ∨ ahead x1 y1 x2 y2 p (x2, y2) := by
  obtain ⟨n, m, hm, _, h1, i⟩ := h
  exact ins_way (q := (x2, y2)) (n' := 1) (m' := 1) hm (by decide) i (by unfold Ins; omega) (by omega)
theorem thr_flip {x1 y1 x2 y2 sx sy : Int} (h : Thr x1 y1 x2 y2 sx sy) : Thr y1 x1 y2 x2 sy sx := by
  obtain ⟨n, m, hm, h0, h1, a, b, c, d⟩ := h
  exact ⟨n, m, hm, h0, h1, c, d, a, b⟩
theorem thr_move {x1 y1 x2 y2 sx sy : Int} (a b : Int) (h : Thr x1 y1 x2 y2 sx sy) : Thr (x1 + a) (y1 + b) (x2 + a) (y2 + b) (sx + a) (sy + b) := by
  obtain ⟨n, m, hm, h0, h1, i⟩ := h
  refine ⟨n, m, hm, h0, h1, ?_⟩
  unfold Ins at *
  have key : ∀ x y s a : Int, (2 * (s + a) - 1) * m = (2 * s - 1) * m + 2 * a * m ∧ 2 * (x + a) * m + 2 * (y + a - (x + a)) * n = 2 * x * m + 2 * (y - x) * n + 2 * a * m ∧ (2 * (s + a) + 1) * m = (2 * s + 1) * m + 2 * a * m := fun x y s a => by
    rw [show y + a - (x + a) = y - x by omega, show 2 * (s + a) - 1 = (2 * s - 1) + 2 * a by omega, show 2 * (x + a) = 2 * x + 2 * a by omega, show 2 * (s + a) + 1 = (2 * s + 1) + 2 * a by omega, Int.add_mul, Int.add_mul, Int.add_mul]
    omega
  have k1 := key x1 x2 sx a
  have k2 := key y1 y2 sy b
  omega
/-- a column between is gone through between -/
theorem col_up {x1 y1 x2 y2 n m n' m' c : Int} {p q : Int × Int} (hm : 0 < m) (hm' : 0 < m') (h0 : 0 ≤ n) (h1 : n' ≤ m') (i : Ins x1 y1 x2 y2 p.1 p.2 n m) (i' : Ins x1 y1 x2 y2 q.1 q.2 n' m') (hu : x1 < x2) (hp : p.1 < c) (hq : c < q.1) : ∃ r : Int × Int, r.1 = c ∧ Thr x1 y1 x2 y2 r.1 r.2 ∧ ahead x1 y1 x2 y2 p r ∧ ahead x1 y1 x2 y2 r q := by
  obtain ⟨r2, b1, b2⟩ := half_some (2 * y1 * (x2 - x1) + 2 * (y2 - y1) * (c - x1)) (m := x2 - x1) (by omega)
  have ex : 2 * x1 * (x2 - x1) + 2 * (x2 - x1) * (c - x1) = 2 * c * (x2 - x1) := by
    rw [Int.mul_assoc 2 (x2 - x1), Int.mul_comm (x2 - x1) (c - x1), Int.mul_assoc, Int.mul_assoc, ← Int.mul_add, ← Int.add_mul]
    rw [show x1 + (c - x1) = c by omega]
  have ir : Ins x1 y1 x2 y2 c r2 (c - x1) (x2 - x1) := by
    refine ⟨?_, ?_, b1, b2⟩
    · rw [ex]
      exact Int.mul_le_mul_of_nonneg_right (by omega) (by omega)
    · rw [ex]
      exact Int.mul_lt_mul_of_pos_right (by omega) (by omega)
  have t1 : n * (x2 - x1) ≤ (c - x1) * m := by
    have a := i.2.1
    have b := Int.mul_le_mul_of_nonneg_right (show 2 * p.1 + 1 ≤ 2 * c by omega) (show 0 ≤ m by omega)
    rw [Int.sub_mul, Int.mul_comm n]
    have e : 2 * (x2 - x1) * n = 2 * ((x2 - x1) * n) := Int.mul_assoc ..
    have e2 : 2 * x1 * m = 2 * (x1 * m) := Int.mul_assoc ..
    have e3 : 2 * c * m = 2 * (c * m) := Int.mul_assoc ..
    omega
  have t2 : (c - x1) * m' ≤ n' * (x2 - x1) := by
    have a := i'.1
    have b := Int.mul_le_mul_of_nonneg_right (show 2 * c ≤ 2 * q.1 - 1 by omega) (show 0 ≤ m' by omega)
    rw [Int.sub_mul, Int.mul_comm n']
    have e : 2 * (x2 - x1) * n' = 2 * ((x2 - x1) * n') := Int.mul_assoc ..
    have e2 : 2 * x1 * m' = 2 * (x1 * m') := Int.mul_assoc ..
    have e3 : 2 * c * m' = 2 * (c * m') := Int.mul_assoc ..
    omega
  have c0 : 0 ≤ c - x1 := by
    have k := Int.mul_nonneg h0 (show 0 ≤ x2 - x1 by omega)
    rcases Int.lt_or_le (c - x1) 0 with z | z
    · have := Int.mul_neg_of_neg_of_pos z hm
      omega
    · exact z
  have c1 : c - x1 ≤ x2 - x1 := by
    have k := Int.mul_le_mul_of_nonneg_right h1 (show 0 ≤ x2 - x1 by omega)
    rw [Int.mul_comm m'] at k
    exact Int.le_of_mul_le_mul_right (Int.le_trans t2 k) hm'
  have w1 := ins_way (q := (c, r2)) hm (show 0 < x2 - x1 by omega) i ir t1
  have w2 := ins_way (p := (c, r2)) (show 0 < x2 - x1 by omega) hm' ir i' t2
  refine ⟨(c, r2), rfl, ⟨c - x1, x2 - x1, by omega, c0, c1, ir⟩, w1.resolve_left (fun z => ?_), w2.resolve_left (fun z => ?_)⟩
  · rw [z] at hp; exact absurd hp (Int.lt_irrefl _)
  · rw [← z] at hq; exact absurd hq (Int.lt_irrefl _)
theorem col_down {x1 y1 x2 y2 n m n' m' c : Int} {p q : Int × Int} (hm : 0 < m) (hm' : 0 < m') (h0 : 0 ≤ n) (h1 : n' ≤ m') (i : Ins x1 y1 x2 y2 p.1 p.2 n m) (i' : Ins x1 y1 x2 y2 q.1 q.2 n' m') (hu : x2 < x1) (hp : c < p.1) (hq : q.1 < c) : ∃ r : Int × Int, r.1 = c ∧ Thr x1 y1 x2 y2 r.1 r.2 ∧ ahead x1 y1 x2 y2 p r ∧ ahead x1 y1 x2 y2 r q := by
  obtain ⟨r2, b1, b2⟩ := half_some (2 * y1 * (x1 - x2) + 2 * (y2 - y1) * (x1 - c)) (m := x1 - x2) (by omega)
  have ex : 2 * x1 * (x1 - x2) + 2 * (x2 - x1) * (x1 - c) = 2 * c * (x1 - x2) := by
    rw [show 2 * (x2 - x1) * (x1 - c) = 2 * (c - x1) * (x1 - x2) by rw [Int.mul_assoc, Int.mul_assoc, show (c - x1) * (x1 - x2) = (x2 - x1) * (x1 - c) by rw [← Int.neg_mul_neg, Int.mul_comm]; congr 1 <;> omega], ← Int.add_mul]
    congr 1
    omega
  have ir : Ins x1 y1 x2 y2 c r2 (x1 - c) (x1 - x2) := by
    refine ⟨?_, ?_, b1, b2⟩
    · rw [ex]
      exact Int.mul_le_mul_of_nonneg_right (by omega) (by omega)
    · rw [ex]
      exact Int.mul_lt_mul_of_pos_right (by omega) (by omega)
  have t1 : n * (x1 - x2) ≤ (x1 - c) * m := by
    have a := i.1
    have b := Int.mul_le_mul_of_nonneg_right (show 2 * c ≤ 2 * p.1 - 1 by omega) (show 0 ≤ m by omega)
    rw [Int.sub_mul, Int.mul_comm n]
    have e : 2 * (x2 - x1) * n = - (2 * ((x1 - x2) * n)) := by rw [Int.mul_assoc, ← Int.mul_neg, ← Int.neg_mul]; congr 2; omega
    have e2 : 2 * x1 * m = 2 * (x1 * m) := Int.mul_assoc ..
    have e3 : 2 * c * m = 2 * (c * m) := Int.mul_assoc ..
    omega
  have t2 : (x1 - c) * m' ≤ n' * (x1 - x2) := by
    have a := i'.2.1
    have b := Int.mul_le_mul_of_nonneg_right (show 2 * q.1 + 1 ≤ 2 * c by omega) (show 0 ≤ m' by omega)
    rw [Int.sub_mul, Int.mul_comm n']
    have e : 2 * (x2 - x1) * n' = - (2 * ((x1 - x2) * n')) := by rw [Int.mul_assoc, ← Int.mul_neg, ← Int.neg_mul]; congr 2; omega
    have e2 : 2 * x1 * m' = 2 * (x1 * m') := Int.mul_assoc ..
    have e3 : 2 * c * m' = 2 * (c * m') := Int.mul_assoc ..
    omega
  have c0 : 0 ≤ x1 - c := by
    have k := Int.mul_nonneg h0 (show 0 ≤ x1 - x2 by omega)
    rcases Int.lt_or_le (x1 - c) 0 with z | z
    · have := Int.mul_neg_of_neg_of_pos z hm
      omega
    · exact z
  have c1 : x1 - c ≤ x1 - x2 := by
    have k := Int.mul_le_mul_of_nonneg_right h1 (show 0 ≤ x1 - x2 by omega)
    rw [Int.mul_comm m'] at k
    exact Int.le_of_mul_le_mul_right (Int.le_trans t2 k) hm'
  have w1 := ins_way (q := (c, r2)) hm (show 0 < x1 - x2 by omega) i ir t1
  have w2 := ins_way (p := (c, r2)) (show 0 < x1 - x2 by omega) hm' ir i' t2
  refine ⟨(c, r2), rfl, ⟨x1 - c, x1 - x2, by omega, c0, c1, ir⟩, w1.resolve_left (fun z => ?_), w2.resolve_left (fun z => ?_)⟩
  · rw [z] at hp; exact absurd hp (Int.lt_irrefl _)
  · rw [← z] at hq; exact absurd hq (Int.lt_irrefl _)
/-- two squares with none between are one step apart -/
theorem next_x {x1 y1 x2 y2 : Int} {p q : Int × Int} (h : Thr x1 y1 x2 y2 p.1 p.2) (h' : Thr x1 y1 x2 y2 q.1 q.2) (a : ahead x1 y1 x2 y2 p q) (none : ∀ r : Int × Int, Thr x1 y1 x2 y2 r.1 r.2 → ahead x1 y1 x2 y2 p r → ahead x1 y1 x2 y2 r q → False) : -1 ≤ q.1 - p.1 ∧ q.1 - p.1 ≤ 1 := by
  obtain ⟨n, m, hm, h0, h1, i⟩ := h
  obtain ⟨n', m', hm', h0', h1', i'⟩ := h'
  have a1 := a.2.1
  have a2 := a.2.2.2.1
  refine Decidable.byContradiction fun c => ?_
  rcases Int.lt_trichotomy x1 x2 with z | z | z
  · have up : p.1 + 1 < q.1 := by
      rcases Int.lt_or_le (q.1 - p.1) 0 with y | y
      · have := Int.mul_neg_of_neg_of_pos y (show 0 < x2 - x1 by omega)
        omega
      · omega
    obtain ⟨r, _, t, r1, r2⟩ := col_up hm hm' h0 h1' i i' z (c := p.1 + 1) (by omega) up
    exact none r t r1 r2
  · have := a2 z
    omega
  · have dn : q.1 < p.1 - 1 := by
      rcases Int.lt_or_le 0 (q.1 - p.1) with y | y
      · have := Int.mul_neg_of_pos_of_neg y (show x2 - x1 < 0 by omega)
        omega
      · omega
    obtain ⟨r, _, t, r1, r2⟩ := col_down hm hm' h0 h1' i i' z (c := p.1 - 1) (by omega) dn
    exact none r t r1 r2
theorem next_y {x1 y1 x2 y2 : Int} {p q : Int × Int} (h : Thr x1 y1 x2 y2 p.1 p.2) (h' : Thr x1 y1 x2 y2 q.1 q.2) (a : ahead x1 y1 x2 y2 p q) (none : ∀ r : Int × Int, Thr x1 y1 x2 y2 r.1 r.2 → ahead x1 y1 x2 y2 p r → ahead x1 y1 x2 y2 r q → False) : -1 ≤ q.2 - p.2 ∧ q.2 - p.2 ≤ 1 :=
  next_x (x1 := y1) (y1 := x1) (x2 := y2) (y2 := x2) (p := (p.2, p.1)) (q := (q.2, q.1)) (thr_flip h) (thr_flip h') (ahead_flip.mpr a) fun r t r1 r2 => none (r.2, r.1) (thr_flip t) (ahead_flip.mp (by exact r1)) (ahead_flip.mp (by exact r2))
end DM

namespace DM
theorem sorted_one {α : Type} {R : α → α → Prop} (asy : ∀ a b, R a b → R b a → False) : ∀ {L L' : List α}, L.Pairwise R → L'.Pairwise R → (∀ p, p ∈ L ↔ p ∈ L') → L = L'
  | [], [], _, _, _ => rfl
  | [], b :: _, _, _, h => absurd ((h b).mpr List.mem_cons_self) List.not_mem_nil
  | a :: _, [], _, _, h => absurd ((h a).mp List.mem_cons_self) List.not_mem_nil
  | a :: t, b :: t', h1, h2, h => by
    obtain ⟨a1, a2⟩ := List.pairwise_cons.mp h1
    obtain ⟨b1, b2⟩ := List.pairwise_cons.mp h2
    have e : a = b := by
      rcases List.mem_cons.mp ((h a).mp List.mem_cons_self) with z | z
      · exact z
      rcases List.mem_cons.mp ((h b).mpr List.mem_cons_self) with y | y
      · exact y.symm
      exact (asy _ _ (a1 _ y) (b1 _ z)).elim
    subst e
    congr 1
    refine sorted_one asy a2 b2 fun p => ⟨fun z => ?_, fun z => ?_⟩
    · rcases List.mem_cons.mp ((h p).mp (List.mem_cons_of_mem _ z)) with y | y
      · subst y
        exact (asy _ _ (a1 _ z) (a1 _ z)).elim
      · exact y
    · rcases List.mem_cons.mp ((h p).mpr (List.mem_cons_of_mem _ z)) with y | y
      · subst y
        exact (asy _ _ (b1 _ z) (b1 _ z)).elim
      · exact y
/-- those of S that the stroke goes through, in their order along it -/
def RowOf (x1 y1 x2 y2 : Int) (S : Int × Int → Prop) (L : List (Int × Int)) : Prop := (∀ p, p ∈ L ↔ S p ∧ Thr x1 y1 x2 y2 p.1 p.2) ∧ L.Pairwise (ahead x1 y1 x2 y2)
def Row (x1 y1 x2 y2 : Int) (L : List (Int × Int)) : Prop := (∀ p, p ∈ L ↔ Thr x1 y1 x2 y2 p.1 p.2) ∧ L.Pairwise (ahead x1 y1 x2 y2)
theorem Row.of {x1 y1 x2 y2 : Int} {L : List (Int × Int)} : Row x1 y1 x2 y2 L ↔ RowOf x1 y1 x2 y2 (fun _ => True) L := by
  unfold Row RowOf
  simp only [true_and]
section
variable {x1 y1 x2 y2 : Int} {S T : Int × Int → Prop} {L L' : List (Int × Int)}
theorem RowOf.one (h : RowOf x1 y1 x2 y2 S L) (h' : RowOf x1 y1 x2 y2 T L') (e : ∀ p, S p ↔ T p) : L = L' :=
  sorted_one (fun _ _ => ahead_asymm) h.2 h'.2 fun p => by rw [h.1, h'.1, e]
theorem Row.one (h : Row x1 y1 x2 y2 L) (h' : Row x1 y1 x2 y2 L') : L = L' := sorted_one (fun _ _ => ahead_asymm) h.2 h'.2 fun p => by rw [h.1, h'.1]
theorem RowOf.nodup (h : RowOf x1 y1 x2 y2 S L) : L.Nodup := h.2.imp fun a => a.1
theorem RowOf.filter (h : RowOf x1 y1 x2 y2 S L) (f : Int × Int → Bool) (hf : ∀ p, f p = true ↔ T p) : RowOf x1 y1 x2 y2 (fun p => S p ∧ T p) (L.filter f) := by
  refine ⟨fun p => ?_, h.2.filter _⟩
  rw [List.mem_filter, h.1, hf]
  exact ⟨fun ⟨⟨a, b⟩, c⟩ => ⟨⟨a, c⟩, b⟩, fun ⟨⟨a, c⟩, b⟩ => ⟨⟨a, b⟩, c⟩⟩
theorem thr_rev {sx sy : Int} (h : Thr x1 y1 x2 y2 sx sy) : Thr x2 y2 x1 y1 sx sy := by
  obtain ⟨n, m, hm, h0, h1, i⟩ := h
  refine ⟨m - n, m, hm, by omega, by omega, ?_⟩
  unfold Ins at *
  have key : ∀ a b : Int, 2 * b * m + 2 * (a - b) * (m - n) = 2 * a * m + 2 * (b - a) * n := fun a b => by
    simp only [Int.mul_sub, Int.sub_mul, Int.mul_assoc]
    omega
  rw [key x1 x2, key y1 y2]
  exact i
theorem RowOf.rev (h : RowOf x1 y1 x2 y2 S L) : RowOf x2 y2 x1 y1 S L.reverse := by
  refine ⟨fun p => ?_, ?_⟩
  · rw [List.mem_reverse, h.1]
    exact ⟨fun ⟨a, b⟩ => ⟨a, thr_rev b⟩, fun ⟨a, b⟩ => ⟨a, thr_rev b⟩⟩
  · rw [List.pairwise_reverse]
    exact h.2.imp fun a => ahead_rev.mpr a
theorem RowOf.move (h : RowOf x1 y1 x2 y2 S L) (a b : Int) : RowOf (x1 + a) (y1 + b) (x2 + a) (y2 + b) (fun p => S (p.1 - a, p.2 - b)) (L.map fun p => (p.1 + a, p.2 + b)) := by
  refine ⟨fun p => ?_, ?_⟩
  · rw [List.mem_map]
    constructor
    · rintro ⟨q, hq, rfl⟩
      obtain ⟨u, v⟩ := (h.1 q).mp hq
      refine ⟨?_, thr_move a b v⟩
      dsimp only
      rw [show q.1 + a - a = q.1 by omega, show q.2 + b - b = q.2 by omega]
      exact u
    · rintro ⟨u, v⟩
      refine ⟨(p.1 - a, p.2 - b), (h.1 _).mpr ⟨u, ?_⟩, Prod.ext (by dsimp only; omega) (by dsimp only; omega)⟩
      have w := thr_move (-a) (-b) v
      rw [show x1 + a + -a = x1 by omega, show y1 + b + -b = y1 by omega, show x2 + a + -a = x2 by omega, show y2 + b + -b = y2 by omega] at w
      exact w
  · rw [List.pairwise_map]
    exact h.2.imp fun z => ahead_move.mpr z
theorem RowOf.flip (h : RowOf x1 y1 x2 y2 S L) : RowOf y1 x1 y2 x2 (fun p => S (p.2, p.1)) (L.map fun p => (p.2, p.1)) := by
  refine ⟨fun p => ?_, ?_⟩
  · rw [List.mem_map]
    constructor
    · rintro ⟨q, hq, rfl⟩
      obtain ⟨u, v⟩ := (h.1 q).mp hq
      exact ⟨u, thr_flip v⟩
    · rintro ⟨u, v⟩
      exact ⟨(p.2, p.1), (h.1 _).mpr ⟨u, thr_flip v⟩, rfl⟩
  · rw [List.pairwise_map]
    exact h.2.imp fun z => ahead_flip.mpr z
theorem RowOf.first (h : RowOf x1 y1 x2 y2 S L) (hS : S (x1, y1)) : ∃ t, L = (x1, y1) :: t := by
  have m := (h.1 (x1, y1)).mpr ⟨hS, thr_first ..⟩
  cases L with
  | nil => cases m
  | cons a t =>
    rcases List.mem_cons.mp m with z | z
    · exact ⟨t, by rw [z]⟩
    · have r := (List.pairwise_cons.mp h.2).1 _ z
      rcases thr_from ((h.1 a).mp List.mem_cons_self).2 with y | y
      · exact ⟨t, by rw [y]⟩
      · exact (ahead_asymm r y).elim
theorem RowOf.last (h : RowOf x1 y1 x2 y2 S L) (hS : S (x2, y2)) : ∃ t, L = t ++ [(x2, y2)] := by
  obtain ⟨t, e⟩ := h.rev.first hS
  refine ⟨t.reverse, ?_⟩
  rw [← List.reverse_reverse L, e, List.reverse_cons]
theorem Row.rev (h : Row x1 y1 x2 y2 L) : Row x2 y2 x1 y1 L.reverse := Row.of.mpr (Row.of.mp h).rev
theorem Row.move (h : Row x1 y1 x2 y2 L) (a b : Int) : Row (x1 + a) (y1 + b) (x2 + a) (y2 + b) (L.map fun p => (p.1 + a, p.2 + b)) := Row.of.mpr ((Row.of.mp h).move a b)
theorem Row.flip (h : Row x1 y1 x2 y2 L) : Row y1 x1 y2 x2 (L.map fun p => (p.2, p.1)) := Row.of.mpr (Row.of.mp h).flip
theorem Row.first (h : Row x1 y1 x2 y2 L) : ∃ t, L = (x1, y1) :: t := (Row.of.mp h).first trivial
theorem Row.last (h : Row x1 y1 x2 y2 L) : ∃ t, L = t ++ [(x2, y2)] := (Row.of.mp h).last trivial
theorem pair_at {α : Type} {R : α → α → Prop} : ∀ {L : List α}, L.Pairwise R → ∀ {i j : Nat} {p q : α}, i < j → L[i]? = some p → L[j]? = some q → R p q
  | [], _, _, _, _, _, _, h, _ => by cases h
  | a :: t, hp, 0, j + 1, p, q, _, h1, h2 => by
    cases h1
    exact (List.pairwise_cons.mp hp).1 _ (List.mem_of_getElem? h2)
  | a :: t, hp, i + 1, j + 1, p, q, hij, h1, h2 => pair_at (List.pairwise_cons.mp hp).2 (Nat.lt_of_succ_lt_succ hij) h1 h2
theorem Row.next (h : Row x1 y1 x2 y2 L) {k : Nat} {p q : Int × Int} (hp : L[k]? = some p) (hq : L[k + 1]? = some q) : ahead x1 y1 x2 y2 p q ∧ (-1 ≤ q.1 - p.1 ∧ q.1 - p.1 ≤ 1) ∧ -1 ≤ q.2 - p.2 ∧ q.2 - p.2 ≤ 1 := by
  have a := pair_at h.2 (Nat.lt_succ_self k) hp hq
  have tp := (h.1 p).mp (List.mem_of_getElem? hp)
  have tq := (h.1 q).mp (List.mem_of_getElem? hq)
  have no : ∀ r : Int × Int, Thr x1 y1 x2 y2 r.1 r.2 → ahead x1 y1 x2 y2 p r → ahead x1 y1 x2 y2 r q → False := fun r tr r1 r2 => by
    obtain ⟨j, hj⟩ := List.getElem?_of_mem ((h.1 r).mpr tr)
    rcases Nat.lt_trichotomy j k with z | z | z
    · exact ahead_asymm r1 (pair_at h.2 z hj hp)
    · subst z
      rw [hp] at hj
      cases hj
      exact r1.1 rfl
    · rcases Nat.lt_or_eq_of_le (Nat.succ_le_of_lt z) with y | y
      · exact ahead_asymm r2 (pair_at h.2 y hq hj)
      · have y : k + 1 = j := y
        subst y
        rw [hq] at hj
        cases hj
        exact r2.1 rfl
  exact ⟨a, next_x tp tq a no, next_y tp tq a no⟩
/-! ### how long a row may be -/
theorem rising_len {α : Type} (f : α → Int) : ∀ {L : List α} {a b : Int}, L.Pairwise (fun p q => f p < f q) → (∀ p ∈ L, a ≤ f p ∧ f p ≤ b) → (L.length : Int) ≤ (if b < a then 0 else b - a + 1)
  | [], a, b, _, _ => by
    show (0 : Int) ≤ _
    split <;> omega
  | p :: t, a, b, h, hb => by
    obtain ⟨h1, h2⟩ := List.pairwise_cons.mp h
    have k := hb p List.mem_cons_self
    have r := rising_len f (a := f p + 1) (b := b) h2 fun q hq => ⟨by have := h1 q hq; omega, (hb q (List.mem_cons_of_mem _ hq)).2⟩
    show ((t.length + 1 : Nat) : Int) ≤ _
    rw [if_neg (show ¬ b < a by omega)]
    split at r <;> omega
/-! ### a walk from square to square tells them all -/
def Tight (x1 y1 x2 y2 : Int) (p q : Int × Int) : Prop := ahead x1 y1 x2 y2 p q ∧ ∀ r : Int × Int, Thr x1 y1 x2 y2 r.1 r.2 → ahead x1 y1 x2 y2 p r → ahead x1 y1 x2 y2 r q → False
def Walk (x1 y1 x2 y2 : Int) : Int × Int → List (Int × Int) → Prop
  | p, [] => p = (x2, y2)
  | p, q :: t => Tight x1 y1 x2 y2 p q ∧ Thr x1 y1 x2 y2 q.1 q.2 ∧ Walk x1 y1 x2 y2 q t
theorem walk_all : ∀ {t : List (Int × Int)} {p : Int × Int}, Thr x1 y1 x2 y2 p.1 p.2 → Walk x1 y1 x2 y2 p t → (∀ r ∈ p :: t, Thr x1 y1 x2 y2 r.1 r.2 ∧ (r = p ∨ ahead x1 y1 x2 y2 p r)) ∧ (p :: t).Pairwise (ahead x1 y1 x2 y2) ∧ ∀ r : Int × Int, Thr x1 y1 x2 y2 r.1 r.2 → (r = p ∨ ahead x1 y1 x2 y2 p r) → r ∈ p :: t
  | [], p, hp, w => by
    have w : p = (x2, y2) := w
    refine ⟨fun r hr => ?_, List.pairwise_singleton .., fun r tr hr => ?_⟩
    · have e := List.mem_singleton.mp hr
      subst e
      exact ⟨hp, .inl rfl⟩
    · rcases hr with z | z
      · rw [z]; exact List.mem_cons_self
      · rcases thr_to tr with y | y
        · rw [y, w]; exact List.mem_cons_self
        · rw [w] at z
          exact (ahead_asymm z y).elim
  | q :: t, p, hp, ⟨⟨a, no⟩, tq, w⟩ => by
    obtain ⟨i1, i2, i3⟩ := walk_all tq w
    have i1' : ∀ r ∈ q :: t, ahead x1 y1 x2 y2 p r := fun r hr => by
      rcases (i1 r hr).2 with z | z
      · rw [z]; exact a
      · exact ahead_trans a z
    refine ⟨fun r hr => ?_, List.pairwise_cons.mpr ⟨i1', i2⟩, fun r tr hr => ?_⟩
    · rcases List.mem_cons.mp hr with z | z
      · subst z; exact ⟨hp, .inl rfl⟩
      · exact ⟨(i1 r z).1, .inr (i1' r z)⟩
    · rcases hr with z | z
      · rw [z]; exact List.mem_cons_self
      · refine List.mem_cons_of_mem _ ?_
        rcases thr_chain tr tq with y | y | y
        · rw [y]; exact List.mem_cons_self
        · exact (no r tr z y).elim
        · exact i3 r tr (.inr y)
theorem Row.walk {t : List (Int × Int)} (w : Walk x1 y1 x2 y2 (x1, y1) t) : Row x1 y1 x2 y2 ((x1, y1) :: t) := by
  obtain ⟨i1, i2, i3⟩ := walk_all (p := (x1, y1)) (thr_first ..) w
  refine ⟨fun r => ⟨fun h => (i1 r h).1, fun h => i3 r h ?_⟩, i2⟩
  rcases thr_from h with z | z
  · exact .inl z.symm
  · exact .inr z
theorem betw {a b c u : Int} (h1 : 0 ≤ (c - a) * u) (h2 : 0 ≤ (b - c) * u) (hu : u = 0 → c = a ∧ b = c) : (a ≤ c ∧ c ≤ b) ∨ (b ≤ c ∧ c ≤ a) := by
  rcases Int.lt_trichotomy u 0 with z | z | z
  · right
    constructor
    · rcases Int.lt_or_le 0 (b - c) with y | y
      · have := Int.mul_neg_of_pos_of_neg y z
        omega
      · omega
    · rcases Int.lt_or_le 0 (c - a) with y | y
      · have := Int.mul_neg_of_pos_of_neg y z
        omega
      · omega
  · have := hu z
    omega
  · left
    constructor
    · rcases Int.lt_or_le (c - a) 0 with y | y
      · have := Int.mul_neg_of_neg_of_pos y z
        omega
      · omega
    · rcases Int.lt_or_le (b - c) 0 with y | y
      · have := Int.mul_neg_of_neg_of_pos y z
        omega
      · omega
theorem ahead_betw {p q r : Int × Int} (h1 : ahead x1 y1 x2 y2 p r) (h2 : ahead x1 y1 x2 y2 r q) : ((p.1 ≤ r.1 ∧ r.1 ≤ q.1) ∨ (q.1 ≤ r.1 ∧ r.1 ≤ p.1)) ∧ ((p.2 ≤ r.2 ∧ r.2 ≤ q.2) ∨ (q.2 ≤ r.2 ∧ r.2 ≤ p.2)) :=
  ⟨betw h1.2.1 h2.2.1 fun z => ⟨h1.2.2.2.1 (by omega), h2.2.2.2.1 (by omega)⟩, betw h1.2.2.1 h2.2.2.1 fun z => ⟨h1.2.2.2.2 (by omega), h2.2.2.2.2 (by omega)⟩⟩
theorem pair_ne {p q : Int × Int} (h : p ≠ q) : ¬ (p.1 = q.1 ∧ p.2 = q.2) := fun z => h (Prod.ext z.1 z.2)
/-- one step level or upright: nothing is between -/
theorem tight_one {p q : Int × Int} (a : ahead x1 y1 x2 y2 p q) (h : (p.1 = q.1 ∧ (q.2 - p.2 = 1 ∨ q.2 - p.2 = -1)) ∨ (p.2 = q.2 ∧ (q.1 - p.1 = 1 ∨ q.1 - p.1 = -1))) : Tight x1 y1 x2 y2 p q :=
  ⟨a, fun r _ h1 h2 => by
    have b := ahead_betw h1 h2
    have n1 := pair_ne h1.1
    have n2 := pair_ne h2.1
    omega⟩
/-- a slanted step: neither corner is gone through -/
theorem tight_two {p q : Int × Int} (a : ahead x1 y1 x2 y2 p q) (h1 : q.1 - p.1 = 1 ∨ q.1 - p.1 = -1) (h2 : q.2 - p.2 = 1 ∨ q.2 - p.2 = -1) (n1 : ¬ Thr x1 y1 x2 y2 q.1 p.2) (n2 : ¬ Thr x1 y1 x2 y2 p.1 q.2) : Tight x1 y1 x2 y2 p q :=
  ⟨a, fun r tr r1 r2 => by
    have b := ahead_betw r1 r2
    have m1 := pair_ne r1.1
    have m2 := pair_ne r2.1
    have e : (r.1 = q.1 ∧ r.2 = p.2) ∨ (r.1 = p.1 ∧ r.2 = q.2) := by omega
    rcases e with ⟨e1, e2⟩ | ⟨e1, e2⟩
    · rw [e1, e2] at tr; exact n1 tr
    · rw [e1, e2] at tr; exact n2 tr⟩
end
end DM

namespace DM
open PySem L2
def sgn (n : Int) : Int := if n > 0 then 1 else if n < 0 then -1 else 0
def spSign : Sp := fun vs H Q _ => ∃ n : Int, vs = [.int n] ∧ Q (.int (sgn n)) H
section
variable {P : Program} {w : World} {K : PySem.W.Frag} {mg : Str → Option Value} {base : Heap} {f : Addr} {fd : FuncData}
abbrev s_p_sign : Stmt := top 10
theorem sc_p_sign : FnScope ["number"] ["number"] (defScope s_p_sign) := ⟨rfl, rfl, rfl, by decide +kernel, rfl, by decide +kernel, by decide +kernel⟩
theorem ok_p_sign (F : Fun K "sign" "sign" s_p_sign f fd) : FnOk P w K mg base CX0 1 f fd ["number"] spSign := by
  refine F.ok sc_p_sign (fun vs H Q E h => ?_) (fun cdv A outer s H vs Q E hr h => ?_)
  · obtain ⟨n, rfl, _⟩ := h
    rfl
  obtain ⟨n, rfl, q⟩ := h
  refine ⟨_, (pss_cons (ps_if (pt_cmpR op_gt (pv 0) pe_int (nomark _))
    (pss_one (ps_ret pe_int))
    pss_nil)
    (pss_cons (ps_if (pt_cmpR op_lt (pv 0) pe_int (nomark _))
    (pss_one (ps_ret (pe_un un_neg pe_int)))
    pss_nil)
    (pss_one (ps_ret pe_int)))), ?_⟩
  unfold sgn at q
  refine ⟨_, rfl, _, _, rfl, rfl, _, rfl, ?_⟩
  by_cases c : n > 0
  · refine iteDT c ?_
    rw [if_pos c] at q
    exact q
  · refine iteDF c ?_
    rw [if_neg c] at q
    refine ⟨_, rfl, _, _, rfl, rfl, _, rfl, ?_⟩
    by_cases d : n < 0
    · refine iteDT d ?_
      rw [if_pos d] at q
      exact ⟨_, rfl, q⟩
    · refine iteDF d ?_
      rw [if_neg d] at q
      exact q
end
end DM

namespace DM
/-! ### the square behind a square -/
section
variable {x1 y1 x2 y2 : Int}
theorem thr_betw {p : Int × Int} (h : Thr x1 y1 x2 y2 p.1 p.2) : ((x1 ≤ p.1 ∧ p.1 ≤ x2) ∨ (x2 ≤ p.1 ∧ p.1 ≤ x1)) ∧ ((y1 ≤ p.2 ∧ p.2 ≤ y2) ∨ (y2 ≤ p.2 ∧ p.2 ≤ y1)) := by
  rcases thr_from h with e | a
  · rw [← e]; dsimp only; omega
  rcases thr_to h with e | b
  · rw [e]; dsimp only; omega
  exact ahead_betw a b
theorem next_some {p : Int × Int} : ∀ (N : Nat) (q : Int × Int), Thr x1 y1 x2 y2 q.1 q.2 → ahead x1 y1 x2 y2 p q → along x1 y1 x2 y2 q - along x1 y1 x2 y2 p ≤ N → ∃ r : Int × Int, Thr x1 y1 x2 y2 r.1 r.2 ∧ Tight x1 y1 x2 y2 p r
  | 0, q, tq, a, h => by
    have := ahead_along a
    omega
  | N + 1, q, tq, a, h => by
    by_cases c : ∃ r : Int × Int, Thr x1 y1 x2 y2 r.1 r.2 ∧ ahead x1 y1 x2 y2 p r ∧ ahead x1 y1 x2 y2 r q
    · obtain ⟨r, tr, a1, a2⟩ := c
      have := ahead_along a2
      exact next_some N r tr a1 (by omega)
    · exact ⟨q, tq, a, fun r tr a1 a2 => c ⟨r, tr, a1, a2⟩⟩
theorem step_some {p : Int × Int} (h : Thr x1 y1 x2 y2 p.1 p.2) (hne : p ≠ (x2, y2)) : ∃ r : Int × Int, Thr x1 y1 x2 y2 r.1 r.2 ∧ Tight x1 y1 x2 y2 p r := by
  rcases thr_to h with e | b
  · exact absurd e hne
  · refine next_some (along x1 y1 x2 y2 (x2, y2) - along x1 y1 x2 y2 p).toNat (x2, y2) (thr_last ..) b ?_
    have := ahead_along b
    omega
theorem sgn_mul {n k : Int} (h : 0 ≤ k * n) : 0 ≤ k * sgn n := by
  unfold sgn
  split
  · rename_i c
    rcases Int.lt_or_le k 0 with z | z
    · have := Int.mul_neg_of_neg_of_pos z c
      omega
    · omega
  · split
    · rename_i c
      rcases Int.lt_or_le 0 k with z | z
      · have := Int.mul_neg_of_pos_of_neg z c
        omega
      · omega
    · omega
theorem sgn_zero {n : Int} : sgn n = 0 ↔ n = 0 := by unfold sgn; split <;> (try split) <;> omega
theorem sgn_cases (n : Int) : (n = 0 ∧ sgn n = 0) ∨ (0 < n ∧ sgn n = 1) ∨ (n < 0 ∧ sgn n = -1) := by unfold sgn; split <;> (try split) <;> omega
/-- the key that rises along a stroke -/
def key (x1 y1 x2 y2 : Int) (p : Int × Int) : Int := sgn (x2 - x1) * p.1 + sgn (y2 - y1) * p.2
theorem ahead_sgn {p q : Int × Int} (h : ahead x1 y1 x2 y2 p q) : 0 ≤ (q.1 - p.1) * sgn (x2 - x1) ∧ 0 ≤ (q.2 - p.2) * sgn (y2 - y1) := ⟨sgn_mul h.2.1, sgn_mul h.2.2.1⟩
theorem ahead_key {p q : Int × Int} (h : ahead x1 y1 x2 y2 p q) : key x1 y1 x2 y2 p < key x1 y1 x2 y2 q := by
  obtain ⟨a, b⟩ := ahead_sgn h
  have n := pair_ne h.1
  have c := h.2.2.2.1
  have d := h.2.2.2.2
  unfold key
  rcases sgn_cases (x2 - x1) with ⟨u, e⟩ | ⟨u, e⟩ | ⟨u, e⟩ <;> rcases sgn_cases (y2 - y1) with ⟨v, e'⟩ | ⟨v, e'⟩ | ⟨v, e'⟩ <;> rw [e, e'] <;> rw [e] at a <;> rw [e'] at b <;> omega
def nextL (x1 y1 x2 y2 px py : Int) : Int × Int :=
  if sgn (x2 - x1) ≠ 0 ∧ goesL x1 y1 x2 y2 (px + sgn (x2 - x1)) py = true then (px + sgn (x2 - x1), py)
  else if sgn (y2 - y1) ≠ 0 ∧ goesL x1 y1 x2 y2 px (py + sgn (y2 - y1)) = true then (px, py + sgn (y2 - y1))
  else (px + sgn (x2 - x1), py + sgn (y2 - y1))
theorem sgn_step {n k : Int} (h : 0 ≤ k * n) (h0 : n = 0 → k = 0) (h1 : -1 ≤ k ∧ k ≤ 1) : k = 0 ∨ (n ≠ 0 ∧ k = sgn n) := by
  have z := sgn_mul h
  rcases sgn_cases n with ⟨u, e⟩ | ⟨u, e⟩ | ⟨u, e⟩
  · exact .inl (h0 u)
  · rw [e] at z ⊢
    omega
  · rw [e] at z ⊢
    omega
theorem sgn_self {n : Int} (h : n ≠ 0) : 0 ≤ sgn n * n := by
  rcases sgn_cases n with ⟨u, e⟩ | ⟨u, e⟩ | ⟨u, e⟩ <;> rw [e] <;> omega
theorem nextL_ok {p : Int × Int} (h : Thr x1 y1 x2 y2 p.1 p.2) (hne : p ≠ (x2, y2)) : Tight x1 y1 x2 y2 p (nextL x1 y1 x2 y2 p.1 p.2) ∧ Thr x1 y1 x2 y2 (nextL x1 y1 x2 y2 p.1 p.2).1 (nextL x1 y1 x2 y2 p.1 p.2).2 := by
  unfold nextL
  split
  · rename_i c
    rw [goesL_iff] at c
    refine ⟨tight_one ⟨fun e => ?_, ?_, ?_, fun e => ?_, fun _ => rfl⟩ (.inr ⟨rfl, ?_⟩), c.2⟩
    · have := congrArg Prod.fst e
      dsimp only at this
      omega
    · dsimp only
      rw [show p.1 + sgn (x2 - x1) - p.1 = sgn (x2 - x1) by omega]
      exact sgn_self (fun z => c.1 (sgn_zero.mpr z))
    · dsimp only
      rw [Int.sub_self, Int.zero_mul]
      exact Int.le_refl _
    · exact absurd (sgn_zero.mpr (by omega)) c.1
    · dsimp only
      rcases sgn_cases (x2 - x1) with ⟨u, e⟩ | ⟨u, e⟩ | ⟨u, e⟩ <;> rw [e] at c ⊢ <;> omega
  · rename_i n1
    split
    · rename_i c
      rw [goesL_iff] at c
      refine ⟨tight_one ⟨fun e => ?_, ?_, ?_, fun _ => rfl, fun e => ?_⟩ (.inl ⟨rfl, ?_⟩), c.2⟩
      · have := congrArg Prod.snd e
        dsimp only at this
        omega
      · dsimp only
        rw [Int.sub_self, Int.zero_mul]
        exact Int.le_refl _
      · dsimp only
        rw [show p.2 + sgn (y2 - y1) - p.2 = sgn (y2 - y1) by omega]
        exact sgn_self (fun z => c.1 (sgn_zero.mpr z))
      · exact absurd (sgn_zero.mpr (by omega)) c.1
      · dsimp only
        rcases sgn_cases (y2 - y1) with ⟨u, e⟩ | ⟨u, e⟩ | ⟨u, e⟩ <;> rw [e] at c ⊢ <;> omega
    · rename_i n2
      rw [goesL_iff] at n1 n2
      obtain ⟨r, tr, tg⟩ := step_some h hne
      have sx := sgn_step tg.1.2.1 (fun z => by have := tg.1.2.2.2.1 (by omega); omega) (next_x h tr tg.1 tg.2)
      have sy := sgn_step tg.1.2.2.1 (fun z => by have := tg.1.2.2.2.2 (by omega); omega) (next_y h tr tg.1 tg.2)
      have ne := pair_ne tg.1.1
      have er : r = (p.1 + sgn (x2 - x1), p.2 + sgn (y2 - y1)) := by
        rcases sx with sx | ⟨ux, sx⟩
        · rcases sy with sy | ⟨uy, sy⟩
          · omega
          · exfalso
            refine n2 ⟨fun z => uy (sgn_zero.mp z), ?_⟩
            rw [show p.1 = r.1 by omega, show p.2 + sgn (y2 - y1) = r.2 by omega]
            exact tr
        · rcases sy with sy | ⟨uy, sy⟩
          · exfalso
            refine n1 ⟨fun z => ux (sgn_zero.mp z), ?_⟩
            rw [show p.2 = r.2 by omega, show p.1 + sgn (x2 - x1) = r.1 by omega]
            exact tr
          · exact Prod.ext (by dsimp only; omega) (by dsimp only; omega)
      rw [← er]
      exact ⟨tg, tr⟩
theorem row_len {S : Int × Int → Prop} {L : List (Int × Int)} (h : RowOf x1 y1 x2 y2 S L) (hb : -40 ≤ x1 ∧ x1 ≤ 40 ∧ -40 ≤ y1 ∧ y1 ≤ 40 ∧ -40 ≤ x2 ∧ x2 ≤ 40 ∧ -40 ≤ y2 ∧ y2 ≤ 40) : L.length ≤ 161 := by
  have := rising_len (key x1 y1 x2 y2) (a := -80) (b := 80) (h.2.imp fun a => ahead_key a) fun p hp => by
    have t := thr_betw ((h.1 p).mp hp).2
    unfold key
    rcases sgn_cases (x2 - x1) with ⟨u, e⟩ | ⟨u, e⟩ | ⟨u, e⟩ <;> rcases sgn_cases (y2 - y1) with ⟨v, e'⟩ | ⟨v, e'⟩ | ⟨v, e'⟩ <;> rw [e, e'] <;> omega
  rw [if_neg (by decide)] at this
  omega
end
end DM

namespace DM
open PySem L2
def spEnds : Sp := fun vs H Q _ => ∃ (p : Addr) (x1 y1 x2 y2 : Int), vs = [.ref p] ∧ H p = some (.tup [.int x1, .int y1, .int x2, .int y2]) ∧ ∀ (r e0 e1 : Addr) (H' : Hp), Same H H' → H' r = some (.tup [.ref e0, .ref e1]) → H' e0 = some (.tup [.int x1, .int y1]) → H' e1 = some (.tup [.int x2, .int y2]) → Q (.ref r) H'
section
variable {P : Program} {w : World} {K : PySem.W.Frag} {mg : Str → Option Value} {base : Heap} {f : Addr} {fd : FuncData}
abbrev s_ends_of : Stmt := top 12
theorem sc_ends_of : FnScope ["stroke", "x1", "y1", "x2", "y2"] ["stroke"] (defScope s_ends_of) := ⟨rfl, rfl, rfl, by decide +kernel, rfl, by decide +kernel, by decide +kernel⟩
theorem ok_ends_of (F : Fun K "ends_of" "ends_of" s_ends_of f fd) : FnOk P w K mg base CX0 1 f fd ["stroke"] spEnds := by
  refine F.ok sc_ends_of (fun vs H Q E h => ?_) (fun cdv A outer s H vs Q E hr h => ?_)
  · obtain ⟨p, x1, y1, x2, y2, rfl, _⟩ := h
    rfl
  obtain ⟨p, x1, y1, x2, y2, rfl, hp, q⟩ := h
  refine ⟨_, (pss_cons (ps_asg (pv 0) (pg_tup rfl (pgs_cons (pg_name (i := 1) sc_ends_of.nd rfl (Or.inl rfl)) (pgs_cons (pg_name (i := 2) sc_ends_of.nd rfl (Or.inl rfl)) (pgs_cons (pg_name (i := 3) sc_ends_of.nd rfl (Or.inl rfl)) (pgs_cons (pg_name (i := 4) sc_ends_of.nd rfl (Or.inl rfl)) pgs_nil))))))
    (pss_one (ps_ret (pe_tup (pa_cons (pe_tup (pa_cons (pv 1) (pa_cons (pv 2) pa_nil))) (pa_cons (pe_tup (pa_cons (pv 3) (pa_cons (pv 4) pa_nil))) pa_nil)))))), ?_⟩
  refine ⟨_, rfl, p, _, rfl, SqT.of hp, rfl, _, _, rfl, _, _, rfl, _, _, rfl, _, _, rfl, rfl, ?_⟩
  refine ⟨_, rfl, _, rfl, sz (by decide : 2 ≤ 100000), fun e0 n0 => ⟨_, rfl, _, rfl, sz (by decide : 2 ≤ 100000), fun e1 n1 => ⟨sz (by decide : 2 ≤ 100000), fun r nr => ?_⟩⟩⟩
  exact q r e0 e1 _ ((same_new n0 _).trans ((same_new n1 _).trans (same_new nr _))) upd_same (same_new nr _ _ _ (same_new n1 _ _ _ upd_same)) (same_new nr _ _ _ upd_same)
end
end DM

namespace DM
open PySem L2
/-! ### lists of pairs -/
def PrV (H : Hp) (v : V) (p : Int × Int) : Prop := ∃ a : Addr, v = .ref a ∧ H a = some (.tup [.int p.1, .int p.2])
inductive Prs (H : Hp) : List V → List (Int × Int) → Prop
  | nil : Prs H [] []
  | cons {v : V} {p : Int × Int} {vs : List V} {L : List (Int × Int)} : PrV H v p → Prs H vs L → Prs H (v :: vs) (p :: L)
theorem PrV.same {H H' : Hp} {v : V} {p : Int × Int} (h : PrV H v p) (e : Same H H') : PrV H' v p := by
  obtain ⟨a, rfl, z⟩ := h
  exact ⟨a, rfl, e _ _ z⟩
theorem Prs.same {H H' : Hp} {vs : List V} {L : List (Int × Int)} (h : Prs H vs L) (e : Same H H') : Prs H' vs L := by
  induction h with
  | nil => exact .nil
  | cons a _ ih => exact .cons (a.same e) ih
theorem Prs.len {H : Hp} {vs : List V} {L : List (Int × Int)} (h : Prs H vs L) : vs.length = L.length := by
  induction h with
  | nil => rfl
  | cons a _ ih => rw [List.length_cons, List.length_cons, ih]
theorem Prs.snoc {H : Hp} {vs : List V} {L : List (Int × Int)} {v : V} {p : Int × Int} (h : Prs H vs L) (hv : PrV H v p) : Prs H (vs ++ [v]) (L ++ [p]) := by
  induction h with
  | nil => exact .cons hv .nil
  | cons a _ ih => exact .cons a ih
theorem Prs.at {H : Hp} {vs : List V} {L : List (Int × Int)} (h : Prs H vs L) : ∀ {i : Nat} {v : V}, vs[i]? = some v → ∃ p, L[i]? = some p ∧ PrV H v p := by
  induction h with
  | nil => intro i v hv; cases hv
  | cons a _ ih =>
    intro i v hv
    cases i with
    | zero => cases hv; exact ⟨_, rfl, a⟩
    | succ i => exact ih hv
theorem Prs.get {H : Hp} {vs : List V} {L : List (Int × Int)} (h : Prs H vs L) : ∀ {i : Nat} {p : Int × Int}, L[i]? = some p → ∃ v, vs[i]? = some v ∧ PrV H v p := by
  induction h with
  | nil => intro i v hv; cases hv
  | cons a _ ih =>
    intro i v hv
    cases i with
    | zero => cases hv; exact ⟨_, rfl, a⟩
    | succ i => exact ih hv
/-- but for what stands at a list -/
theorem Prs.but {H H' : Hp} {vs : List V} {L : List (Int × Int)} {l : Addr} (h : Prs H vs L) (hl : ∀ xs, H l ≠ some (.tup xs)) (e : ∀ a o, a ≠ l → H a = some o → H' a = some o) : Prs H' vs L := by
  induction h with
  | nil => exact .nil
  | cons a _ ih =>
    obtain ⟨b, rfl, z⟩ := a
    exact .cons ⟨b, rfl, e _ _ (fun y => hl _ (y ▸ z)) z⟩ ih
end DM

namespace DM
open PySem L2
/-- how far a walk along a stroke has still to go -/
def leftAt (x1 y1 x2 y2 : Int) : Option HO → Nat
  | some (HO.tup [V.int a, V.int b]) => (key x1 y1 x2 y2 (x2, y2) - key x1 y1 x2 y2 (a, b)).toNat
  | _ => 0
def leftSq (x1 y1 x2 y2 : Int) (σ : St) (J : Hp) : Nat := match σ with
  | [_, some (V.ref eh), _, _] => leftAt x1 y1 x2 y2 (J eh)
  | _ => 0
def spHeading : Sp := fun vs H Q _ => ∃ (p : Addr) (x1 y1 x2 y2 : Int), vs = [.ref p] ∧ Stk H p x1 y1 x2 y2 ∧ ∀ (r : Addr) (H' : Hp), Same H H' → H' r = some (.tup [.int (sgn (x2 - x1)), .int (sgn (y2 - y1))]) → Q (.ref r) H'
def spBehind : Sp := fun vs H Q _ => ∃ (p ph : Addr) (x1 y1 x2 y2 px py : Int), vs = [.ref p, .ref ph] ∧ Stk H p x1 y1 x2 y2 ∧ H ph = some (.tup [.int px, .int py]) ∧ (-500 ≤ px ∧ px ≤ 500 ∧ -500 ≤ py ∧ py ≤ 500) ∧ ∀ (r : Addr) (H' : Hp), Same H H' → H' r = some (.tup [.int (nextL x1 y1 x2 y2 px py).1, .int (nextL x1 y1 x2 y2 px py).2]) → Q (.ref r) H'
def spSquares : Sp := fun vs H Q _ => ∃ (p : Addr) (x1 y1 x2 y2 : Int), vs = [.ref p] ∧ Stk H p x1 y1 x2 y2 ∧ ∀ (r : Addr) (H' : Hp) (xs : List V) (L : List (Int × Int)), Same H H' → H r = none → H' r = some (.lst xs) → Prs H' xs L → Row x1 y1 x2 y2 L → Q (.ref r) H'
section
variable {P : Program} {w : World} {K : PySem.W.Frag} {mg : Str → Option Value} {base : Heap} {f : Addr} {fd : FuncData}
abbrev s_heading : Stmt := top 13
theorem sc_heading : FnScope ["stroke", "x1", "y1", "x2", "y2"] ["stroke"] (defScope s_heading) := ⟨rfl, rfl, rfl, by decide +kernel, rfl, by decide +kernel, by decide +kernel⟩
theorem ok_heading (c_p_sign : Cal P w K mg base 1 "sign" ["number"] spSign) (F : Fun K "heading" "heading" s_heading f fd) : FnOk P w K mg base CX0 2 f fd ["stroke"] spHeading := by
  refine F.ok sc_heading (fun vs H Q E h => ?_) (fun cdv A outer s H vs Q E hr h => ?_)
  · obtain ⟨p, x1, y1, x2, y2, rfl, _⟩ := h
    rfl
  obtain ⟨p, x1, y1, x2, y2, rfl, hst, q⟩ := h
  refine ⟨_, (pss_cons (ps_asg (pv 0) (pg_tup rfl (pgs_cons (pg_name (i := 1) sc_heading.nd rfl (Or.inl rfl)) (pgs_cons (pg_name (i := 2) sc_heading.nd rfl (Or.inl rfl)) (pgs_cons (pg_name (i := 3) sc_heading.nd rfl (Or.inl rfl)) (pgs_cons (pg_name (i := 4) sc_heading.nd rfl (Or.inl rfl)) pgs_nil))))))
    (pss_one (ps_ret (pe_tup (pa_cons (pe_cal c_p_sign hr (pa_cons (pe_op op_sub (pv 3) (pv 1)) pa_nil)) (pa_cons (pe_cal c_p_sign hr (pa_cons (pe_op op_sub (pv 4) (pv 2)) pa_nil)) pa_nil)))))), ?_⟩
  refine ⟨_, rfl, p, _, rfl, SqT.of hst.1, rfl, _, _, rfl, _, _, rfl, _, _, rfl, _, _, rfl, rfl, ?_⟩
  refine ⟨_, rfl, _, rfl, _, _, rfl, rfl, _, rfl, ?_⟩
  refine ⟨_, rfl, _, rfl, _, _, rfl, rfl, _, rfl, ?_⟩
  exact ⟨sz (by decide : 2 ≤ 100000), fun r nr => q r _ (same_new nr _) upd_same⟩
abbrev s_square_behind : Stmt := top 18
theorem sc_square_behind : FnScope ["stroke", "here", "x", "y", "right", "upward"] ["stroke", "here"] (defScope s_square_behind) := ⟨rfl, rfl, rfl, by decide +kernel, rfl, by decide +kernel, by decide +kernel⟩
theorem ok_square_behind (c_heading : Cal P w K mg base 2 "heading" ["stroke"] spHeading) (c_p_goes : Cal P w K mg base 3 "goes" ["stroke", "spot"] spGoes) (F : Fun K "square_behind" "square_behind" s_square_behind f fd) : FnOk P w K mg base CX0 4 f fd ["stroke", "here"] spBehind := by
  refine F.ok sc_square_behind (fun vs H Q E h => ?_) (fun cdv A outer s H vs Q E hr h => ?_)
  · obtain ⟨p, ph, x1, y1, x2, y2, px, py, rfl, _⟩ := h
    rfl
  obtain ⟨p, ph, x1, y1, x2, y2, px, py, rfl, hst, hh, bh, q⟩ := h
  refine ⟨_, (pss_cons (ps_asg (pv 1) (pg_tup rfl (pgs_cons (pg_name (i := 2) sc_square_behind.nd rfl (Or.inl rfl)) (pgs_cons (pg_name (i := 3) sc_square_behind.nd rfl (Or.inl rfl)) pgs_nil))))
    (pss_cons (ps_asg (pe_cal c_heading hr (pa_cons (pv 0) pa_nil)) (pg_tup rfl (pgs_cons (pg_name (i := 4) sc_square_behind.nd rfl (Or.inl rfl)) (pgs_cons (pg_name (i := 5) sc_square_behind.nd rfl (Or.inl rfl)) pgs_nil))))
    (pss_cons (ps_if (PW.pt (pw_and (pt_cmpR op_ne (pv 4) pe_int (nomark _)) (pw_and1 (pt_val (pe_cal c_p_goes hr (pa_cons (pv 0) (pa_cons (pe_tup (pa_cons (pe_op op_add (pv 2) (pv 4)) (pa_cons (pv 3) pa_nil))) pa_nil)))))))
    (pss_one (ps_ret (pe_tup (pa_cons (pe_op op_add (pv 2) (pv 4)) (pa_cons (pv 3) pa_nil)))))
    pss_nil)
    (pss_cons (ps_if (PW.pt (pw_and (pt_cmpR op_ne (pv 5) pe_int (nomark _)) (pw_and1 (pt_val (pe_cal c_p_goes hr (pa_cons (pv 0) (pa_cons (pe_tup (pa_cons (pv 2) (pa_cons (pe_op op_add (pv 3) (pv 5)) pa_nil))) pa_nil)))))))
    (pss_one (ps_ret (pe_tup (pa_cons (pv 2) (pa_cons (pe_op op_add (pv 3) (pv 5)) pa_nil)))))
    pss_nil)
    (pss_one (ps_ret (pe_tup (pa_cons (pe_op op_add (pv 2) (pv 4)) (pa_cons (pe_op op_add (pv 3) (pv 5)) pa_nil))))))))), ?_⟩
  refine ⟨_, rfl, ph, _, rfl, SqT.of hh, rfl, _, _, rfl, _, _, rfl, rfl, ?_⟩
  refine ⟨_, rfl, p, x1, y1, x2, y2, rfl, hst, fun r1 H1 s1 h1 => ⟨r1, _, rfl, SqT.of h1, rfl, _, _, rfl, _, _, rfl, rfl, ?_⟩⟩
  have sx := sgn_cases (x2 - x1)
  have sy := sgn_cases (y2 - y1)
  unfold nextL at q
  generalize sgn (x2 - x1) = rx at *
  generalize sgn (y2 - y1) = ry at *
  have hst1 := hst.same s1
  dsimp only [gName, tNext]
  refine seq_with (fun σ' H' => σ' = [some (.ref p), some (.ref ph), some (.int px), some (.int py), some (.int rx), some (.int ry)] ∧ Same H1 H' ∧ ¬ (rx ≠ 0 ∧ goesL x1 y1 x2 y2 (px + rx) py = true)) (fun R hR => ?_) ?_
  · refine ⟨_, rfl, rfl, _, rfl, ?_⟩
    by_cases c : rx = 0
    · refine iteNS (congrArg V.int c) ?_
      exact hR _ _ ⟨rfl, Same.refl _, fun z => z.1 c⟩
    · refine if_pos' (by rw [decide_eq_false (fun z => c (V.int.inj z))]; rfl) ?_
      refine ⟨_, rfl, _, rfl, _, rfl, _, _, rfl, rfl, _, rfl, sz (by decide : 2 ≤ 100000), fun t nt => ?_⟩
      have gt := same_new nt (.tup [.int (px + rx), .int py])
      refine ⟨p, t, x1, y1, x2, y2, px + rx, py, rfl, hst1.same gt, upd_same, by omega, fun H2 s2 => ?_⟩
      refine ⟨_, rfl, ?_⟩
      by_cases d : goesL x1 y1 x2 y2 (px + rx) py = true
      · rw [d]
        refine iteT ?_
        rw [if_pos ⟨c, d⟩] at q
        refine ⟨_, rfl, _, rfl, _, _, rfl, rfl, _, rfl, sz (by decide : 2 ≤ 100000), fun r nr => ?_⟩
        exact q r _ (s1.trans (gt.trans (s2.trans (same_new nr _)))) upd_same
      · rw [Bool.not_eq_true] at d
        rw [d]
        refine iteF ?_
        exact hR _ _ ⟨rfl, gt.trans s2, fun z => by rw [d] at z; exact absurd z.2 (by decide)⟩
  · rintro σ H2 ⟨rfl, s2, n1⟩
    rw [if_neg n1] at q
    have hst2 := hst1.same s2
    refine seq_with (fun σ' H' => σ' = [some (.ref p), some (.ref ph), some (.int px), some (.int py), some (.int rx), some (.int ry)] ∧ Same H2 H' ∧ ¬ (ry ≠ 0 ∧ goesL x1 y1 x2 y2 px (py + ry) = true)) (fun R hR => ?_) ?_
    · refine ⟨_, rfl, rfl, _, rfl, ?_⟩
      by_cases c : ry = 0
      · refine iteNS (congrArg V.int c) ?_
        exact hR _ _ ⟨rfl, Same.refl _, fun z => z.1 c⟩
      · refine if_pos' (by rw [decide_eq_false (fun z => c (V.int.inj z))]; rfl) ?_
        refine ⟨_, rfl, _, rfl, _, rfl, _, rfl, _, _, rfl, rfl, sz (by decide : 2 ≤ 100000), fun t nt => ?_⟩
        have gt := same_new nt (.tup [.int px, .int (py + ry)])
        refine ⟨p, t, x1, y1, x2, y2, px, py + ry, rfl, hst2.same gt, upd_same, by omega, fun H3 s3 => ?_⟩
        refine ⟨_, rfl, ?_⟩
        by_cases d : goesL x1 y1 x2 y2 px (py + ry) = true
        · rw [d]
          refine iteT ?_
          rw [if_pos ⟨c, d⟩] at q
          refine ⟨_, rfl, _, rfl, _, rfl, _, _, rfl, rfl, sz (by decide : 2 ≤ 100000), fun r nr => ?_⟩
          exact q r _ (s1.trans (s2.trans (gt.trans (s3.trans (same_new nr _))))) upd_same
        · rw [Bool.not_eq_true] at d
          rw [d]
          refine iteF ?_
          exact hR _ _ ⟨rfl, gt.trans s3, fun z => by rw [d] at z; exact absurd z.2 (by decide)⟩
    · rintro σ H3 ⟨rfl, s3, n2⟩
      rw [if_neg n2] at q
      refine ⟨_, rfl, _, rfl, _, _, rfl, rfl, _, rfl, _, rfl, _, _, rfl, rfl, sz (by decide : 2 ≤ 100000), fun r nr => ?_⟩
      exact q r _ (s1.trans (s2.trans (s3.trans (same_new nr _)))) upd_same
abbrev s_p_squares : Stmt := top 17
theorem sc_p_squares : FnScope ["stroke", "here", "end", "found"] ["stroke"] (defScope s_p_squares) := ⟨rfl, rfl, rfl, by decide +kernel, rfl, by decide +kernel, by decide +kernel⟩
theorem ok_p_squares (c_ends_of : Cal P w K mg base 1 "ends_of" ["stroke"] spEnds) (c_square_behind : Cal P w K mg base 4 "square_behind" ["stroke", "here"] spBehind) (F : Fun K "squares" "squares" s_p_squares f fd) : FnOk P w K mg base CX0 5 f fd ["stroke"] spSquares := by
  refine F.ok sc_p_squares (fun vs H Q E h => ?_) (fun cdv A outer s H vs Q E hr h => ?_)
  · obtain ⟨p, x1, y1, x2, y2, rfl, _⟩ := h
    rfl
  obtain ⟨p, x1, y1, x2, y2, rfl, hst, q⟩ := h
  refine ⟨_, (pss_cons (ps_asg (pe_cal c_ends_of hr (pa_cons (pv 0) pa_nil)) (pg_tup rfl (pgs_cons (pg_name (i := 1) sc_p_squares.nd rfl (Or.inl rfl)) (pgs_cons (pg_name (i := 2) sc_p_squares.nd rfl (Or.inl rfl)) pgs_nil))))
    (pss_cons (ps_set (i := 3) sc_p_squares.nd rfl (Or.inl rfl) (pe_lst (pa_cons (pv 1) pa_nil)))
    (pss_cons (ps_while PassesOwn.never (pt_cmpR (op_neD hr.units) (pv 1) (pv 2) (nomark _))
    (pss_cons (ps_set (i := 1) sc_p_squares.nd rfl (Or.inl rfl) (pe_cal c_square_behind hr (pa_cons (pv 0) (pa_cons (pv 1) pa_nil))))
    (pss_one (ps_expr (pe_bm PySem.F.plainAttrs_list PySem.F.slot_list_append PySem.F.type_list_append mt_append (pv 3) (pa_cons (pv 1) pa_nil))))))
    (pss_one (ps_ret (pv 3)))))), ?_⟩
  refine ⟨_, rfl, p, x1, y1, x2, y2, rfl, hst.1, fun r0 e0 e1 H1 s1 h1 k0 k1 => ⟨r0, _, rfl, SqT.of h1, rfl, _, _, rfl, _, _, rfl, rfl, ?_⟩⟩
  refine ⟨_, rfl, sz (by decide : 1 ≤ 100000), fun l nl => ?_⟩
  have gl := same_new nl (.lst [.ref e0])
  have nlH : H l = none := s1.free nl
  have bs := hst.2.1
  refine while_by (fun σ J => ∃ (eh : Addr) (xs : List V) (t : List (Int × Int)) (px py : Int), σ = [some (.ref p), some (.ref eh), some (.ref e1), some (.ref l)] ∧ Same H J ∧ J e1 = some (.tup [.int x2, .int y2]) ∧ J l = some (.lst xs) ∧ Prs J xs ((x1, y1) :: t) ∧ J eh = some (.tup [.int px, .int py]) ∧ Thr x1 y1 x2 y2 px py ∧ t.length ≤ 1000 ∧ (t.length : Int) ≤ key x1 y1 x2 y2 (px, py) - key x1 y1 x2 y2 (x1, y1) ∧ (∀ u, Walk x1 y1 x2 y2 (px, py) u → Walk x1 y1 x2 y2 (x1, y1) (t ++ u)))
    (leftSq x1 y1 x2 y2) ?_ ?_ ?_
  · refine ⟨e0, [.ref e0], [], x1, y1, rfl, s1.trans gl, gl _ _ k1, upd_same, .cons ⟨e0, rfl, gl _ _ k0⟩ .nil, gl _ _ k0, thr_first .., by decide, ?_, fun u hu => hu⟩
    rw [Int.sub_self]
    exact Int.le_refl _
  · rintro σ J ⟨eh, xs, t, px, py, rfl, sJ, j1, jl, jp, jh, th, tl, tk, wk⟩
    refine ⟨_, rfl, _, rfl, _, _, dp_pair jh, dp_pair j1, shaped_pair _ _, shaped_pair _ _, _, rfl, ?_⟩
    rw [eqv_pair]
    have bt := thr_betw (p := (px, py)) th
    dsimp only at bt
    by_cases c : px = x2 ∧ py = y2
    · refine iteNS c ?_
      obtain ⟨rfl, rfl⟩ := c
      refine ⟨_, rfl, ?_⟩
      have w0 := wk [] rfl
      rw [List.append_nil] at w0
      exact q l J xs _ sJ nlH jl jp (Row.walk w0)
    · refine if_pos' (by rw [decide_eq_false c]; rfl) ?_
      have hst' := hst.same sJ
      refine ⟨_, rfl, _, rfl, p, eh, x1, y1, x2, y2, px, py, rfl, hst', jh, by omega, fun r J1 sm hr1 => ?_⟩
      have ok := nextL_ok (p := (px, py)) th (fun z => c ⟨congrArg Prod.fst z, congrArg Prod.snd z⟩)
      dsimp only at ok
      generalize nextL x1 y1 x2 y2 px py = nx at *
      have jl1 := sm _ _ jl
      have ak := ahead_key ok.1.1
      have bt' := thr_betw ok.2
      have kb : key x1 y1 x2 y2 nx ≤ key x1 y1 x2 y2 (x2, y2) := by
        rcases thr_to ok.2 with z | z
        · rw [z]; exact Int.le_refl _
        · exact Int.le_of_lt (ahead_key z)
      have kr : key x1 y1 x2 y2 (x2, y2) - key x1 y1 x2 y2 (x1, y1) ≤ 160 := by
        unfold key
        rcases sgn_cases (x2 - x1) with ⟨u, e⟩ | ⟨u, e⟩ | ⟨u, e⟩ <;> rcases sgn_cases (y2 - y1) with ⟨v, e'⟩ | ⟨v, e'⟩ | ⟨v, e'⟩ <;> rw [e, e'] <;> dsimp only <;> omega
      have xl : xs.length = t.length + 1 := jp.len
      refine ⟨_, rfl, .inl ⟨rfl, _, SqL.of jl1⟩, _, rfl, l, xs, _, rfl, rfl, jl1, Nat.lt_of_lt_of_le (by omega : xs.length < 100000) (sz (Nat.le_refl _)), ?_⟩
      have nt : ∀ zs, J1 l ≠ some (.tup zs) := fun zs z => by rw [jl1] at z; cases z
      have keep : ∀ a o, a ≠ l → J1 a = some o → upd J1 l (.lst (xs ++ [.ref r])) a = some o := fun a o ha z => by rw [upd_ne ha]; exact z
      have nel : ∀ (a : Addr) (zs : List V), J1 a = some (.tup zs) → a ≠ l := fun a zs z y => nt zs (y ▸ z)
      refine ⟨⟨r, xs ++ [.ref r], t ++ [nx], nx.1, nx.2, rfl, ?_, keep _ _ (nel _ _ (sm _ _ j1)) (sm _ _ j1), upd_same, ?_, keep _ _ (nel _ _ hr1) hr1, ok.2, ?_, ?_, ?_⟩, ?_⟩
      · exact fun a o z => keep _ _ (ne_of_none z nlH) (sm _ _ (sJ _ _ z))
      · exact ((jp.same sm).snoc ⟨r, rfl, hr1⟩).but nt keep
      · rw [List.length_append, List.length_singleton]
        have : key x1 y1 x2 y2 (nx.1, nx.2) = key x1 y1 x2 y2 nx := rfl
        omega
      · rw [List.length_append, List.length_singleton]
        have : key x1 y1 x2 y2 (nx.1, nx.2) = key x1 y1 x2 y2 nx := rfl
        omega
      · intro u hu
        rw [List.append_assoc]
        exact wk _ ⟨ok.1, ok.2, hu⟩
      · show leftAt x1 y1 x2 y2 ((upd J1 l (.lst (xs ++ [.ref r]))) r) < leftAt x1 y1 x2 y2 (J eh)
        rw [keep _ _ (nel _ _ hr1) hr1, jh]
        unfold leftAt
        dsimp only
        have : key x1 y1 x2 y2 (nx.1, nx.2) = key x1 y1 x2 y2 nx := rfl
        omega
  · rintro σ J Q1 Q2 hq ⟨v, h1, v', h2, d, e, h3, h4, h5, h6, k, h7, h8⟩
    exact ⟨v, h1, v', h2, d, e, h3, h4, h5, h6, k, h7, hq _ _ h8⟩
end
end DM

namespace DM
open PySem L2
/-! ### pairs, and lists of pairs, as data -/
theorem u65 {k : Nat} {A : Around} (r : Room k A) : A.units + 65 < cLine := by have := r.un; omega
def prD (p : Int × Int) : PyData := .tuple [.int p.1, .int p.2]
theorem take_snoc {α : Type} {L : List α} {i : Nat} {p : α} (h : L[i]? = some p) : L.take (i + 1) = L.take i ++ [p] := by
  rw [List.take_add_one, h]
  rfl
theorem dp_prV {K : PySem.W.Frag} {H : Hp} {v : V} {p : Int × Int} (h : PrV H v p) : Dp K H v (prD p) := by
  obtain ⟨a, rfl, z⟩ := h
  exact dp_pair z
theorem dp_prAll {K : PySem.W.Frag} {H : Hp} {vs : List V} {L : List (Int × Int)} (h : Prs H vs L) : DpAll K H vs (L.map prD) := by
  induction h with
  | nil => exact .nil
  | cons a _ ih => exact .cons (dp_prV a) ih
theorem dp_prs {K : PySem.W.Frag} {H : Hp} {r : Addr} {vs : List V} {L : List (Int × Int)} (e : H r = some (.lst vs)) (h : Prs H vs L) : Dp K H (.ref r) (.list (L.map prD)) := .lst (SqL.of e) (dp_prAll h)
theorem lay_prs : ∀ L : List (Int × Int), PyData.canLayAll0 (L.map prD) = true ∧ PyData.depthAll (L.map prD) ≤ 1
  | [] => ⟨rfl, by decide⟩
  | p :: L => by
    have ih := lay_prs L
    rw [List.map_cons]
    unfold PyData.canLayAll0 PyData.depthAll
    rw [ih.1]
    refine ⟨rfl, ?_⟩
    have e : PyData.depth (prD p) = 1 := by unfold prD; simp only [PyData.depth, PyData.depthAll]; rfl
    rw [e]
    omega
theorem shaped_prs (L : List (Int × Int)) : SeqAt.shaped (.list (L.map prD)) = true := by
  have h := lay_prs L
  unfold SeqAt.shaped
  have e1 : PyData.canLay0 (.list (L.map prD)) = true := by unfold PyData.canLay0; exact h.1
  have e2 : PyData.depth (.list (L.map prD)) ≤ 64 := by unfold PyData.depth; omega
  rw [e1, decide_eq_true e2]
  rfl
theorem shaped_prD (p : Int × Int) : SeqAt.shaped (prD p) = true := shaped_pair _ _
theorem eqv_prD (p q : Int × Int) : PyData.eqv (prD p) (prD q) = decide (p = q) := by
  unfold prD
  rw [eqv_pair]
  apply decide_eq_decide.mpr
  exact ⟨fun h => Prod.ext h.1 h.2, fun h => ⟨congrArg Prod.fst h, congrArg Prod.snd h⟩⟩
theorem eqvAll_prs : ∀ L M : List (Int × Int), PyData.eqvAll (L.map prD) (M.map prD) = decide (L = M)
  | [], [] => rfl
  | [], _ :: _ => rfl
  | _ :: _, [] => rfl
  | p :: L, q :: M => by
    rw [List.map_cons, List.map_cons]
    unfold PyData.eqvAll
    rw [eqv_prD, eqvAll_prs L M, ← Bool.decide_and]
    apply decide_eq_decide.mpr
    rw [List.cons.injEq]
theorem eqv_prs (L M : List (Int × Int)) : PyData.eqv (.list (L.map prD)) (.list (M.map prD)) = decide (L = M) := by
  unfold PyData.eqv
  exact eqvAll_prs L M
theorem any_prs (L : List (Int × Int)) (p : Int × Int) : ((L.map prD).any fun z => PyData.eqv z (prD p)) = decide (p ∈ L) := by
  induction L with
  | nil => rfl
  | cons q L ih =>
    rw [List.map_cons, List.any_cons, ih, eqv_prD, ← Bool.decide_or]
    apply decide_eq_decide.mpr
    rw [List.mem_cons]
    exact ⟨fun h => h.imp Eq.symm id, fun h => h.imp Eq.symm id⟩
end DM

namespace DM
open PySem L2
/-! ### the greatest measure -/
theorem gcd_step {x y : Int} (hx : 0 ≤ x) (hy : 0 < y) : Int.gcd y (x % y) = Int.gcd x y := by
  have e1 : x = (x.toNat : Int) := by omega
  have e2 : y = (y.toNat : Int) := by omega
  rw [e1, e2, ← Int.natCast_emod, Int.gcd_natCast_natCast, Int.gcd_natCast_natCast, Nat.gcd_comm x.toNat, Nat.gcd_rec y.toNat x.toNat, Nat.gcd_comm (x.toNat % y.toNat)]
theorem gcd_end {x : Int} (hx : 0 ≤ x) : ((Int.gcd x 0 : Nat) : Int) = x := by
  rw [Int.gcd_zero_right]
  omega
theorem gcd_abs (a b : Int) : Int.gcd (if a < 0 then -a else a) (if b < 0 then -b else b) = Int.gcd a b := by
  split <;> split <;> simp only [Int.neg_gcd, Int.gcd_neg]
theorem gcd_abs1 (a b : Int) : Int.gcd (if a < 0 then -a else a) b = Int.gcd a b := by
  split <;> simp only [Int.neg_gcd]
theorem gcd_pos {a b : Int} (h : b ≠ 0) : 0 < ((Int.gcd a b : Nat) : Int) := by
  have := Int.gcd_pos_of_ne_zero_right a h
  omega
def spGcd : Sp := fun vs H Q _ => ∃ a b : Int, vs = [.int a, .int b] ∧ 0 ≤ a ∧ 0 ≤ b ∧ Q (.int (Int.gcd a b)) H
def spCom : Sp := fun vs H Q _ => ∃ a b : Int, vs = [.int a, .int b] ∧ Q (.int (Int.gcd a b)) H
def lowA (a b : Int) : Int := (if b < 0 then -a else a) / (Int.gcd a b : Nat)
def lowB (a b : Int) : Int := (if b < 0 then -b else b) / (Int.gcd a b : Nat)
/-- the part of two numbers, as a new pair -/
def spLow : Sp := fun vs H Q _ => ∃ a b : Int, vs = [.int a, .int b] ∧ b ≠ 0 ∧ b.natAbs < 4611686018427387904 ∧ ∀ (p : Addr) (H' : Hp), Same H H' → H' p = some (.tup [.int (lowA a b), .int (lowB a b)]) → Q (.ref p) H'
def spLowP : Sp := fun vs H Q _ => ∃ a b : Int, vs = [.int a, .int b] ∧ 0 < b ∧ b.natAbs < 4611686018427387904 ∧ ∀ (p : Addr) (H' : Hp), Same H H' → H' p = some (.tup [.int (lowA a b), .int (lowB a b)]) → Q (.ref p) H'
theorem gcd_le {a b : Int} (h : b ≠ 0) : ((Int.gcd a b : Nat) : Int) ≤ (b.natAbs : Int) := by
  have h1 : Int.gcd a b ≤ b.natAbs := Nat.le_of_dvd (by omega) (Nat.gcd_dvd_right a.natAbs b.natAbs)
  omega
theorem gcd_wide {i a b : Int} (h : b ≠ 0) (hb : b.natAbs < 4611686018427387904) : CDivW i ((Int.gcd a b : Nat) : Int) := by
  have h1 := gcd_le (a := a) h
  exact wide_div (b := 62) (gcd_pos h) (by omega) (by decide) (by decide)
section
variable {P : Program} {w : World} {K : PySem.W.Frag} {mg : Str → Option Value} {base : Heap} {f : Addr} {fd : FuncData}
abbrev s_common : Stmt := top 42
theorem sc_common : FnScope ["_law_one", "_law_other"] ["_law_one", "_law_other"] (defScope s_common) := ⟨rfl, rfl, rfl, by decide +kernel, rfl, by decide +kernel, by decide +kernel⟩
theorem ok_common (B : Blt mg) (F : Fun K "_law_common" "_law_common" s_common f fd) : FnOk P w K mg base CX0 1 f fd ["_law_one", "_law_other"] spCom := by
  refine F.ok sc_common (fun vs H Q E h => ?_) (fun cdv A outer s H vs Q E hr h => ?_)
  · obtain ⟨a, b, rfl, _⟩ := h
    rfl
  obtain ⟨a, b, rfl, q⟩ := h
  refine ⟨_, (pss_cons (ps_par (i := 0) (j := 1) (by rfl) sc_common.nd rfl rfl (by decide) rfl rfl (pa_cons (pe_callB call_abs rfl B.abs bt_abs (pa_cons (pv 0) pa_nil)) (pa_cons (pe_callB call_abs rfl B.abs bt_abs (pa_cons (pv 1) pa_nil)) pa_nil)) (by rfl))
    (pss_cons (ps_while PassesOwn.never (pt_cmpR op_gt (pv 1) pe_int (nomark _))
    (pss_one (ps_par (i := 0) (j := 1) (by rfl) sc_common.nd rfl rfl (by decide) rfl rfl (pa_cons (pv 1) (pa_cons (pe_op op_mod (pv 0) (pv 1)) pa_nil)) (by rfl))))
    (pss_one (ps_ret (pv 0))))), ?_⟩
  refine ⟨_, rfl, _, rfl, _, rfl, _, rfl, _, _, rfl, ?_⟩
  have ha : 0 ≤ (if a < 0 then -a else a) := by split <;> omega
  have hb : 0 ≤ (if b < 0 then -b else b) := by split <;> omega
  dsimp only
  refine while_by (fun σ H' => H' = H ∧ ∃ x y : Int, σ = [some (.int x), some (.int y)] ∧ 0 ≤ x ∧ 0 ≤ y ∧ Int.gcd x y = Int.gcd a b) (fun σ _ => match σ with | [_, some (.int y)] => y.toNat | _ => 0) ⟨rfl, _, _, rfl, ha, hb, gcd_abs a b⟩ ?_ ?_
  · rintro σ H' ⟨rfl, x, y, rfl, hx, hy, hg⟩
    refine ⟨_, rfl, _, _, rfl, rfl, _, rfl, ?_⟩
    refine ite2 (fun c => ?_) (fun c => ?_)
    · have hy' : 0 < y := of_decide_eq_true c
      refine ⟨_, rfl, _, rfl, _, rfl, _, _, rfl, rfl, hy', _, _, rfl, ?_⟩
      refine ⟨⟨rfl, y, x % y, rfl, hy, Int.emod_nonneg _ (by omega), ?_⟩, ?_⟩
      · rw [gcd_step hx hy']
        exact hg
      · show (x % y).toNat < y.toNat
        have := Int.emod_lt_of_pos x hy'
        omega
    · have hy' : ¬ y > 0 := of_decide_eq_false (Bool.eq_false_iff.mpr c)
      have c' : y = 0 := by omega
      subst c'
      refine ⟨_, rfl, ?_⟩
      have e := gcd_end hx
      rw [hg] at e
      rw [e] at q
      exact q
  · rintro σ H Q Q' hq ⟨v, h1, i, j, e1, e2, k, h3, h4⟩
    exact ⟨v, h1, i, j, e1, e2, k, h3, hq _ _ h4⟩
abbrev s_low : Stmt := top 43
theorem sc_low : FnScope ["_law_over", "_law_under", "_law_both"] ["_law_over", "_law_under"] (defScope s_low) := ⟨rfl, rfl, rfl, by decide +kernel, rfl, by decide +kernel, by decide +kernel⟩
theorem ok_low (c_common : Cal P w K mg base 1 "_law_common" ["_law_one", "_law_other"] spCom) (F : Fun K "_law_low" "_law_low" s_low f fd) : FnOk P w K mg base CX0 2 f fd ["_law_over", "_law_under"] spLowP := by
  refine F.ok sc_low (fun vs H Q E h => ?_) (fun cdv A outer s H vs Q E hr h => ?_)
  · obtain ⟨a, b, rfl, _⟩ := h
    rfl
  obtain ⟨a, b, rfl, hb0, hb1, q⟩ := h
  refine ⟨_, (pss_cons (ps_set (i := 2) sc_low.nd rfl (Or.inl rfl) (pe_cal c_common hr (pa_cons (pv 0) (pa_cons (pv 1) pa_nil))))
    (pss_cons (ps_if (pt_cmpR op_lt (pv 1) pe_int (nomark _))
    (pss_one (ps_set (i := 2) sc_low.nd rfl (Or.inl rfl) (pe_op op_sub pe_int (pv 2))))
    pss_nil)
    (pss_one (ps_ret (pe_tup (pa_cons (pe_op op_fdivW (pv 0) (pv 2)) (pa_cons (pe_op op_fdivW (pv 1) (pv 2)) pa_nil))))))), ?_⟩
  refine ⟨_, rfl, _, rfl, a, b, rfl, ?_⟩
  refine ⟨_, rfl, _, _, rfl, rfl, _, rfl, ?_⟩
  have c : ¬ b < 0 := by omega
  refine iteDF c ?_
  refine ⟨_, rfl, _, rfl, _, _, rfl, rfl, gcd_wide (by omega) hb1, _, rfl, _, rfl, _, _, rfl, rfl, gcd_wide (by omega) hb1, sz (by decide : 2 ≤ 100000), fun p hp => ?_⟩
  unfold lowA lowB at q
  rw [if_neg c, if_neg c] at q
  exact q p _ (same_new hp _) upd_same
end
end DM

namespace DM
open PySem PySem.W PyProof.Rows
section
variable {prog : Program} {w : World} {A : Around} {E : Value → Shared → Prop} {s : Shared} {α : Type} [DecidableEq α] [DatumOrd α]
/-! ### the lesser and the greater of two things alike -/
theorem two_best (bt : Nat → Nat → Bool) : argBest bt 1 = if bt 1 0 = true then 1 else 0 := by
  show (if bt 1 (argBest bt 0) = true then 1 else argBest bt 0) = _
  rfl
theorem least_two {u v : Value} {x y : α} {Q : Value → Shared → Prop} (hh : A.handled = none) (held : HoldAll s.heap [u, v] [x, y]) (room : A.units + 1 + Datum.depth α < cLine)
    (want : ∀ (h' : Heap) (tk : Nat), (∀ b o, s.heap.get? b = some o → h'.get? b = some o) → Q (if DatumOrd.lt y x = true then v else u) { s with heap := h', toks := tk }) : wpAny (model prog w) A (call (.builtin "min") [u, v]) Q E s := by
  have nm : (toString "min" ++ toString ".loop" : String) = "min.loop" := by decide
  refine call_function_tree F.kind_min F.plain_min F.entry_min (F.args_min2 u v) ?_
  show wpAny _ A.in1 (Builtin.Builtins.bindParams "min" ["key", "default"] 0 ⟨[], []⟩ >>= _) _ _ _
  refine wpAny_bind (wpAny_of_eq (a := [none, none]) rfl ?_)
  show wpAny _ A.in1 (newTuple [u, v] >>= _) _ _ _
  refine wpAny_bind (wpAny_newObj_type ?_)
  have grown : ∀ b o, s.heap.get? b = some o → (s.heap.push { cls := .type "tuple", data := .seq #[u, v] }).get? b = some o := fun b o z => Heap.get?_push_of_some _ z
  have isT : (s.heap.push { cls := .type "tuple", data := .seq #[u, v] }).IsTuple s.heap.objs.size #[u, v] := ⟨_, Heap.get?_push_size _ rfl, rfl, 0, rfl⟩
  obtain ⟨as, reads⟩ := held.keeps grown
  have cmp := cmpIn_lt (prog := prog) (w := w) (A := A.in1) (s := { s with heap := s.heap.push { cls := .type "tuple", data := .seq #[u, v] } }) (vs := #[u, v]) reads (alikeAll_datum [x, y]) (room_all (depthAll_map [x, y]) (by show A.units + 1 + Datum.depth α < cLine; exact room))
  refine wpAny_bind (iter_tupleW (A := A.in1) (s := { s with heap := s.heap.push { cls := .type "tuple", data := .seq #[u, v] } }) hh isT fun s2 e2 W st fp wr keep => ?_)
  refine wpAny_bind (wpAny_newObj_type ?_)
  have away : s2.heap.objs.size ∉ [(s.heap.push { cls := .type "tuple", data := .seq #[u, v] }).objs.size, s.heap.objs.size] := fun z => Nat.lt_irrefl _ (fp _ z)
  rw [nm]
  refine wpAny_pure ⟨plainId_quiet F.plain_min_loop _, codeAny_min_loop_firstH W _ wr _ cmp s2.heap.objs.size away (fresh_in keep) _ (by show 0 < 2; decide) (fun b o z => Heap.get?_push_of_some _ (keep b o z)) (W.frame 0 s2 _ s2.toks st (Nat.le_refl _) fun b _ o z => Heap.get?_push_of_some _ z) (Heap.get?_push_size _ rfl) fun r s3 best moved => ?_⟩
  obtain ⟨h', tk, rfl, old⟩ := moved_old e2 rfl (Moved.drop_new (tk := s2.toks) moved (Nat.le_refl _))
  have pick : r = if DatumOrd.lt y x = true then v else u := by
    have b1 : (#[u, v] : Array Value)[argBest (fun i j => dataLt (([x, y].map Datum.toD).getD i .none) (([x, y].map Datum.toD).getD j .none)) 1]? = some r := best
    rw [two_best] at b1
    have b2 : dataLt (([x, y].map Datum.toD).getD 1 .none) (([x, y].map Datum.toD).getD 0 .none) = DatumOrd.lt y x := DatumOrd.lt_eq y x
    rw [b2] at b1
    by_cases c : DatumOrd.lt y x = true
    · rw [if_pos c] at b1 ⊢
      exact (Option.some.inj b1).symm
    · rw [if_neg c] at b1 ⊢
      exact (Option.some.inj b1).symm
  rw [pick]
  exact want h' tk fun b o z => old b o (grown b o z)
theorem most_two {u v : Value} {x y : α} {Q : Value → Shared → Prop} (hh : A.handled = none) (held : HoldAll s.heap [u, v] [x, y]) (room : A.units + 1 + Datum.depth α < cLine)
    (want : ∀ (h' : Heap) (tk : Nat), (∀ b o, s.heap.get? b = some o → h'.get? b = some o) → Q (if DatumOrd.lt x y = true then v else u) { s with heap := h', toks := tk }) : wpAny (model prog w) A (call (.builtin "max") [u, v]) Q E s := by
  have nm : (toString "max" ++ toString ".loop" : String) = "max.loop" := by decide
  refine call_function_tree F.kind_max F.plain_max F.entry_max (F.args_max2 u v) ?_
  show wpAny _ A.in1 (Builtin.Builtins.bindParams "max" ["key", "default"] 0 ⟨[], []⟩ >>= _) _ _ _
  refine wpAny_bind (wpAny_of_eq (a := [none, none]) rfl ?_)
  show wpAny _ A.in1 (newTuple [u, v] >>= _) _ _ _
  refine wpAny_bind (wpAny_newObj_type ?_)
  have grown : ∀ b o, s.heap.get? b = some o → (s.heap.push { cls := .type "tuple", data := .seq #[u, v] }).get? b = some o := fun b o z => Heap.get?_push_of_some _ z
  have isT : (s.heap.push { cls := .type "tuple", data := .seq #[u, v] }).IsTuple s.heap.objs.size #[u, v] := ⟨_, Heap.get?_push_size _ rfl, rfl, 0, rfl⟩
  obtain ⟨as, reads⟩ := held.keeps grown
  have cmp := cmpIn_gt (prog := prog) (w := w) (A := A.in1) (s := { s with heap := s.heap.push { cls := .type "tuple", data := .seq #[u, v] } }) (vs := #[u, v]) reads (alikeAll_datum [x, y]) (room_all (depthAll_map [x, y]) (by show A.units + 1 + Datum.depth α < cLine; exact room))
  refine wpAny_bind (iter_tupleW (A := A.in1) (s := { s with heap := s.heap.push { cls := .type "tuple", data := .seq #[u, v] } }) hh isT fun s2 e2 W st fp wr keep => ?_)
  refine wpAny_bind (wpAny_newObj_type ?_)
  have away : s2.heap.objs.size ∉ [(s.heap.push { cls := .type "tuple", data := .seq #[u, v] }).objs.size, s.heap.objs.size] := fun z => Nat.lt_irrefl _ (fp _ z)
  rw [nm]
  refine wpAny_pure ⟨plainId_quiet F.plain_max_loop _, codeAny_max_loop_firstH W _ wr _ cmp s2.heap.objs.size away (fresh_in keep) _ (by show 0 < 2; decide) (fun b o z => Heap.get?_push_of_some _ (keep b o z)) (W.frame 0 s2 _ s2.toks st (Nat.le_refl _) fun b _ o z => Heap.get?_push_of_some _ z) (Heap.get?_push_size _ rfl) fun r s3 best moved => ?_⟩
  obtain ⟨h', tk, rfl, old⟩ := moved_old e2 rfl (Moved.drop_new (tk := s2.toks) moved (Nat.le_refl _))
  have pick : r = if DatumOrd.lt x y = true then v else u := by
    have b1 : (#[u, v] : Array Value)[argBest (fun i j => dataLt (([x, y].map Datum.toD).getD j .none) (([x, y].map Datum.toD).getD i .none)) 1]? = some r := best
    rw [two_best] at b1
    have b2 : dataLt (([x, y].map Datum.toD).getD 0 .none) (([x, y].map Datum.toD).getD 1 .none) = DatumOrd.lt x y := DatumOrd.lt_eq x y
    rw [b2] at b1
    by_cases c : DatumOrd.lt x y = true
    · rw [if_pos c] at b1 ⊢
      exact (Option.some.inj b1).symm
    · rw [if_neg c] at b1 ⊢
      exact (Option.some.inj b1).symm
  rw [pick]
  exact want h' tk fun b o z => old b o (grown b o z)
end
end DM
namespace DM
open PySem L2
/-- as Python orders pairs -/
def ltP (a b c d : Int) : Prop := a < c ∨ (a = c ∧ b < d)
instance {a b c d : Int} : Decidable (ltP a b c d) := by unfold ltP; exact inferInstance
section
variable {X : Cx}
def rMin2 (K : PySem.W.Frag) : List V → Hp → VK → Prop := fun vs H Q => ∃ (p q : Addr) (a b c d : Int), vs = [.ref p, .ref q] ∧ SqT K H p [.int a, .int b] ∧ SqT K H q [.int c, .int d] ∧ Q (.ref (if ltP c d a b then q else p)) H
def rMax2 (K : PySem.W.Frag) : List V → Hp → VK → Prop := fun vs H Q => ∃ (p q : Addr) (a b c d : Int), vs = [.ref p, .ref q] ∧ SqT K H p [.int a, .int b] ∧ SqT K H q [.int c, .int d] ∧ Q (.ref (if ltP a b c d then q else p)) H
theorem held_pair {pins : List (Addr × Obj)} {σ : St} {H : Hp} {s : Shared} {p : Addr} {a b : Int} (I : Inv X pins σ H s) (h : SqT X.K H p [.int a, .int b]) : PySem.W.Holds s.heap (.ref p) ((a, b) : Int × Int) := by
  obtain ⟨as, r⟩ := Dp.reads I (.tuple [.int a, .int b]) (.ref p) (.ref p) (.tup h (.cons (.int a) (.cons (.int b) .nil))) rfl
  exact ⟨as, r⟩
theorem lt_pair (a b c d : Int) : PySem.W.DatumOrd.lt ((a, b) : Int × Int) ((c, d) : Int × Int) = decide (ltP a b c d) := by
  show (if a = c then decide (b < d) else decide (a < c)) = _
  unfold ltP
  by_cases h : a = c
  · subst h
    rw [if_pos rfl]
    apply decide_eq_decide.mpr
    omega
  · rw [if_neg h]
    apply decide_eq_decide.mpr
    omega
theorem cr_min2 (hc : X.calm = true) (hu : X.A.units + 64 < cLine) : CallR X (.builtin "min") (rMin2 X.K) := by
  intro pins s0 σ0 H0 xs us Q0 I0 rel want
  obtain ⟨p, q, a, b, c, d, rfl, hp, hq, last⟩ := want
  obtain ⟨u1, u2, rfl, r1, r2⟩ := vals2 rel
  cases (show u1 = Value.ref p from r1)
  cases (show u2 = Value.ref q from r2)
  refine least_two (α := Int × Int) (x := (a, b)) (y := (c, d)) (I0.ok.hd hc) (.cons (held_pair I0 hp) (.cons (held_pair I0 hq) .nil)) (Nat.lt_of_le_of_lt (by show X.A.units + 1 + 1 ≤ X.A.units + 64; omega) hu) fun h' tk keep => ?_
  refine ⟨.ref (if ltP c d a b then q else p), H0, I0.kept keep, ?_, last⟩
  rw [lt_pair]
  by_cases z : ltP c d a b
  · rw [if_pos (decide_eq_true z), if_pos z]
    rfl
  · rw [decide_eq_false z, if_neg z]
    rfl
theorem cr_max2 (hc : X.calm = true) (hu : X.A.units + 64 < cLine) : CallR X (.builtin "max") (rMax2 X.K) := by
  intro pins s0 σ0 H0 xs us Q0 I0 rel want
  obtain ⟨p, q, a, b, c, d, rfl, hp, hq, last⟩ := want
  obtain ⟨u1, u2, rfl, r1, r2⟩ := vals2 rel
  cases (show u1 = Value.ref p from r1)
  cases (show u2 = Value.ref q from r2)
  refine most_two (α := Int × Int) (x := (a, b)) (y := (c, d)) (I0.ok.hd hc) (.cons (held_pair I0 hp) (.cons (held_pair I0 hq) .nil)) (Nat.lt_of_le_of_lt (by show X.A.units + 1 + 1 ≤ X.A.units + 64; omega) hu) fun h' tk keep => ?_
  refine ⟨.ref (if ltP a b c d then q else p), H0, I0.kept keep, ?_, last⟩
  rw [lt_pair]
  by_cases z : ltP a b c d
  · rw [if_pos (decide_eq_true z), if_pos z]
    rfl
  · rw [decide_eq_false z, if_neg z]
    rfl
end
end DM

namespace DM
open PySem L2
def crs (x1 y1 x2 y2 x3 y3 : Int) : Int := (x2 - x1) * (y3 - y1) - (y2 - y1) * (x3 - x1)
def sg (z : Int) : Int := if 0 < z then 1 else if z < 0 then -1 else 0
theorem crs_turn (x1 y1 x2 y2 x3 y3 : Int) : (x2 - x1) * (y3 - y2) - (y2 - y1) * (x3 - x2) = crs x1 y1 x2 y2 x3 y3 := by
  unfold crs
  have e1 : (y3 - y1) = (y3 - y2) + (y2 - y1) := by omega
  have e2 : (x3 - x1) = (x3 - x2) + (x2 - x1) := by omega
  rw [e1, e2, Int.mul_add, Int.mul_add, Int.mul_comm (y2 - y1) (x2 - x1)]
  omega
theorem crs_round (x1 y1 x2 y2 x3 y3 : Int) : crs x2 y2 x3 y3 x1 y1 = crs x1 y1 x2 y2 x3 y3 := by
  rw [← crs_turn x1 y1 x2 y2 x3 y3]
  unfold crs
  have e1 : y1 - y2 = -(y2 - y1) := by omega
  have e2 : x1 - x2 = -(x2 - x1) := by omega
  rw [e1, e2, Int.mul_neg, Int.mul_neg, Int.mul_comm (x3 - x2), Int.mul_comm (y3 - y2)]
  omega
theorem crs_about (x1 y1 x2 y2 x3 y3 : Int) : crs x1 y1 x3 y3 x2 y2 = - crs x1 y1 x2 y2 x3 y3 := by
  unfold crs
  rw [Int.mul_comm (x3 - x1), Int.mul_comm (y3 - y1)]
  omega
theorem sg_neg (z : Int) : sg (-z) = 0 - sg z := by
  unfold sg
  split <;> split <;> (try split) <;> (try split) <;> omega
def spCross (K : PySem.W.Frag) : Sp := fun vs H Q _ => ∃ (p1 p2 p3 : Addr) (x1 y1 x2 y2 x3 y3 : Int), vs = [.ref p1, .ref p2, .ref p3] ∧ Pt H p1 x1 y1 ∧ Pt H p2 x2 y2 ∧ Pt H p3 x3 y3 ∧ Q (.int (crs x1 y1 x2 y2 x3 y3)) H
section
variable {P : Program} {w : World} {K : PySem.W.Frag} {mg : Str → Option Value} {base : Heap} {f : Addr} {fd : FuncData}
abbrev s_cross : Stmt := top 58
theorem sc_cross : FnScope ["_law_one", "_law_two", "_law_three"] ["_law_one", "_law_two", "_law_three"] (defScope s_cross) := ⟨rfl, rfl, rfl, by decide +kernel, rfl, by decide +kernel, by decide +kernel⟩
theorem ok_cross (F : Fun K "_law_cross" "_law_cross" s_cross f fd) : FnOk P w K mg base CX0 1 f fd ["_law_one", "_law_two", "_law_three"] (spCross K) := by
  refine F.ok sc_cross (fun vs H Q E h => ?_) (fun cdv A outer s H vs Q E hr h => ?_)
  · obtain ⟨p1, p2, p3, x1, y1, x2, y2, x3, y3, rfl, _⟩ := h
    rfl
  obtain ⟨p1, p2, p3, x1, y1, x2, y2, x3, y3, rfl, ⟨h1, b1⟩, ⟨h2, b2⟩, ⟨h3, b3⟩, q⟩ := h
  refine ⟨_, (pss_one (ps_ret (pe_op op_sub (pe_op op_mul (pe_op op_sub (pe_ix ix_tup (pv 1) pe_int (fun _ _ => rfl)) (pe_ix ix_tup (pv 0) pe_int (fun _ _ => rfl))) (pe_op op_sub (pe_ix ix_tup (pv 2) pe_int (fun _ _ => rfl)) (pe_ix ix_tup (pv 0) pe_int (fun _ _ => rfl)))) (pe_op op_mul (pe_op op_sub (pe_ix ix_tup (pv 1) pe_int (fun _ _ => rfl)) (pe_ix ix_tup (pv 0) pe_int (fun _ _ => rfl))) (pe_op op_sub (pe_ix ix_tup (pv 2) pe_int (fun _ _ => rfl)) (pe_ix ix_tup (pv 0) pe_int (fun _ _ => rfl))))))), ?_⟩
  refine ⟨_, rfl, p2, _, _, _, rfl, rfl, SqT.of h2, rfl, _, rfl, p1, _, _, _, rfl, rfl, SqT.of h1, rfl, _, _, rfl, rfl, _, rfl, p3, _, _, _, rfl, rfl, SqT.of h3, rfl, _, rfl, p1, _, _, _, rfl, rfl, SqT.of h1, rfl, _, _, rfl, rfl, _, _, rfl, rfl, .inl ⟨by omega, by omega⟩, ?_⟩
  refine ⟨_, rfl, p2, _, _, _, rfl, rfl, SqT.of h2, rfl, _, rfl, p1, _, _, _, rfl, rfl, SqT.of h1, rfl, _, _, rfl, rfl, _, rfl, p3, _, _, _, rfl, rfl, SqT.of h3, rfl, _, rfl, p1, _, _, _, rfl, rfl, SqT.of h1, rfl, _, _, rfl, rfl, _, _, rfl, rfl, .inl ⟨by omega, by omega⟩, ?_⟩
  exact ⟨_, _, rfl, rfl, q⟩
end
end DM

namespace DM
open PySem L2
section
variable {P : Program} {w : World} {K : PySem.W.Frag} {mg : Str → Option Value} {base : Heap} {f : Addr} {fd : FuncData}
/-! ### _law_low, of either sign -/
theorem fdiv_neg' {a g : Int} (hg : 0 < g) (hd : g ∣ a) : a.fdiv (-g) = (-a) / g := by
  obtain ⟨c, rfl⟩ := hd
  have e : g * c = (-g) * (-c) := by rw [Int.neg_mul_neg]
  rw [e, Int.mul_fdiv_cancel_left _ (by omega), ← e]
  rw [← Int.mul_neg, Int.mul_ediv_cancel_left _ (by omega)]
def spLowN : Sp := fun vs H Q _ => ∃ a b : Int, vs = [.int a, .int b] ∧ b ≠ 0 ∧ b.natAbs ≤ 1000000000 ∧ ∀ (p : Addr) (H' : Hp), Same H H' → H' p = some (.tup [.int (lowA a b), .int (lowB a b)]) → Q (.ref p) H'
theorem ok_lowN (c_common : Cal P w K mg base 1 "_law_common" ["_law_one", "_law_other"] spCom) (F : Fun K "_law_low" "_law_low" s_low f fd) : FnOk P w K mg base CX0 2 f fd ["_law_over", "_law_under"] spLowN := by
  refine F.ok sc_low (fun vs H Q E h => ?_) (fun cdv A outer s H vs Q E hr h => ?_)
  · obtain ⟨a, b, rfl, _⟩ := h
    rfl
  obtain ⟨a, b, rfl, hb0, hb1, q⟩ := h
  refine ⟨_, (pss_cons (ps_set (i := 2) sc_low.nd rfl (Or.inl rfl) (pe_cal c_common hr (pa_cons (pv 0) (pa_cons (pv 1) pa_nil))))
    (pss_cons (ps_if (pt_cmpR op_lt (pv 1) pe_int (nomark _)) (pss_one (ps_set (i := 2) sc_low.nd rfl (Or.inl rfl) (pe_op op_sub pe_int (pv 2)))) pss_nil)
    (pss_one (ps_ret (pe_tup (pa_cons (pe_op op_fdivN (pv 0) (pv 2)) (pa_cons (pe_op op_fdivN (pv 1) (pv 2)) pa_nil))))))), ?_⟩
  have hg := gcd_pos (a := a) hb0
  have hle := gcd_le (a := a) hb0
  have d1 : ((Int.gcd a b : Nat) : Int) ∣ a := Int.gcd_dvd_left ..
  have d2 : ((Int.gcd a b : Nat) : Int) ∣ b := Int.gcd_dvd_right ..
  unfold lowA lowB at q
  refine ⟨_, rfl, _, rfl, a, b, rfl, ?_⟩
  refine ⟨_, rfl, _, _, rfl, rfl, _, rfl, ?_⟩
  refine ite2 (fun c => ?_) (fun c => ?_)
  · have c' : b < 0 := of_decide_eq_true c
    rw [if_pos c', if_pos c'] at q
    refine ⟨_, rfl, _, _, rfl, rfl, ?_⟩
    refine ⟨_, rfl, _, rfl, _, _, rfl, rfl, ⟨by omega, by omega⟩, _, rfl, _, rfl, _, _, rfl, rfl, ⟨by omega, by omega⟩, sz (by decide : 2 ≤ 100000), fun p hp => ?_⟩
    refine q p _ (same_new hp _) ?_
    rw [upd_same, ← fdiv_neg' hg d1, ← fdiv_neg' hg d2, Int.zero_sub]
  · have c' : ¬ b < 0 := of_decide_eq_false (Bool.eq_false_iff.mpr c)
    rw [if_neg c', if_neg c'] at q
    refine ⟨_, rfl, _, rfl, _, _, rfl, rfl, ⟨by omega, by omega⟩, _, rfl, _, rfl, _, _, rfl, rfl, ⟨by omega, by omega⟩, sz (by decide : 2 ≤ 100000), fun p hp => ?_⟩
    refine q p _ (same_new hp _) ?_
    rw [upd_same, ← Int.fdiv_eq_ediv_of_nonneg a (by omega), ← Int.fdiv_eq_ediv_of_nonneg b (by omega)]
end
end DM

namespace DM
open PySem L2
/-- a list's items are strokes -/
def Stks (H : Hp) (xs : List V) : Prop := ∀ v ∈ xs, ∃ (p : Addr) (x1 y1 x2 y2 : Int), v = .ref p ∧ Stk H p x1 y1 x2 y2
theorem Stks.same {H H' : Hp} {xs : List V} (h : Stks H xs) (e : Same H H') : Stks H' xs := fun v hv => by
  obtain ⟨p, x1, y1, x2, y2, r, k⟩ := h v hv
  exact ⟨p, x1, y1, x2, y2, r, k.same e⟩
theorem Stks.but {H H' : Hp} {b l : Addr} {xs : List V} (h : Stks H xs) (hB : BagAt H b l) (e : But b H H') : Stks H' xs := fun v hv => by
  obtain ⟨p, x1, y1, x2, y2, r, k⟩ := h v hv
  exact ⟨p, x1, y1, x2, y2, r, k.but hB e⟩
theorem Stks.data {K : PySem.W.Frag} {H : Hp} : ∀ {xs : List V}, Stks H xs → ∃ ds : List PyData, DpAll K H xs ds ∧ PyData.canLayAll0 ds = true ∧ PyData.depthAll ds ≤ 1 ∧ PyData.eqvAll ds [] = xs.isEmpty
  | [], _ => ⟨[], .nil, rfl, Nat.zero_le _, rfl⟩
  | v :: xs, h => by
    obtain ⟨p, x1, y1, x2, y2, rfl, k⟩ := h v List.mem_cons_self
    obtain ⟨ds, a, b, c, _⟩ := Stks.data (K := K) (xs := xs) fun u hu => h u (List.mem_cons_of_mem _ hu)
    refine ⟨.tuple [.int x1, .int y1, .int x2, .int y2] :: ds, .cons (dp_four k.1) a, ?_, ?_, rfl⟩
    · simp only [PyData.canLayAll0, PyData.canLay0, b, Bool.and_true]
    · simp only [PyData.depthAll, PyData.depth]
      omega
theorem Stks.empty {K : PySem.W.Frag} {H : Hp} {pl : Addr} {xs : List V} (h : Stks H xs) (hl : H pl = some (.lst xs)) : ∃ d, Dp K H (.ref pl) d ∧ SeqAt.shaped d = true ∧ PyData.eqv d (.list []) = xs.isEmpty := by
  obtain ⟨ds, a, b, c, e⟩ := h.data (K := K)
  refine ⟨.list ds, .lst (SqL.of hl) a, ?_, ?_⟩
  · unfold SeqAt.shaped
    simp only [PyData.canLay0, PyData.depth, b, Bool.true_and]
    exact decide_eq_true (by omega)
  · simp only [PyData.eqv]
    exact e
def spBeside : Sp := fun vs H Q _ => ∃ (b l pb pl : Addr) (x y m : Int) (xs : List V), vs = [.ref b, .ref pb, .int m, .ref pl] ∧ BagAt H b l ∧ H pb = some (.tup [.int x, .int y]) ∧ 0 < m ∧ m ≤ 1000 ∧ H pl = some (.lst xs) ∧ pl ≠ b ∧ xs.length ≤ 1000 ∧ Stks H xs ∧
  ∀ (p : Addr) (H' : Hp) (x1 y1 x2 y2 : Int), BagAt H' b l → But b H H' → Stk H' p x1 y1 x2 y2 → Q (.ref p) H'
theorem abs_max {x y : Int} (h : (if (if y < 0 then -y else y) > (if x < 0 then -x else x) then (if y < 0 then -y else y) else (if x < 0 then -x else x)) < 41) : -40 ≤ x ∧ x ≤ 40 ∧ -40 ≤ y ∧ y ≤ 40 := by
  split at h <;> (split at h <;> omega)
section
variable {P : Program} {w : World} {K : PySem.W.Frag} {mg : Str → Option Value} {base : Heap} {f : Addr} {fd : FuncData}
abbrev s_beside : Stmt := top 49
theorem sc_beside : FnScope ["_law_bag_here", "_law_base_here", "_law_wide", "_law_some", "_law_fresh", "_law_how", "_law_other", "_law_x", "_law_y"] ["_law_bag_here", "_law_base_here", "_law_wide", "_law_some"] (defScope s_beside) := ⟨rfl, rfl, rfl, by decide +kernel, rfl, by decide +kernel, by decide +kernel⟩
theorem ok_beside (B : Blt mg) (c_pull : Cal P w K mg base 1 "_law_pull" ["_law_bag_here", "_law_amount"] spPull) (c_of : Cal P w K mg base 2 "_law_of" ["_law_bag_here", "_law_things"] spOf) (c_stroke : Cal P w K mg base 3 "_law_stroke" ["_law_bag_here", "_law_base_here", "_law_wide"] spStroke) (F : Fun K "_law_beside" "_law_beside" s_beside f fd) : FnOk P w K mg base CX0 4 f fd ["_law_bag_here", "_law_base_here", "_law_wide", "_law_some"] spBeside := by
  refine F.ok sc_beside (fun vs H Q E h => ?_) (fun cdv A outer s H vs Q E hr h => ?_)
  · obtain ⟨b, l, pb, pl, x, y, m, xs, rfl, _⟩ := h
    rfl
  obtain ⟨b, l, pb, pl, x, y, m, xs, rfl, hB, hp, m0, m1, hl, hlb, h1000, hxs, q⟩ := h
  refine ⟨_, (pss_cons (ps_set (i := 4) sc_beside.nd rfl (Or.inl rfl) (pe_cal c_stroke hr (pa_cons (pv 0) (pa_cons (pv 1) (pa_cons (pv 2) pa_nil)))))
    (pss_cons (ps_set (i := 5) sc_beside.nd rfl (Or.inl rfl) (pe_cal c_pull hr (pa_cons (pv 0) (pa_cons pe_int pa_nil))))
    (pss_cons (ps_if (PW.pt (pw_or (pt_cmpR (op_eqD hr.units) (pv 3) (pe_lst pa_nil) (nomark _)) (pw_or1 (pt_cmpR op_gt (pv 5) pe_int (nomark _)))))
    (pss_one (ps_ret (pv 4)))
    pss_nil)
    (pss_cons (ps_set (i := 6) sc_beside.nd rfl (Or.inl rfl) (pe_cal c_of hr (pa_cons (pv 0) (pa_cons (pv 3) pa_nil))))
    (pss_cons (ps_if (PW.pt (pw_and (pt_cmpR op_eq (pv 5) pe_int (nomark _)) (pw_and1 (pt_cmpR (op_neD hr.units) (pe_slice sl_tup (pv 6) (po_some pe_int) po_none) (pe_slice sl_tup (pv 4) (po_some pe_int) po_none) (nomark _)))))
    (pss_one (ps_ret (pe_op op_catT (pe_slice sl_tup (pv 6) (po_some pe_int) po_none) (pe_slice sl_tup (pv 4) (po_some pe_int) po_none))))
    pss_nil)
    (pss_cons (ps_par (i := 7) (j := 8) (by rfl) sc_beside.nd rfl rfl (by decide) rfl rfl (pa_cons (pe_op op_sub (pe_op op_mul pe_int (pe_ix ix_tup (pv 6) pe_int (fun _ _ => rfl))) (pe_ix ix_tup (pv 6) pe_int (fun _ _ => rfl))) (pa_cons (pe_op op_sub (pe_op op_mul pe_int (pe_ix ix_tup (pv 6) pe_int (fun _ _ => rfl))) (pe_ix ix_tup (pv 6) pe_int (fun _ _ => rfl))) pa_nil)) (by rfl))
    (pss_cons (ps_if (PW.pt (pw_and (pt_cmpR op_eq (pv 5) pe_int (nomark _)) (pw_and1 (pt_cmpR op_lt (pe_callB (call_max2 rfl) rfl B.max bt_max (pa_cons (pe_callB call_abs rfl B.abs bt_abs (pa_cons (pv 7) pa_nil)) (pa_cons (pe_callB call_abs rfl B.abs bt_abs (pa_cons (pv 8) pa_nil)) pa_nil))) pe_int (nomark _)))))
    (pss_one (ps_ret (pe_op op_catT (pe_slice sl_tup (pv 6) po_none (po_some pe_int)) (pe_tup (pa_cons (pv 7) (pa_cons (pv 8) pa_nil))))))
    pss_nil)
    (pss_one (ps_ret (pe_ifExp (pt_cmpR op_eq (pv 5) pe_int (nomark _)) (pe_op op_catT (pe_slice sl_tup (pv 6) (po_some pe_int) po_none) (pe_slice sl_tup (pv 6) po_none (po_some pe_int))) (pv 4))))))))))), ?_⟩
  refine ⟨_, rfl, _, rfl, _, rfl, b, _, pb, x, y, m, rfl, hB, hp, m0, m1, fun fr H1 f1 f2 f3 f4 hB1 bt1 hf => ?_⟩
  refine ⟨_, rfl, b, _, _, rfl, hB1, by decide, by decide, fun how H2 hB2 bt2 h0 h7 => ?_⟩
  have hf := hf.but hB1 bt2
  have bt12 := bt1.trans bt2
  have hl2 := bt12 _ _ hlb hl
  have hx2 := (hxs.but hB bt1).but hB1 bt2
  refine ⟨_, rfl, sz (by decide : 0 ≤ 100000), fun e1 ne1 => ?_⟩
  have ge := same_new ne1 (.lst [])
  obtain ⟨d, dp, sh, ev⟩ := (hx2.same ge).empty (K := K) (ge _ _ hl2)
  refine ⟨_, _, dp, .lst (SqL.of upd_same) .nil, sh, rfl, _, rfl, ?_⟩
  rw [ev]
  have hB3 := hB2.same ge
  have hf3 := hf.same ge
  have bt3 := bt12.trans (But.of ge)
  cases xs with
  | nil =>
    refine iteT (iteT ?_)
    exact ⟨_, rfl, q fr _ _ _ _ _ hB3 bt3 hf3⟩
  | cons v0 rest =>
    refine iteF ?_
    refine ⟨_, rfl, _, _, rfl, rfl, _, rfl, ?_⟩
    by_cases c : how > 2
    · refine iteDT c ?_
      exact ⟨_, rfl, q fr _ _ _ _ _ hB3 bt3 hf3⟩
    · refine iteDF c ?_
      refine ⟨_, rfl, _, rfl, b, _, pl, _, rfl, hB3, ge _ _ hl2, hlb, Nat.zero_lt_succ _, h1000, fun v H4 hB4 bt4 hv => ?_⟩
      have hx4 := (hx2.same ge).but hB3 bt4
      have hf4 := hf3.but hB3 bt4
      obtain ⟨po, o1, o2, o3, o4, rfl, ho⟩ := hx4 v hv
      have bta := bt3.trans bt4
      have bo := ho.2.1
      have bf := hf4.2.1
      refine ⟨_, rfl, rfl, _, rfl, ?_⟩
      by_cases c0 : how = 0
      · subst c0
        refine iteDT rfl ?_
        refine ⟨_, rfl, _, rfl, po, _, rfl, SqT.of ho.1, (fun z => absurd z.1 (by show ¬ (2 = 0); decide)), fun w1 n1 => ?_⟩
        have g1 := same_new n1 (.tup [.int o3, .int o4])
        refine ⟨_, rfl, _, rfl, fr, _, rfl, SqT.of (g1 _ _ hf4.1), (fun z => absurd z.1 (by show ¬ (2 = 0); decide)), fun w2 n2 => ?_⟩
        have g2 := same_new n2 (.tup [.int f3, .int f4])
        refine ⟨.tuple [.int o3, .int o4], .tuple [.int f3, .int f4], dp_pair (g2 _ _ upd_same), dp_pair upd_same, shaped_pair _ _, shaped_pair _ _, _, rfl, ?_⟩
        rw [eqv_pair]
        have g12 := g1.trans g2
        by_cases d : o3 = f3 ∧ o4 = f4
        · refine iteNS d ?_
          have ho' := ho.same g12
          refine ⟨_, rfl, po, _, _, _, rfl, rfl, SqT.of ho'.1, rfl, _, _, rfl, rfl, .inl ⟨by decide, by decide⟩, _, rfl, po, _, _, _, rfl, rfl, SqT.of ho'.1, rfl, _, _, rfl, rfl, _, rfl, po, _, _, _, rfl, rfl, SqT.of ho'.1, rfl, _, _, rfl, rfl, .inl ⟨by decide, by decide⟩, _, rfl, po, _, _, _, rfl, rfl, SqT.of ho'.1, rfl, _, _, rfl, rfl, _, _, rfl, ?_⟩
          refine ⟨_, rfl, rfl, _, rfl, iteDF (by decide) (iteF ?_)⟩
          refine ⟨_, rfl, rfl, _, rfl, iteDF (by decide) ?_⟩
          exact ⟨_, rfl, q fr _ _ _ _ _ (hB4.same g12) (bta.trans (But.of g12)) (hf4.same g12)⟩
        · refine if_pos' (by rw [decide_eq_false d]; rfl) ?_
          have ho' := ho.same g12
          have hf' := hf4.same g12
          refine ⟨_, rfl, _, rfl, po, _, rfl, SqT.of ho'.1, (fun z => absurd z.1 (by show ¬ (2 = 0); decide)), fun w3 n3 => ?_⟩
          have g3 := same_new n3 (.tup [.int o3, .int o4])
          refine ⟨_, rfl, _, rfl, fr, _, rfl, SqT.of (g3 _ _ hf'.1), (fun z => absurd z.1 (by show ¬ (2 = 0); decide)), fun w4 n4 => ?_⟩
          have g4 := same_new n4 (.tup [.int f3, .int f4])
          refine ⟨w3, w4, [.int o3, .int o4], [.int f3, .int f4], rfl, rfl, SqT.of (g4 _ _ upd_same), SqT.of upd_same, (by intro z; cases z), sz (by decide : 4 ≤ 100000), (fun z => by cases z), fun _ w5 n5 => ?_⟩
          have g5 := same_new n5 (.tup [.int o3, .int o4, .int f3, .int f4])
          have gA := g12.trans (g3.trans (g4.trans g5))
          exact q w5 _ o3 o4 f3 f4 (hB4.same gA) (bta.trans (But.of gA)) ⟨upd_same, by omega, d⟩
      · refine iteDF (fun z => c0 (V.int.inj z)) (iteF ?_)
        refine ⟨_, rfl, po, _, _, _, rfl, rfl, SqT.of ho.1, rfl, _, _, rfl, rfl, .inl ⟨by decide, by decide⟩, _, rfl, po, _, _, _, rfl, rfl, SqT.of ho.1, rfl, _, _, rfl, rfl, _, rfl, po, _, _, _, rfl, rfl, SqT.of ho.1, rfl, _, _, rfl, rfl, .inl ⟨by decide, by decide⟩, _, rfl, po, _, _, _, rfl, rfl, SqT.of ho.1, rfl, _, _, rfl, rfl, _, _, rfl, ?_⟩
        refine ⟨_, rfl, rfl, _, rfl, ?_⟩
        by_cases c1 : how = 1
        · subst c1
          refine iteDT rfl ?_
          refine ⟨_, rfl, _, rfl, _, rfl, _, rfl, _, _, rfl, _, _, rfl, rfl, _, rfl, ?_⟩
          by_cases d : (if (if (2 * o4 - o2) < 0 then -(2 * o4 - o2) else (2 * o4 - o2)) > (if (2 * o3 - o1) < 0 then -(2 * o3 - o1) else (2 * o3 - o1)) then (if (2 * o4 - o2) < 0 then -(2 * o4 - o2) else (2 * o4 - o2)) else (if (2 * o3 - o1) < 0 then -(2 * o3 - o1) else (2 * o3 - o1))) < 41
          · refine iteDT d ?_
            have bd := abs_max d
            refine ⟨_, rfl, _, rfl, po, _, rfl, SqT.of ho.1, (fun z => absurd z.2 (by show ¬ (2 = 4); decide)), fun w1 n1 => ?_⟩
            have g1 := same_new n1 (.tup [.int o1, .int o2])
            refine ⟨_, rfl, _, rfl, sz (by decide : 2 ≤ 100000), fun w2 n2 => ?_⟩
            have g2 := same_new n2 (.tup [.int (2 * o3 - o1), .int (2 * o4 - o2)])
            refine ⟨w1, w2, [.int o1, .int o2], [.int (2 * o3 - o1), .int (2 * o4 - o2)], rfl, rfl, SqT.of (g2 _ _ upd_same), SqT.of upd_same, (by intro z; cases z), sz (by decide : 4 ≤ 100000), (fun z => by cases z), fun _ w3 n3 => ?_⟩
            have g3 := same_new n3 (.tup [.int o1, .int o2, .int (2 * o3 - o1), .int (2 * o4 - o2)])
            have gA := g1.trans (g2.trans g3)
            exact q w3 _ o1 o2 (2 * o3 - o1) (2 * o4 - o2) (hB4.same gA) (bta.trans (But.of gA)) ⟨upd_same, by omega, fun z => ho.2.2 (by omega)⟩
          · refine iteDF d ?_
            refine ⟨_, rfl, rfl, _, rfl, iteDF (by decide) ?_⟩
            exact ⟨_, rfl, q fr _ _ _ _ _ hB4 bta hf4⟩
        · refine iteDF (fun z => c1 (V.int.inj z)) (iteF ?_)
          refine ⟨_, rfl, rfl, _, rfl, ?_⟩
          by_cases c2 : how = 2
          · refine iteDT (congrArg V.int c2) ?_
            refine ⟨_, rfl, _, rfl, po, _, rfl, SqT.of ho.1, (fun z => absurd z.1 (by show ¬ (2 = 0); decide)), fun w1 n1 => ?_⟩
            have g1 := same_new n1 (.tup [.int o3, .int o4])
            refine ⟨_, rfl, _, rfl, po, _, rfl, SqT.of (g1 _ _ ho.1), (fun z => absurd z.2 (by show ¬ (2 = 4); decide)), fun w2 n2 => ?_⟩
            have g2 := same_new n2 (.tup [.int o1, .int o2])
            refine ⟨w1, w2, [.int o3, .int o4], [.int o1, .int o2], rfl, rfl, SqT.of (g2 _ _ upd_same), SqT.of upd_same, (by intro z; cases z), sz (by decide : 4 ≤ 100000), (fun z => by cases z), fun _ w3 n3 => ?_⟩
            have g3 := same_new n3 (.tup [.int o3, .int o4, .int o1, .int o2])
            have gA := g1.trans (g2.trans g3)
            exact q w3 _ o3 o4 o1 o2 (hB4.same gA) (bta.trans (But.of gA)) ⟨upd_same, by omega, fun z => ho.2.2 ⟨z.1.symm, z.2.symm⟩⟩
          · refine iteDF (fun z => c2 (V.int.inj z)) ?_
            exact ⟨_, rfl, q fr _ _ _ _ _ hB4 bta hf4⟩
end
end DM

namespace DM
open PySem L2
/-! ### what is alike, piece by piece -/
theorem alike_tup {n : Nat} {H : Hp} {p q : Addr} {xs ys : List V} (hp : H p = some (.tup xs)) (hq : H q = some (.tup ys)) (hl : xs.length = ys.length) (h1 : xs.length ≤ 1000) (h : ∀ (i : Nat) (x y : V), xs[i]? = some x → ys[i]? = some y → Alike n H x y) : Alike (n + 1) H (.ref p) (.ref q) := .inr (.inl ⟨p, q, xs, ys, rfl, rfl, hp, hq, hl, h1, h⟩)
theorem alike_lst {n : Nat} {H : Hp} {p q : Addr} {xs ys : List V} (hp : H p = some (.lst xs)) (hq : H q = some (.lst ys)) (hl : xs.length = ys.length) (h1 : xs.length ≤ 1000) (h : ∀ (i : Nat) (x y : V), xs[i]? = some x → ys[i]? = some y → Alike n H x y) : Alike (n + 1) H (.ref p) (.ref q) := .inr (.inr ⟨p, q, xs, ys, rfl, rfl, hp, hq, hl, h1, h⟩)
theorem two_of {P : V → V → Prop} {a b c d : V} (h0 : P a c) (h1 : P b d) : ∀ (i : Nat) (x y : V), ([a, b] : List V)[i]? = some x → ([c, d] : List V)[i]? = some y → P x y
  | 0, _, _, hx, hy => by cases hx; cases hy; exact h0
  | 1, _, _, hx, hy => by cases hx; cases hy; exact h1
theorem three_of {P : V → V → Prop} {a b e c d f : V} (h0 : P a c) (h1 : P b d) (h2 : P e f) : ∀ (i : Nat) (x y : V), ([a, b, e] : List V)[i]? = some x → ([c, d, f] : List V)[i]? = some y → P x y
  | 0, _, _, hx, hy => by cases hx; cases hy; exact h0
  | 1, _, _, hx, hy => by cases hx; cases hy; exact h1
  | 2, _, _, hx, hy => by cases hx; cases hy; exact h2
theorem alike_ints {n : Nat} {H : Hp} {p q : Addr} {a b : Int} (hp : H p = some (.tup [.int a, .int b])) (hq : H q = some (.tup [.int a, .int b])) : Alike (n + 1) H (.ref p) (.ref q) := alike_tup hp hq rfl (by show 2 ≤ 1000; decide) alike_pair
end DM

namespace DM
/-! ### lowest terms are one for equal fractions -/
theorem low_neg (a b : Int) (hb : b ≠ 0) : lowA (-a) (-b) = lowA a b ∧ lowB (-a) (-b) = lowB a b := by
  unfold lowA lowB
  rw [Int.neg_gcd, Int.gcd_neg]
  rcases Int.lt_trichotomy b 0 with h | h | h
  · rw [if_neg (show ¬ -b < 0 by omega), if_pos h, if_neg (show ¬ -b < 0 by omega), if_pos h]
    exact ⟨rfl, rfl⟩
  · exact absurd h hb
  · rw [if_pos (show -b < 0 by omega), if_neg (show ¬ b < 0 by omega), if_pos (show -b < 0 by omega), if_neg (show ¬ b < 0 by omega), Int.neg_neg, Int.neg_neg]
    exact ⟨rfl, rfl⟩
theorem low_scale {a b k : Int} (hb : 0 < b) (hk : 0 < k) : lowA (k * a) (k * b) = lowA a b ∧ lowB (k * a) (k * b) = lowB a b := by
  have hkb := Int.mul_pos hk hb
  unfold lowA lowB
  rw [if_neg (show ¬ k * b < 0 by omega), if_neg (show ¬ b < 0 by omega), if_neg (show ¬ k * b < 0 by omega), if_neg (show ¬ b < 0 by omega), Int.gcd_mul_left]
  have e : ((k.natAbs * Int.gcd a b : Nat) : Int) = k * ((Int.gcd a b : Nat) : Int) := by
    rw [Int.natCast_mul]
    congr 1
    omega
  rw [e, Int.mul_ediv_mul_of_pos _ _ hk, Int.mul_ediv_mul_of_pos _ _ hk]
  exact ⟨rfl, rfl⟩
theorem low_eq_pos {a b c d : Int} (hb : 0 < b) (hd : 0 < d) (h : a * d = c * b) : lowA a b = lowA c d ∧ lowB a b = lowB c d := by
  have h1 := low_scale (a := a) hb hd
  have h2 := low_scale (a := c) hd hb
  have e1 : d * a = b * c := by rw [Int.mul_comm d a, h, Int.mul_comm]
  have e2 : d * b = b * d := Int.mul_comm ..
  rw [e1, e2] at h1
  exact ⟨h1.1.symm.trans h2.1, h1.2.symm.trans h2.2⟩
theorem low_eq {a b c d : Int} (hb : b ≠ 0) (hd : d ≠ 0) (h : a * d = c * b) : lowA a b = lowA c d ∧ lowB a b = lowB c d := by
  have n1 := low_neg a b hb
  have n2 := low_neg c d hd
  rcases Int.lt_trichotomy b 0 with z | z | z
  · rcases Int.lt_trichotomy d 0 with y | y | y
    · have r := low_eq_pos (a := -a) (b := -b) (c := -c) (d := -d) (by omega) (by omega) (by rw [Int.neg_mul_neg, Int.neg_mul_neg]; exact h)
      rw [n1.1, n1.2, n2.1, n2.2] at r
      exact r
    · exact absurd y hd
    · have r := low_eq_pos (a := -a) (b := -b) (c := c) (d := d) (by omega) y (by rw [Int.neg_mul, Int.mul_neg, h])
      rw [n1.1, n1.2] at r
      exact r
  · exact absurd z hb
  · rcases Int.lt_trichotomy d 0 with y | y | y
    · have r := low_eq_pos (a := a) (b := b) (c := -c) (d := -d) z (by omega) (by rw [Int.neg_mul, Int.mul_neg, h])
      rw [n2.1, n2.2] at r
      exact r
    · exact absurd y hd
    · exact low_eq_pos z y h
/-! ### where two strokes meet, as the law reckons it -/
def minP (p q : Int × Int) : Int × Int := if ltP q.1 q.2 p.1 p.2 then q else p
def maxP (p q : Int × Int) : Int × Int := if ltP p.1 p.2 q.1 q.2 then q else p
inductive Met where
  | no
  | pt (a b c d : Int)
  | along (x1 y1 x2 y2 : Int)
deriving DecidableEq
def meetL (x1 y1 x2 y2 u1 v1 u2 v2 : Int) : Met :=
  let l0 := crs x1 y1 x2 y2 u1 v1
  let l1 := crs x1 y1 x2 y2 u2 v2
  let r0 := crs u1 v1 u2 v2 x1 y1
  let r1 := crs u1 v1 u2 v2 x2 y2
  if l0 = 0 ∧ l1 = 0 then
    let lo := maxP (minP (x1, y1) (x2, y2)) (minP (u1, v1) (u2, v2))
    let hi := minP (maxP (x1, y1) (x2, y2)) (maxP (u1, v1) (u2, v2))
    if ltP lo.1 lo.2 hi.1 hi.2 then .along lo.1 lo.2 hi.1 hi.2 else if lo.1 = hi.1 ∧ lo.2 = hi.2 then .pt lo.1 1 lo.2 1 else .no
  else if l0 * l1 > 0 ∨ r0 * r1 > 0 then .no
  else .pt (lowA (u1 * (l0 - l1) + (u2 - u1) * l0) (l0 - l1)) (lowB (u1 * (l0 - l1) + (u2 - u1) * l0) (l0 - l1)) (lowA (v1 * (l0 - l1) + (v2 - v1) * l0) (l0 - l1)) (lowB (v1 * (l0 - l1) + (v2 - v1) * l0) (l0 - l1))
end DM
namespace DM
open PySem L2
/-- such a meeting as it lies in the heap -/
def MetAt (H : Hp) (v : V) : Met → Prop
  | .no => v = .non
  | .pt a b c d => ∃ p q px py : Addr, v = .ref p ∧ H p = some (.tup [.str "at", .ref q]) ∧ H q = some (.tup [.ref px, .ref py]) ∧ H px = some (.tup [.int a, .int b]) ∧ H py = some (.tup [.int c, .int d])
  | .along x1 y1 x2 y2 => ∃ p p1 p2 : Addr, v = .ref p ∧ H p = some (.tup [.str "along", .ref p1, .ref p2]) ∧ H p1 = some (.tup [.int x1, .int y1]) ∧ H p2 = some (.tup [.int x2, .int y2])
theorem MetAt.same {H H' : Hp} {v : V} : ∀ {m : Met}, MetAt H v m → Same H H' → MetAt H' v m
  | .no, h, _ => h
  | .pt .., ⟨p, q, px, py, a, b, c, d, e⟩, s => ⟨p, q, px, py, a, s _ _ b, s _ _ c, s _ _ d, s _ _ e⟩
  | .along .., ⟨p, p1, p2, a, b, c, d⟩, s => ⟨p, p1, p2, a, s _ _ b, s _ _ c, s _ _ d⟩
theorem MetAt.alike {H : Hp} : ∀ {m : Met} {v u : V}, MetAt H v m → MetAt H u m → Alike 3 H v u
  | .no, _, _, h, h' => by cases h; cases h'; exact Alike.scal rfl
  | .pt .., _, _, ⟨p, q, px, py, rfl, b, c, d, e⟩, ⟨p', q', px', py', rfl, b', c', d', e'⟩ => alike_tup b b' rfl (by show 2 ≤ 1000; decide) (two_of (P := Alike 2 H) (Alike.scal rfl) (alike_tup c c' rfl (by show 2 ≤ 1000; decide) (two_of (P := Alike 1 H) (alike_ints d d') (alike_ints e e'))))
  | .along .., _, _, ⟨p, p1, p2, rfl, b, c, d⟩, ⟨p', p1', p2', rfl, b', c', d'⟩ => alike_tup b b' rfl (by show 3 ≤ 1000; decide) (three_of (P := Alike 2 H) (Alike.scal rfl) (alike_ints c c') (alike_ints d d'))
def spMeet : Sp := fun vs H Q _ => ∃ (p q : Addr) (x1 y1 x2 y2 u1 v1 u2 v2 : Int), vs = [.ref p, .ref q] ∧ Stk H p x1 y1 x2 y2 ∧ Stk H q u1 v1 u2 v2 ∧ ∀ (r : V) (H' : Hp), Same H H' → MetAt H' r (meetL x1 y1 x2 y2 u1 v1 u2 v2) → Q r H'
theorem min_at {H : Hp} {p q : Addr} {a b : Int × Int} (hp : H p = some (.tup [.int a.1, .int a.2])) (hq : H q = some (.tup [.int b.1, .int b.2])) : H (if ltP b.1 b.2 a.1 a.2 then q else p) = some (.tup [.int (minP a b).1, .int (minP a b).2]) := by
  unfold minP
  by_cases c : ltP b.1 b.2 a.1 a.2
  · rw [if_pos c, if_pos c]; exact hq
  · rw [if_neg c, if_neg c]; exact hp
theorem max_at {H : Hp} {p q : Addr} {a b : Int × Int} (hp : H p = some (.tup [.int a.1, .int a.2])) (hq : H q = some (.tup [.int b.1, .int b.2])) : H (if ltP a.1 a.2 b.1 b.2 then q else p) = some (.tup [.int (maxP a b).1, .int (maxP a b).2]) := by
  unfold maxP
  by_cases c : ltP a.1 a.2 b.1 b.2
  · rw [if_pos c, if_pos c]; exact hq
  · rw [if_neg c, if_neg c]; exact hp
theorem lex_pair (a b c d : Int) : HT.lexLt [a, b] [c, d] = decide (ltP a b c d) := by
  unfold ltP
  simp only [HT.lexLt]
  by_cases h : a = c
  · subst h
    simp
    try (by_cases k : b < d <;> simp [k] <;> omega)
  · simp [h]
theorem crs_small {x1 y1 x2 y2 x3 y3 : Int} (h1 : -40 ≤ x1 ∧ x1 ≤ 40 ∧ -40 ≤ y1 ∧ y1 ≤ 40) (h2 : -40 ≤ x2 ∧ x2 ≤ 40 ∧ -40 ≤ y2 ∧ y2 ≤ 40) (h3 : -40 ≤ x3 ∧ x3 ≤ 40 ∧ -40 ≤ y3 ∧ y3 ≤ 40) : -12800 ≤ crs x1 y1 x2 y2 x3 y3 ∧ crs x1 y1 x2 y2 x3 y3 ≤ 12800 := by
  have key : ∀ a b : Int, -80 ≤ a → a ≤ 80 → -80 ≤ b → b ≤ 80 → -6400 ≤ a * b ∧ a * b ≤ 6400 := fun a b ha ha' hb hb' => by
    have e : (a * b).natAbs = a.natAbs * b.natAbs := Int.natAbs_mul a b
    have e2 : a.natAbs * b.natAbs ≤ 80 * 80 := Nat.mul_le_mul (by omega) (by omega)
    omega
  unfold crs
  have k1 := key (x2 - x1) (y3 - y1) (by omega) (by omega) (by omega) (by omega)
  have k2 := key (y2 - y1) (x3 - x1) (by omega) (by omega) (by omega) (by omega)
  omega
end DM

namespace DM
open PySem L2
theorem dp_ints {K : PySem.W.Frag} {H : Hp} {p : Addr} {x y : Int} (h : H p = some (.lst [.int x, .int y])) : Dp K H (.ref p) (.list [.int x, .int y]) := .lst (SqL.of h) (.cons (.int x) (.cons (.int y) .nil))
theorem eqv_ints (a b c d : Int) : PyData.eqv (.list [.int a, .int b]) (.list [.int c, .int d]) = decide (a = c ∧ b = d) := by
  simp only [PyData.eqv, PyData.eqvAll, Bool.and_true, Bool.decide_and]
  rfl
theorem shaped_ints (a b : Int) : SeqAt.shaped (.list [.int a, .int b]) = true := by
  first | rfl | simp [SeqAt.shaped, PyData.canLay0, PyData.depth]
section
variable {P : Program} {w : World} {K : PySem.W.Frag} {mg : Str → Option Value} {base : Heap} {f : Addr} {fd : FuncData}
abbrev s_meet : Stmt := top 59
theorem sc_meet : FnScope ["_law_one", "_law_other", "_law_ends", "_law_left", "_law_right", "_law_low_here", "_law_high", "_law_whole", "_law_x"] ["_law_one", "_law_other"] (defScope s_meet) := ⟨rfl, rfl, rfl, by decide +kernel, rfl, by decide +kernel, by decide +kernel⟩
theorem ok_meet (B : Blt mg) (c_cross : Cal P w K mg base 1 "_law_cross" ["_law_one", "_law_two", "_law_three"] (spCross K)) (c_low : Cal P w K mg base 2 "_law_low" ["_law_over", "_law_under"] spLowN) (F : Fun K "_law_meet" "_law_meet" s_meet f fd) : FnOk P w K mg base CX0 3 f fd ["_law_one", "_law_other"] spMeet := by
  refine F.ok sc_meet (fun vs H Q E h => ?_) (fun cdv A outer s H vs Q E hr h => ?_)
  · obtain ⟨p, q, x1, y1, x2, y2, u1, v1, u2, v2, rfl, _⟩ := h
    rfl
  obtain ⟨p, o, x1, y1, x2, y2, u1, v1, u2, v2, rfl, hS, hT, q⟩ := h
  have hp := hS.1
  have ho := hT.1
  have bs := hS.2.1
  have bt := hT.2.1
  refine ⟨_, (pss_cons (ps_set (i := 2) sc_meet.nd rfl (Or.inl rfl) (pe_lst (pa_cons (pe_slice sl_tup (pv 0) po_none (po_some pe_int)) (pa_cons (pe_slice sl_tup (pv 0) (po_some pe_int) po_none) (pa_cons (pe_slice sl_tup (pv 1) po_none (po_some pe_int)) (pa_cons (pe_slice sl_tup (pv 1) (po_some pe_int) po_none) pa_nil))))))
    (pss_cons (ps_set (i := 3) sc_meet.nd rfl (Or.inl rfl) (pe_lst (pa_cons (pe_cal c_cross hr (pa_cons (pe_ix ix_list (pv 2) pe_int (fun _ _ => rfl)) (pa_cons (pe_ix ix_list (pv 2) pe_int (fun _ _ => rfl)) (pa_cons (pe_ix ix_list (pv 2) pe_int (fun _ _ => rfl)) pa_nil)))) (pa_cons (pe_cal c_cross hr (pa_cons (pe_ix ix_list (pv 2) pe_int (fun _ _ => rfl)) (pa_cons (pe_ix ix_list (pv 2) pe_int (fun _ _ => rfl)) (pa_cons (pe_ix ix_list (pv 2) pe_int (fun _ _ => rfl)) pa_nil)))) pa_nil))))
    (pss_cons (ps_set (i := 4) sc_meet.nd rfl (Or.inl rfl) (pe_lst (pa_cons (pe_cal c_cross hr (pa_cons (pe_ix ix_list (pv 2) pe_int (fun _ _ => rfl)) (pa_cons (pe_ix ix_list (pv 2) pe_int (fun _ _ => rfl)) (pa_cons (pe_ix ix_list (pv 2) pe_int (fun _ _ => rfl)) pa_nil)))) (pa_cons (pe_cal c_cross hr (pa_cons (pe_ix ix_list (pv 2) pe_int (fun _ _ => rfl)) (pa_cons (pe_ix ix_list (pv 2) pe_int (fun _ _ => rfl)) (pa_cons (pe_ix ix_list (pv 2) pe_int (fun _ _ => rfl)) pa_nil)))) pa_nil))))
    (pss_cons (ps_if (pt_cmpR (op_eqD hr.units) (pv 3) (pe_lst (pa_cons pe_int (pa_cons pe_int pa_nil))) (nomark _))
    (pss_cons (ps_set (i := 5) sc_meet.nd rfl (Or.inl rfl) (pe_callB (cr_max2 rfl hr.units) rfl B.max bt_max (pa_cons (pe_callB (cr_min2 rfl hr.units) rfl B.min bt_min (pa_cons (pe_ix ix_list (pv 2) pe_int (fun _ _ => rfl)) (pa_cons (pe_ix ix_list (pv 2) pe_int (fun _ _ => rfl)) pa_nil))) (pa_cons (pe_callB (cr_min2 rfl hr.units) rfl B.min bt_min (pa_cons (pe_ix ix_list (pv 2) pe_int (fun _ _ => rfl)) (pa_cons (pe_ix ix_list (pv 2) pe_int (fun _ _ => rfl)) pa_nil))) pa_nil))))
    (pss_cons (ps_set (i := 6) sc_meet.nd rfl (Or.inl rfl) (pe_callB (cr_min2 rfl hr.units) rfl B.min bt_min (pa_cons (pe_callB (cr_max2 rfl hr.units) rfl B.max bt_max (pa_cons (pe_ix ix_list (pv 2) pe_int (fun _ _ => rfl)) (pa_cons (pe_ix ix_list (pv 2) pe_int (fun _ _ => rfl)) pa_nil))) (pa_cons (pe_callB (cr_max2 rfl hr.units) rfl B.max bt_max (pa_cons (pe_ix ix_list (pv 2) pe_int (fun _ _ => rfl)) (pa_cons (pe_ix ix_list (pv 2) pe_int (fun _ _ => rfl)) pa_nil))) pa_nil))))
    (pss_cons (ps_if (pt_cmpR (op_ltT hr.units0) (pv 5) (pv 6) (nomark _))
    (pss_one (ps_ret (pe_tup (pa_cons pe_str (pa_cons (pv 5) (pa_cons (pv 6) pa_nil))))))
    pss_nil)
    (pss_one (ps_ret (pe_ifExp (pt_cmpR (op_eqD hr.units) (pv 5) (pv 6) (nomark _)) (pe_tup (pa_cons pe_str (pa_cons (pe_tup (pa_cons (pe_tup (pa_cons (pe_ix ix_tup (pv 5) pe_int (fun _ _ => rfl)) (pa_cons pe_int pa_nil))) (pa_cons (pe_tup (pa_cons (pe_ix ix_tup (pv 5) pe_int (fun _ _ => rfl)) (pa_cons pe_int pa_nil))) pa_nil))) pa_nil))) pe_non))))))
    pss_nil)
    (pss_cons (ps_if (PW.pt (pw_or (pt_cmpR op_gt (pe_op op_mul (pe_ix ix_list (pv 3) pe_int (fun _ _ => rfl)) (pe_ix ix_list (pv 3) pe_int (fun _ _ => rfl))) pe_int (nomark _)) (pw_or1 (pt_cmpR op_gt (pe_op op_mul (pe_ix ix_list (pv 4) pe_int (fun _ _ => rfl)) (pe_ix ix_list (pv 4) pe_int (fun _ _ => rfl))) pe_int (nomark _)))))
    (pss_one (ps_ret pe_non))
    pss_nil)
    (pss_cons (ps_set (i := 7) sc_meet.nd rfl (Or.inl rfl) (pe_op op_sub (pe_ix ix_list (pv 3) pe_int (fun _ _ => rfl)) (pe_ix ix_list (pv 3) pe_int (fun _ _ => rfl))))
    (pss_cons (ps_set (i := 8) sc_meet.nd rfl (Or.inl rfl) (pe_cal c_low hr (pa_cons (pe_op op_add (pe_op op_mul (pe_ix ix_tup (pv 1) pe_int (fun _ _ => rfl)) (pv 7)) (pe_op op_mul (pe_op op_sub (pe_ix ix_tup (pv 1) pe_int (fun _ _ => rfl)) (pe_ix ix_tup (pv 1) pe_int (fun _ _ => rfl))) (pe_ix ix_list (pv 3) pe_int (fun _ _ => rfl)))) (pa_cons (pv 7) pa_nil))))
    (pss_one (ps_ret (pe_tup (pa_cons pe_str (pa_cons (pe_tup (pa_cons (pv 8) (pa_cons (pe_cal c_low hr (pa_cons (pe_op op_add (pe_op op_mul (pe_ix ix_tup (pv 1) pe_int (fun _ _ => rfl)) (pv 7)) (pe_op op_mul (pe_op op_sub (pe_ix ix_tup (pv 1) pe_int (fun _ _ => rfl)) (pe_ix ix_tup (pv 1) pe_int (fun _ _ => rfl))) (pe_ix ix_list (pv 3) pe_int (fun _ _ => rfl)))) (pa_cons (pv 7) pa_nil))) pa_nil))) pa_nil)))))))))))), ?_⟩
  -- the four ends
  refine ⟨_, rfl, _, rfl, p, _, rfl, SqT.of hp, (fun z => absurd z.2 (by show ¬ (2 = 4); decide)), fun e0 n0 => ?_⟩
  have g0 := same_new n0 (.tup [.int x1, .int y1])
  refine ⟨_, rfl, _, rfl, p, _, rfl, SqT.of (g0 _ _ hp), (fun z => absurd z.1 (by show ¬ (2 = 0); decide)), fun e1 n1 => ?_⟩
  have g1 := same_new n1 (.tup [.int x2, .int y2])
  refine ⟨_, rfl, _, rfl, o, _, rfl, SqT.of (g1 _ _ (g0 _ _ ho)), (fun z => absurd z.2 (by show ¬ (2 = 4); decide)), fun e2 n2 => ?_⟩
  have g2 := same_new n2 (.tup [.int u1, .int v1])
  refine ⟨_, rfl, _, rfl, o, _, rfl, SqT.of (g2 _ _ (g1 _ _ (g0 _ _ ho))), (fun z => absurd z.1 (by show ¬ (2 = 0); decide)), fun e3 n3 => ?_⟩
  have g3 := same_new n3 (.tup [.int u2, .int v2])
  refine ⟨sz (by decide : 4 ≤ 100000), fun el nl => ?_⟩
  have gl := same_new nl (.lst [.ref e0, .ref e1, .ref e2, .ref e3])
  have k0 : Pt _ e0 x1 y1 := ⟨gl _ _ (g3 _ _ (g2 _ _ (g1 _ _ upd_same))), by omega⟩
  have k1 : Pt _ e1 x2 y2 := ⟨gl _ _ (g3 _ _ (g2 _ _ upd_same)), by omega⟩
  have k2 : Pt _ e2 u1 v1 := ⟨gl _ _ (g3 _ _ upd_same), by omega⟩
  have k3 : Pt _ e3 u2 v2 := ⟨gl _ _ upd_same, by omega⟩
  have kl := new_at gl
  have gA := g0.trans (g1.trans (g2.trans (g3.trans gl)))
  have ho := gA _ _ ho
  -- sides
  refine ⟨_, rfl, el, _, _, _, rfl, rfl, SqL.of kl, rfl, _, rfl, el, _, _, _, rfl, rfl, SqL.of kl, rfl, _, rfl, el, _, _, _, rfl, rfl, SqL.of kl, rfl, e0, e1, e2, x1, y1, x2, y2, u1, v1, rfl, k0, k1, k2, ?_⟩
  refine ⟨_, rfl, el, _, _, _, rfl, rfl, SqL.of kl, rfl, _, rfl, el, _, _, _, rfl, rfl, SqL.of kl, rfl, _, rfl, el, _, _, _, rfl, rfl, SqL.of kl, rfl, e0, e1, e3, x1, y1, x2, y2, u2, v2, rfl, k0, k1, k3, ?_⟩
  refine ⟨sz (by decide : 2 ≤ 100000), fun ll nll => ?_⟩
  have gll := same_new nll (.lst [.int (crs x1 y1 x2 y2 u1 v1), .int (crs x1 y1 x2 y2 u2 v2)])
  have c0 := k0.same gll
  have c1 := k1.same gll
  have c2 := k2.same gll
  have c3 := k3.same gll
  have cl := gll _ _ kl
  refine ⟨_, rfl, el, _, _, _, rfl, rfl, SqL.of cl, rfl, _, rfl, el, _, _, _, rfl, rfl, SqL.of cl, rfl, _, rfl, el, _, _, _, rfl, rfl, SqL.of cl, rfl, e2, e3, e0, u1, v1, u2, v2, x1, y1, rfl, c2, c3, c0, ?_⟩
  refine ⟨_, rfl, el, _, _, _, rfl, rfl, SqL.of cl, rfl, _, rfl, el, _, _, _, rfl, rfl, SqL.of cl, rfl, _, rfl, el, _, _, _, rfl, rfl, SqL.of cl, rfl, e2, e3, e1, u1, v1, u2, v2, x2, y2, rfl, c2, c3, c1, ?_⟩
  refine ⟨sz (by decide : 2 ≤ 100000), fun rl nrl => ?_⟩
  have grl := same_new nrl (.lst [.int (crs u1 v1 u2 v2 x1 y1), .int (crs u1 v1 u2 v2 x2 y2)])
  have hll := grl _ _ (new_at gll)
  have hrl := new_at grl
  have f0 := c0.same grl
  have f1 := c1.same grl
  have f2 := c2.same grl
  have f3 := c3.same grl
  have fl := grl _ _ cl
  have ho := grl _ _ (gll _ _ ho)
  have gB := gA.trans (gll.trans grl)
  have b0 := crs_small (x1 := x1) (y1 := y1) (x2 := x2) (y2 := y2) (x3 := u1) (y3 := v1) (by omega) (by omega) (by omega)
  have b1 := crs_small (x1 := x1) (y1 := y1) (x2 := x2) (y2 := y2) (x3 := u2) (y3 := v2) (by omega) (by omega) (by omega)
  have b2 := crs_small (x1 := u1) (y1 := v1) (x2 := u2) (y2 := v2) (x3 := x1) (y3 := y1) (by omega) (by omega) (by omega)
  unfold meetL at q
  dsimp only at q
  -- on one line?
  refine ⟨_, rfl, sz (by decide : 2 ≤ 100000), fun zl nzl => ?_⟩
  have gz := same_new nzl (.lst [.int 0, .int 0])
  refine ⟨_, _, dp_ints (gz _ _ hll), dp_ints upd_same, shaped_ints _ _, shaped_ints _ _, _, rfl, ?_⟩
  rw [eqv_ints]
  have i0 := f0.same gz
  have i1 := f1.same gz
  have i2 := f2.same gz
  have i3 := f3.same gz
  have il := gz _ _ fl
  have hll := gz _ _ hll
  have hrl := gz _ _ hrl
  have ho := gz _ _ ho
  have gC := gB.trans gz
  by_cases c : crs x1 y1 x2 y2 u1 v1 = 0 ∧ crs x1 y1 x2 y2 u2 v2 = 0
  · refine iteDT c ?_
    rw [if_pos c] at q
    refine ⟨_, rfl, el, _, _, _, rfl, rfl, SqL.of il, rfl, _, rfl, el, _, _, _, rfl, rfl, SqL.of il, rfl, e0, e1, x1, y1, x2, y2, rfl, SqT.of i0.1, SqT.of i1.1, ?_⟩
    refine ⟨_, rfl, el, _, _, _, rfl, rfl, SqL.of il, rfl, _, rfl, el, _, _, _, rfl, rfl, SqL.of il, rfl, e2, e3, u1, v1, u2, v2, rfl, SqT.of i2.1, SqT.of i3.1, ?_⟩
    have m1 := min_at (a := (x1, y1)) (b := (x2, y2)) i0.1 i1.1
    have m2 := min_at (a := (u1, v1)) (b := (u2, v2)) i2.1 i3.1
    have M1 := max_at (a := (x1, y1)) (b := (x2, y2)) i0.1 i1.1
    have M2 := max_at (a := (u1, v1)) (b := (u2, v2)) i2.1 i3.1
    refine ⟨_, _, _, _, _, _, rfl, SqT.of m1, SqT.of m2, ?_⟩
    have hlo := max_at m1 m2
    refine ⟨_, rfl, el, _, _, _, rfl, rfl, SqL.of il, rfl, _, rfl, el, _, _, _, rfl, rfl, SqL.of il, rfl, e0, e1, x1, y1, x2, y2, rfl, SqT.of i0.1, SqT.of i1.1, ?_⟩
    refine ⟨_, rfl, el, _, _, _, rfl, rfl, SqL.of il, rfl, _, rfl, el, _, _, _, rfl, rfl, SqL.of il, rfl, e2, e3, u1, v1, u2, v2, rfl, SqT.of i2.1, SqT.of i3.1, ?_⟩
    refine ⟨_, _, _, _, _, _, rfl, SqT.of M1, SqT.of M2, ?_⟩
    have hhi := min_at M1 M2
    generalize maxP (minP (x1, y1) (x2, y2)) (minP (u1, v1) (u2, v2)) = lo at *
    generalize minP (maxP (x1, y1) (x2, y2)) (maxP (u1, v1) (u2, v2)) = hi at *
    refine ⟨_, rfl, _, rfl, _, _, [lo.1, lo.2], [hi.1, hi.2], rfl, rfl, SqT.of hlo, SqT.of hhi, _, rfl, ?_⟩
    rw [lex_pair]
    by_cases d : ltP lo.1 lo.2 hi.1 hi.2
    · refine iteDT d ?_
      rw [if_pos d] at q
      refine ⟨_, rfl, _, rfl, sz (by decide : 3 ≤ 100000), fun r nr => ?_⟩
      exact q (.ref r) _ (gC.trans (same_new nr _)) ⟨r, _, _, rfl, upd_same, same_new nr _ _ _ hlo, same_new nr _ _ _ hhi⟩
    · refine iteDF d ?_
      rw [if_neg d] at q
      refine ⟨_, rfl, _, rfl, _, _, dp_pair hlo, dp_pair hhi, shaped_pair _ _, shaped_pair _ _, _, rfl, ?_⟩
      rw [eqv_pair]
      by_cases d' : lo.1 = hi.1 ∧ lo.2 = hi.2
      · refine iteDT d' ?_
        rw [if_pos d'] at q
        refine ⟨_, rfl, _, _, _, _, rfl, rfl, SqT.of hlo, rfl, sz (by decide : 2 ≤ 100000), fun r1 n1 => ?_⟩
        refine ⟨_, rfl, _, _, _, _, rfl, rfl, SqT.of (same_new n1 _ _ _ hlo), rfl, sz (by decide : 2 ≤ 100000), fun r2 n2 => ?_⟩
        refine ⟨sz (by decide : 2 ≤ 100000), fun r3 n3 => ⟨sz (by decide : 2 ≤ 100000), fun r4 n4 => ?_⟩⟩
        exact q (.ref r4) _ (gC.trans ((same_new n1 _).trans ((same_new n2 _).trans ((same_new n3 _).trans (same_new n4 _))))) ⟨r4, r3, r1, r2, rfl, upd_same, same_new n4 _ _ _ upd_same, same_new n4 _ _ _ (same_new n3 _ _ _ (same_new n2 _ _ _ upd_same)), same_new n4 _ _ _ (same_new n3 _ _ _ upd_same)⟩
      · refine iteDF d' ?_
        rw [if_neg d'] at q
        exact q _ _ gC rfl
  · refine iteDF c ?_
    rw [if_neg c] at q
    refine ⟨_, rfl, ll, _, _, _, rfl, rfl, SqL.of hll, rfl, _, rfl, ll, _, _, _, rfl, rfl, SqL.of hll, rfl, _, _, rfl, rfl, .inl ⟨by omega, by omega⟩, _, _, rfl, rfl, _, rfl, ?_⟩
    by_cases d1 : crs x1 y1 x2 y2 u1 v1 * crs x1 y1 x2 y2 u2 v2 > 0
    · refine iteDT d1 (iteT ?_)
      rw [if_pos (Or.inl d1)] at q
      exact q _ _ gC rfl
    · refine iteDF d1 ?_
      refine ⟨_, rfl, rl, _, _, _, rfl, rfl, SqL.of hrl, rfl, _, rfl, rl, _, _, _, rfl, rfl, SqL.of hrl, rfl, _, _, rfl, rfl, .inl ⟨by omega, by omega⟩, _, _, rfl, rfl, _, rfl, ?_⟩
      by_cases d2 : crs u1 v1 u2 v2 x1 y1 * crs u1 v1 u2 v2 x2 y2 > 0
      · refine iteDT d2 ?_
        rw [if_pos (Or.inr d2)] at q
        exact q _ _ gC rfl
      · refine iteDF d2 ?_
        rw [if_neg (fun z => z.elim d1 d2)] at q
        generalize crs x1 y1 x2 y2 u1 v1 = l0 at *
        generalize crs x1 y1 x2 y2 u2 v2 = l1 at *
        have hw : l0 - l1 ≠ 0 := fun z => by
          have e : l0 = l1 := by omega
          subst e
          by_cases y : l0 = 0
          · exact c ⟨y, y⟩
          · rcases Int.lt_or_lt_of_ne y with y | y
            · exact d1 (Int.mul_pos_of_neg_of_neg y y)
            · exact d1 (Int.mul_pos y y)
        have hwb : (l0 - l1).natAbs ≤ 1000000000 := by omega
        refine ⟨_, rfl, ll, _, _, _, rfl, rfl, SqL.of hll, rfl, _, rfl, ll, _, _, _, rfl, rfl, SqL.of hll, rfl, _, _, rfl, rfl, ?_⟩
        refine ⟨_, rfl, o, _, _, _, rfl, rfl, SqT.of ho, rfl, _, rfl, _, _, rfl, rfl, .inl ⟨by omega, by omega⟩, _, rfl, o, _, _, _, rfl, rfl, SqT.of ho, rfl, _, rfl, o, _, _, _, rfl, rfl, SqT.of ho, rfl, _, _, rfl, rfl, _, rfl, ll, _, _, _, rfl, rfl, SqL.of hll, rfl, _, _, rfl, rfl, .inl ⟨by omega, by omega⟩, _, _, rfl, rfl, _, rfl, _, _, rfl, hw, hwb, fun px H3 s3 h3 => ?_⟩
        have ho3 := s3 _ _ ho
        have hll3 := s3 _ _ hll
        refine ⟨_, rfl, _, rfl, o, _, _, _, rfl, rfl, SqT.of ho3, rfl, _, rfl, _, _, rfl, rfl, .inl ⟨by omega, by omega⟩, _, rfl, o, _, _, _, rfl, rfl, SqT.of ho3, rfl, _, rfl, o, _, _, _, rfl, rfl, SqT.of ho3, rfl, _, _, rfl, rfl, _, rfl, ll, _, _, _, rfl, rfl, SqL.of hll3, rfl, _, _, rfl, rfl, .inl ⟨by omega, by omega⟩, _, _, rfl, rfl, _, rfl, _, _, rfl, hw, hwb, fun py H4 s4 h4 => ?_⟩
        refine ⟨sz (by decide : 2 ≤ 100000), fun r3 n3 => ⟨sz (by decide : 2 ≤ 100000), fun r4 n4 => ?_⟩⟩
        exact q (.ref r4) _ (gC.trans (s3.trans (s4.trans ((same_new n3 _).trans (same_new n4 _))))) ⟨r4, r3, px, py, rfl, upd_same, same_new n4 _ _ _ upd_same, same_new n4 _ _ _ (same_new n3 _ _ _ (s4 _ _ h3)), same_new n4 _ _ _ (same_new n3 _ _ _ h4)⟩
end
end DM

namespace DM
/-! ### either way about, turned about -/
theorem minP_comm (p q : Int × Int) : minP p q = minP q p := by
  obtain ⟨a, b⟩ := p
  obtain ⟨c, d⟩ := q
  unfold minP; dsimp only
  by_cases h1 : ltP c d a b
  · rw [if_pos h1, if_neg (show ¬ ltP a b c d by unfold ltP at *; omega)]
  · rw [if_neg h1]
    by_cases h2 : ltP a b c d
    · rw [if_pos h2]
    · rw [if_neg h2]
      unfold ltP at h1 h2
      rw [show a = c by omega, show b = d by omega]
theorem maxP_comm (p q : Int × Int) : maxP p q = maxP q p := by
  obtain ⟨a, b⟩ := p
  obtain ⟨c, d⟩ := q
  unfold maxP; dsimp only
  by_cases h1 : ltP a b c d
  · rw [if_pos h1, if_neg (show ¬ ltP c d a b by unfold ltP at *; omega)]
  · rw [if_neg h1]
    by_cases h2 : ltP c d a b
    · rw [if_pos h2]
    · rw [if_neg h2]
      unfold ltP at h1 h2
      rw [show a = c by omega, show b = d by omega]
theorem line_swap {x1 y1 x2 y2 u1 v1 u2 v2 : Int} (hne : ¬ (x1 = x2 ∧ y1 = y2)) (h0 : crs x1 y1 x2 y2 u1 v1 = 0) (h1 : crs x1 y1 x2 y2 u2 v2 = 0) : crs u1 v1 u2 v2 x1 y1 = 0 ∧ crs u1 v1 u2 v2 x2 y2 = 0 := by
  have key : (u2 - x1) * (v1 - y1) - (v2 - y1) * (u1 - x1) = 0 := by
    unfold crs at h0 h1
    have hab : ¬ (x2 - x1 = 0 ∧ y2 - y1 = 0) := fun z => hne (by omega)
    generalize x2 - x1 = a at *
    generalize y2 - y1 = b at *
    generalize u1 - x1 = s at *
    generalize v1 - y1 = t at *
    generalize u2 - x1 = m at *
    generalize v2 - y1 = n at *
    have e0 : a * t = b * s := by omega
    have e1 : a * n = b * m := by omega
    by_cases ha : a = 0
    · subst ha
      rw [Int.zero_mul] at e0 e1
      have hb : b ≠ 0 := fun z => hab ⟨rfl, z⟩
      have s0 : s = 0 := (Int.mul_eq_zero.mp e0.symm).resolve_left hb
      have m0 : m = 0 := (Int.mul_eq_zero.mp e1.symm).resolve_left hb
      rw [s0, m0, Int.zero_mul, Int.mul_zero]
      rfl
    · have k : a * (m * t - n * s) = 0 := by
        rw [Int.mul_sub]
        have f1 : a * (m * t) = m * (a * t) := by simp only [Int.mul_left_comm]
        have f2 : a * (n * s) = (a * n) * s := by rw [Int.mul_assoc]
        rw [f1, f2, e0, e1]
        have f3 : m * (b * s) = b * m * s := by rw [Int.mul_left_comm, Int.mul_assoc]
        omega
      exact (Int.mul_eq_zero.mp k).resolve_left ha
  have r0 : crs u1 v1 u2 v2 x1 y1 = 0 := by
    have e : crs u1 v1 u2 v2 x1 y1 = - ((u2 - x1) * (v1 - y1) - (v2 - y1) * (u1 - x1)) := by
      unfold crs
      simp only [Int.sub_mul, Int.mul_sub, Int.mul_comm]
      omega
    rw [e, key]
    rfl
  refine ⟨r0, ?_⟩
  have e : crs u1 v1 u2 v2 x2 y2 = crs u1 v1 u2 v2 x1 y1 + crs x1 y1 x2 y2 u1 v1 - crs x1 y1 x2 y2 u2 v2 := by
    unfold crs
    simp only [Int.sub_mul, Int.mul_sub, Int.mul_comm]
    omega
  rw [e, r0, h0, h1]
  rfl
theorem w_ne {l0 l1 : Int} (c : ¬ (l0 = 0 ∧ l1 = 0)) (d : ¬ l0 * l1 > 0) : l0 - l1 ≠ 0 := fun z => by
  have e : l0 = l1 := by omega
  subst e
  by_cases y : l0 = 0
  · exact c ⟨y, y⟩
  · rcases Int.lt_or_lt_of_ne y with y | y
    · exact d (Int.mul_pos_of_neg_of_neg y y)
    · exact d (Int.mul_pos y y)
/-- the same place from either stroke -/
theorem cross_x (x1 y1 x2 y2 u1 v1 u2 v2 : Int) : (x1 * (crs u1 v1 u2 v2 x1 y1 - crs u1 v1 u2 v2 x2 y2) + (x2 - x1) * crs u1 v1 u2 v2 x1 y1) = - (u1 * (crs x1 y1 x2 y2 u1 v1 - crs x1 y1 x2 y2 u2 v2) + (u2 - u1) * crs x1 y1 x2 y2 u1 v1) := by
  unfold crs
  simp only [Int.sub_mul, Int.mul_sub, Int.mul_assoc, Int.mul_comm, Int.mul_left_comm]
  omega
theorem cross_y (x1 y1 x2 y2 u1 v1 u2 v2 : Int) : (y1 * (crs u1 v1 u2 v2 x1 y1 - crs u1 v1 u2 v2 x2 y2) + (y2 - y1) * crs u1 v1 u2 v2 x1 y1) = - (v1 * (crs x1 y1 x2 y2 u1 v1 - crs x1 y1 x2 y2 u2 v2) + (v2 - v1) * crs x1 y1 x2 y2 u1 v1) := by
  unfold crs
  simp only [Int.sub_mul, Int.mul_sub, Int.mul_assoc, Int.mul_comm, Int.mul_left_comm]
  omega
theorem cross_w (x1 y1 x2 y2 u1 v1 u2 v2 : Int) : crs u1 v1 u2 v2 x1 y1 - crs u1 v1 u2 v2 x2 y2 = - (crs x1 y1 x2 y2 u1 v1 - crs x1 y1 x2 y2 u2 v2) := by
  unfold crs
  simp only [Int.sub_mul, Int.mul_sub, Int.mul_comm]
  omega
theorem meet_swap {x1 y1 x2 y2 u1 v1 u2 v2 : Int} (hne : ¬ (x1 = x2 ∧ y1 = y2)) (hne' : ¬ (u1 = u2 ∧ v1 = v2)) : meetL u1 v1 u2 v2 x1 y1 x2 y2 = meetL x1 y1 x2 y2 u1 v1 u2 v2 := by
  unfold meetL
  dsimp only
  by_cases c : crs x1 y1 x2 y2 u1 v1 = 0 ∧ crs x1 y1 x2 y2 u2 v2 = 0
  · rw [if_pos c, if_pos (line_swap hne c.1 c.2), maxP_comm (minP (u1, v1) (u2, v2)), minP_comm (maxP (u1, v1) (u2, v2))]
  · have c' : ¬ (crs u1 v1 u2 v2 x1 y1 = 0 ∧ crs u1 v1 u2 v2 x2 y2 = 0) := fun z => c (line_swap hne' z.1 z.2)
    rw [if_neg c, if_neg c']
    by_cases d : crs x1 y1 x2 y2 u1 v1 * crs x1 y1 x2 y2 u2 v2 > 0 ∨ crs u1 v1 u2 v2 x1 y1 * crs u1 v1 u2 v2 x2 y2 > 0
    · rw [if_pos d, if_pos d.symm]
    · rw [if_neg d, if_neg (fun z => d z.symm)]
      have w0 := w_ne c (fun z => d (.inl z))
      rw [cross_x x1 y1 x2 y2 u1 v1 u2 v2, cross_y x1 y1 x2 y2 u1 v1 u2 v2, cross_w x1 y1 x2 y2 u1 v1 u2 v2]
      have n1 := low_neg (u1 * (crs x1 y1 x2 y2 u1 v1 - crs x1 y1 x2 y2 u2 v2) + (u2 - u1) * crs x1 y1 x2 y2 u1 v1) _ w0
      have n2 := low_neg (v1 * (crs x1 y1 x2 y2 u1 v1 - crs x1 y1 x2 y2 u2 v2) + (v2 - v1) * crs x1 y1 x2 y2 u1 v1) _ w0
      rw [n1.1, n1.2, n2.1, n2.2]
theorem crs_rev (x1 y1 x2 y2 u v : Int) : crs x2 y2 x1 y1 u v = - crs x1 y1 x2 y2 u v := by
  unfold crs
  simp only [Int.sub_mul, Int.mul_sub, Int.mul_comm]
  omega
theorem meet_rev (x1 y1 x2 y2 u1 v1 u2 v2 : Int) : meetL x2 y2 x1 y1 u1 v1 u2 v2 = meetL x1 y1 x2 y2 u1 v1 u2 v2 := by
  unfold meetL
  dsimp only
  rw [crs_rev, crs_rev x1 y1 x2 y2 u2 v2, minP_comm (x2, y2), maxP_comm (x2, y2)]
  by_cases c : crs x1 y1 x2 y2 u1 v1 = 0 ∧ crs x1 y1 x2 y2 u2 v2 = 0
  · rw [if_pos c, if_pos (by omega)]
  · rw [if_neg c, if_neg (by omega), Int.neg_mul_neg, Int.mul_comm (crs u1 v1 u2 v2 x2 y2)]
    by_cases d : crs x1 y1 x2 y2 u1 v1 * crs x1 y1 x2 y2 u2 v2 > 0 ∨ crs u1 v1 u2 v2 x1 y1 * crs u1 v1 u2 v2 x2 y2 > 0
    · rw [if_pos d, if_pos d]
    · rw [if_neg d, if_neg d]
      have w0 := w_ne c (fun z => d (.inl z))
      have e : ∀ a b : Int, a * (-crs x1 y1 x2 y2 u1 v1 - -crs x1 y1 x2 y2 u2 v2) + b * -crs x1 y1 x2 y2 u1 v1 = -(a * (crs x1 y1 x2 y2 u1 v1 - crs x1 y1 x2 y2 u2 v2) + b * crs x1 y1 x2 y2 u1 v1) := fun a b => by
        rw [show -crs x1 y1 x2 y2 u1 v1 - -crs x1 y1 x2 y2 u2 v2 = -(crs x1 y1 x2 y2 u1 v1 - crs x1 y1 x2 y2 u2 v2) by omega, Int.mul_neg, Int.mul_neg]
        omega
      rw [e, e, show -crs x1 y1 x2 y2 u1 v1 - -crs x1 y1 x2 y2 u2 v2 = -(crs x1 y1 x2 y2 u1 v1 - crs x1 y1 x2 y2 u2 v2) by omega]
      have n1 := low_neg (u1 * (crs x1 y1 x2 y2 u1 v1 - crs x1 y1 x2 y2 u2 v2) + (u2 - u1) * crs x1 y1 x2 y2 u1 v1) _ w0
      have n2 := low_neg (v1 * (crs x1 y1 x2 y2 u1 v1 - crs x1 y1 x2 y2 u2 v2) + (v2 - v1) * crs x1 y1 x2 y2 u1 v1) _ w0
      rw [n1.1, n1.2, n2.1, n2.2]
end DM

namespace DM
open PySem L2
/-! ### a def called with its defaults left out -/
def CalD (P : Program) (w : World) (K : PySem.W.Frag) (mg : Str → Option Value) (base : Heap) (k : Nat) (x : Str) (ps : List Str) (sp : Sp) (dvs : List V) : Prop :=
  ∃ (f : Addr) (fd : FuncData) (ds : List Value), FnOk P w K mg base CX0 k f fd ps sp ∧ Binds K fd ps ds ∧ Vals dvs ds ∧ PySem.W.keepIn K (.ref f) = true ∧ mg x = some (.ref f)
theorem pe_calD {X : Cx} {k k' : Nat} {x : Str} {ps : List Str} {sp : Sp} {dvs : List V} {e : Expr} {es : List Expr} {t : TA} {p pos : Pos} (C : CalD X.prog X.w X.K X.mg X.base k x ps sp dvs) (hr : Room k' X.A) (ha : PA X (e :: es) t)
    (hk : k ≤ k' := by decide) (hg : Gl X x := by rfl) (hdb : (x == ("__debug__" : Str)) = false := by decide) (he : starEach (e :: es) X.env = (false, eval e X.env) :: starEach es X.env := by rfl) (hpl : (backTo pos (starEach es X.env)).any (·.1) = false := by rfl) :
    PE X (.Call (.Name x p) (e :: es) [] pos) (tCall sp dvs E0 t) := by
  obtain ⟨f, fd, ds, F, b, v, kp, hm⟩ := C
  exact pe_call F (hr.mono hk) hg hm kp b v pass0 ha hdb he hpl
end DM

namespace DM
open PySem L2
section
variable {P : Program} {w : World} {K : PySem.W.Frag} {mg : Str → Option Value} {base : Heap} {f : Addr} {fd : FuncData}
abbrev s_common_measure : Stmt := top 6
theorem sc_common_measure : FnScope ["one", "other"] ["one", "other"] (defScope s_common_measure) := ⟨rfl, rfl, rfl, by decide +kernel, rfl, by decide +kernel, by decide +kernel⟩
theorem ok_common_measure (F : Fun K "common_measure" "common_measure" s_common_measure f fd) : FnOk P w K mg base CX0 1 f fd ["one", "other"] spGcd := by
  refine F.ok sc_common_measure (fun vs H Q E h => ?_) (fun cdv A outer s H vs Q E hr h => ?_)
  · obtain ⟨a, b, rfl, _⟩ := h
    rfl
  obtain ⟨a, b, rfl, ha, hb, q⟩ := h
  refine ⟨_, (pss_cons (ps_while PassesOwn.never (pt_cmpR op_ne (pv 1) pe_int (nomark _))
    (pss_one (ps_par (i := 0) (j := 1) (by rfl) sc_common_measure.nd rfl rfl (by decide) rfl rfl (pa_cons (pv 1) (pa_cons (pe_op op_mod (pv 0) (pv 1)) pa_nil)) (by rfl))))
    (pss_one (ps_ret (pv 0)))), ?_⟩
  refine while_by (fun σ H' => H' = H ∧ ∃ x y : Int, σ = [some (.int x), some (.int y)] ∧ 0 ≤ x ∧ 0 ≤ y ∧ Int.gcd x y = Int.gcd a b) (fun σ _ => match σ with | [_, some (.int y)] => y.toNat | _ => 0) ⟨rfl, a, b, rfl, ha, hb, rfl⟩ ?_ ?_
  · rintro σ H' ⟨rfl, x, y, rfl, hx, hy, hg⟩
    refine ⟨_, rfl, rfl, _, rfl, ?_⟩
    by_cases c : y = 0
    · subst c
      refine iteNS rfl ?_
      refine ⟨_, rfl, ?_⟩
      have e := gcd_end hx
      rw [hg] at e
      rw [e] at q
      exact q
    · have c' : ¬ V.int y = V.int 0 := fun z => c (V.int.inj z)
      have e1 : (!decide (V.int y = V.int 0)) = true := by rw [decide_eq_false c']; rfl
      refine if_pos' e1 ?_
      have hy' : 0 < y := by omega
      refine ⟨_, rfl, _, rfl, _, rfl, _, _, rfl, rfl, hy', _, _, rfl, ?_⟩
      refine ⟨⟨rfl, y, x % y, rfl, hy, Int.emod_nonneg _ c, ?_⟩, ?_⟩
      · rw [gcd_step hx hy']
        exact hg
      · show (x % y).toNat < y.toNat
        have := Int.emod_lt_of_pos x hy'
        omega
  · rintro σ H Q Q' hq ⟨v, h1, h2, k, h3, h4⟩
    exact ⟨v, h1, h2, k, h3, hq _ _ h4⟩
abbrev s_lowest : Stmt := top 7
theorem sc_lowest : FnScope ["over", "under", "measure"] ["over", "under"] (defScope s_lowest) := ⟨rfl, rfl, rfl, by decide +kernel, rfl, by decide +kernel, by decide +kernel⟩
theorem low_body (B : Blt mg) (c_common_measure : Cal P w K mg base 1 "common_measure" ["one", "other"] spGcd) {a b : Int} {cdv : Value} {A : Around} {outer : List Env} {s : Shared} {H : Hp} {Q : VK} {E : XK} (hr : Room 1 (A.deeper (PyProof.Rows.envOfC "lowest" (defScope s_lowest) s.heap.objs.size f cdv))) (hb0 : b ≠ 0) (hb1 : b.natAbs < 4611686018427387904)
    (q : ∀ (p : Addr) (H' : Hp), Same H H' → H' p = some (.tup [.int (lowA a b), .int (lowB a b)]) → Q (.ref p) H') :
    ∃ t, PSs (cxOf CX0 P w K mg base ["over", "under", "measure"] "lowest" (defScope s_lowest) f cdv A outer s H E).nox (defBody s_lowest) t ∧ t { nx := fun _ H' => Q .non H', rt := Q } (start ["over", "under", "measure"] [.int a, .int b]) H := by
  refine ⟨_, (pss_cons (ps_if (pt_cmpR op_eq (pv 1) pe_int (nomark _))
    (pss_one ps_never)
    pss_nil)
    (pss_cons (ps_if (pt_cmpR op_lt (pv 1) pe_int (nomark _))
    (pss_one (ps_par (i := 0) (j := 1) (by rfl) sc_lowest.nd rfl rfl (by decide) rfl rfl (pa_cons (pe_un un_neg (pv 0)) (pa_cons (pe_un un_neg (pv 1)) pa_nil)) (by rfl)))
    pss_nil)
    (pss_cons (ps_set (i := 2) sc_lowest.nd rfl (Or.inl rfl) (pe_cal c_common_measure hr (pa_cons (pe_callB call_abs rfl B.abs bt_abs (pa_cons (pv 0) pa_nil)) (pa_cons (pv 1) pa_nil))))
    (pss_one (ps_ret (pe_tup (pa_cons (pe_op op_fdivW (pv 0) (pv 2)) (pa_cons (pe_op op_fdivW (pv 1) (pv 2)) pa_nil)))))))), ?_⟩
  have c0 : ¬ V.int b = V.int 0 := fun z => hb0 (V.int.inj z)
  refine ⟨_, rfl, rfl, _, rfl, ?_⟩
  refine iteDF c0 ?_
  dsimp only [tNext]
  refine seq_with (fun σ' H' => H' = H ∧ σ' = [some (.int (if b < 0 then -a else a)), some (.int (if b < 0 then -b else b)), none]) (fun R hR => ?_) ?_
  · refine ⟨_, rfl, _, _, rfl, rfl, _, rfl, ?_⟩
    refine ite2 (fun c => ?_) (fun c => ?_)
    · have c' : b < 0 := of_decide_eq_true c
      refine ⟨_, rfl, _, rfl, _, rfl, _, rfl, _, _, rfl, hR _ _ ⟨rfl, ?_⟩⟩
      rw [if_pos c', if_pos c']
      rfl
    · have c' : ¬ b < 0 := of_decide_eq_false (Bool.eq_false_iff.mpr c)
      refine hR _ _ ⟨rfl, ?_⟩
      rw [if_neg c', if_neg c']
      rfl
  · rintro σ H' ⟨rfl, rfl⟩
    have h1 : 0 ≤ (if (if b < 0 then -a else a) < 0 then -(if b < 0 then -a else a) else (if b < 0 then -a else a)) := by split <;> omega
    have h2 : 0 ≤ (if b < 0 then -b else b) := by split <;> omega
    have e : Int.gcd (if (if b < 0 then -a else a) < 0 then -(if b < 0 then -a else a) else (if b < 0 then -a else a)) (if b < 0 then -b else b) = Int.gcd a b := by
      rw [gcd_abs1]
      split <;> simp only [Int.neg_gcd, Int.gcd_neg]
    refine ⟨_, rfl, _, rfl, _, rfl, _, _, rfl, h1, h2, ?_⟩
    refine ⟨_, rfl, _, rfl, _, _, rfl, rfl, ?_, _, rfl, _, rfl, _, _, rfl, rfl, ?_, sz (by decide : 2 ≤ 100000), fun p hp => ?_⟩
    · rw [e]; exact gcd_wide hb0 hb1
    · rw [e]; exact gcd_wide hb0 hb1
    · refine q p _ (same_new hp _) ?_
      rw [upd_same]
      unfold lowA lowB
      rw [e]
theorem ok_lowest (B : Blt mg) (c_common_measure : Cal P w K mg base 1 "common_measure" ["one", "other"] spGcd) {dvs : List V} {kws : List (Str × V)} (F : FunD K "lowest" "lowest" (defArgs s_lowest) (defBody s_lowest) (defScope s_lowest) dvs kws f fd) : FnOk P w K mg base CX0 2 f fd ["over", "under"] spLow := by
  refine F.ok sc_lowest (fun vs H Q E h => ?_) (fun cdv A outer s H vs Q E hr h => ?_)
  · obtain ⟨a, b, rfl, _⟩ := h
    rfl
  obtain ⟨a, b, rfl, hb0, hb1, q⟩ := h
  obtain ⟨t, z1, z2⟩ := low_body (P := P) (w := w) (base := base) B c_common_measure hr hb0 hb1 q
  exact ⟨t, z1.nox, z2⟩
end
end DM

namespace DM
/-! ### the program's own meeting, its mathematics -/
section
variable {x1 y1 x2 y2 u1 v1 u2 v2 : Int}
theorem mp_area (x1 y1 x2 y2 u1 v1 u2 v2 : Int) : (x2 - x1) * (v2 - v1) - (y2 - y1) * (u2 - u1) = crs u1 v1 u2 v2 x1 y1 - crs u1 v1 u2 v2 x2 y2 := by
  unfold crs
  simp only [Int.sub_mul, Int.mul_sub, Int.mul_comm]
  omega
theorem mp_one (x1 y1 u1 v1 u2 v2 : Int) : (u1 - x1) * (v2 - v1) - (v1 - y1) * (u2 - u1) = crs u1 v1 u2 v2 x1 y1 := by
  unfold crs
  simp only [Int.sub_mul, Int.mul_sub, Int.mul_comm]
  omega
theorem mp_other (x1 y1 x2 y2 u1 v1 : Int) : (u1 - x1) * (y2 - y1) - (v1 - y1) * (x2 - x1) = - crs x1 y1 x2 y2 u1 v1 := by
  unfold crs
  simp only [Int.sub_mul, Int.mul_sub, Int.mul_comm]
  omega
theorem line_same (h : (x2 - x1) * (v2 - v1) - (y2 - y1) * (u2 - u1) = 0) : crs x1 y1 x2 y2 u1 v1 = crs x1 y1 x2 y2 u2 v2 := by
  have a := mp_area x1 y1 x2 y2 u1 v1 u2 v2
  have b := cross_w x1 y1 x2 y2 u1 v1 u2 v2
  omega
theorem mp_apart (h : (x2 - x1) * (v2 - v1) - (y2 - y1) * (u2 - u1) = 0) (h' : (u1 - x1) * (y2 - y1) ≠ (v1 - y1) * (x2 - x1)) : meetL x1 y1 x2 y2 u1 v1 u2 v2 = .no := by
  have e := line_same h
  have e' := mp_other x1 y1 x2 y2 u1 v1
  have n : crs x1 y1 x2 y2 u1 v1 ≠ 0 := by omega
  have pos : crs x1 y1 x2 y2 u1 v1 * crs x1 y1 x2 y2 u2 v2 > 0 := by
    rw [← e]
    rcases Int.lt_or_lt_of_ne n with z | z
    · exact Int.mul_pos_of_neg_of_neg z z
    · exact Int.mul_pos z z
  unfold meetL
  dsimp only
  rw [if_neg (fun z => n z.1), if_pos (.inl pos)]
theorem mp_line (h : (x2 - x1) * (v2 - v1) - (y2 - y1) * (u2 - u1) = 0) (h' : (u1 - x1) * (y2 - y1) = (v1 - y1) * (x2 - x1)) : meetL x1 y1 x2 y2 u1 v1 u2 v2 =
    (if ltP (maxP (minP (x1, y1) (x2, y2)) (minP (u1, v1) (u2, v2))).1 (maxP (minP (x1, y1) (x2, y2)) (minP (u1, v1) (u2, v2))).2 (minP (maxP (x1, y1) (x2, y2)) (maxP (u1, v1) (u2, v2))).1 (minP (maxP (x1, y1) (x2, y2)) (maxP (u1, v1) (u2, v2))).2 then
      .along (maxP (minP (x1, y1) (x2, y2)) (minP (u1, v1) (u2, v2))).1 (maxP (minP (x1, y1) (x2, y2)) (minP (u1, v1) (u2, v2))).2 (minP (maxP (x1, y1) (x2, y2)) (maxP (u1, v1) (u2, v2))).1 (minP (maxP (x1, y1) (x2, y2)) (maxP (u1, v1) (u2, v2))).2
     else if (maxP (minP (x1, y1) (x2, y2)) (minP (u1, v1) (u2, v2))).1 = (minP (maxP (x1, y1) (x2, y2)) (maxP (u1, v1) (u2, v2))).1 ∧ (maxP (minP (x1, y1) (x2, y2)) (minP (u1, v1) (u2, v2))).2 = (minP (maxP (x1, y1) (x2, y2)) (maxP (u1, v1) (u2, v2))).2 then
      .pt (maxP (minP (x1, y1) (x2, y2)) (minP (u1, v1) (u2, v2))).1 1 (maxP (minP (x1, y1) (x2, y2)) (minP (u1, v1) (u2, v2))).2 1 else .no) := by
  have e := line_same h
  have e' := mp_other x1 y1 x2 y2 u1 v1
  unfold meetL
  dsimp only
  rw [if_pos ⟨by omega, by omega⟩]
theorem sides_of {a b : Int} (h : 0 < b - a) : ¬ a * b > 0 ↔ a ≤ 0 ∧ 0 ≤ b := by
  constructor
  · intro n
    constructor
    · rcases Int.lt_or_le 0 a with z | z
      · exact absurd (Int.mul_pos z (by omega)) n
      · exact z
    · rcases Int.lt_or_le b 0 with z | z
      · exact absurd (Int.mul_pos_of_neg_of_neg (by omega) z) n
      · exact z
  · rintro ⟨h1, h2⟩ h3
    have := Int.mul_nonpos_of_nonpos_of_nonneg h1 h2
    omega
/-- O, T, A: how far along each, of how much; A above nought -/
theorem mp_cross {A O T : Int} (hA : 0 < A) (h : (A = crs u1 v1 u2 v2 x1 y1 - crs u1 v1 u2 v2 x2 y2 ∧ O = crs u1 v1 u2 v2 x1 y1 ∧ T = - crs x1 y1 x2 y2 u1 v1) ∨ (A = -(crs u1 v1 u2 v2 x1 y1 - crs u1 v1 u2 v2 x2 y2) ∧ O = -crs u1 v1 u2 v2 x1 y1 ∧ T = crs x1 y1 x2 y2 u1 v1)) :
    meetL x1 y1 x2 y2 u1 v1 u2 v2 = if 0 ≤ O ∧ O ≤ A ∧ 0 ≤ T ∧ T ≤ A then .pt (lowA (x1 * A + O * (x2 - x1)) A) (lowB (x1 * A + O * (x2 - x1)) A) (lowA (y1 * A + O * (y2 - y1)) A) (lowB (y1 * A + O * (y2 - y1)) A) else .no := by
  have w := cross_w x1 y1 x2 y2 u1 v1 u2 v2
  have cx := cross_x x1 y1 x2 y2 u1 v1 u2 v2
  have cy := cross_y x1 y1 x2 y2 u1 v1 u2 v2
  unfold meetL
  dsimp only
  generalize crs x1 y1 x2 y2 u1 v1 = l0 at *
  generalize crs x1 y1 x2 y2 u2 v2 = l1 at *
  generalize crs u1 v1 u2 v2 x1 y1 = r0 at *
  generalize crs u1 v1 u2 v2 x2 y2 = r1 at *
  have n0 : l0 - l1 ≠ 0 := by omega
  rw [if_neg (show ¬ (l0 = 0 ∧ l1 = 0) by omega)]
  have ex : ∀ a b : Int, a * A + O * (b - a) = a * A + (b - a) * O := fun a b => by rw [Int.mul_comm O]
  rw [ex, ex]
  rcases h with ⟨eA, eO, eT⟩ | ⟨eA, eO, eT⟩
  · have s1 := sides_of (a := l0) (b := l1) (by omega)
    have s2 := sides_of (a := r1) (b := r0) (by omega)
    rw [Int.mul_comm] at s2
    by_cases d : l0 * l1 > 0 ∨ r0 * r1 > 0
    · rw [if_pos d, if_neg (by omega)]
    · rw [if_neg d, if_pos (by omega)]
      rw [eO, eA, cx, cy, w]
      have a1 := low_neg (u1 * (l0 - l1) + (u2 - u1) * l0) (l0 - l1) n0
      have a2 := low_neg (v1 * (l0 - l1) + (v2 - v1) * l0) (l0 - l1) n0
      rw [a1.1, a1.2, a2.1, a2.2]
  · have s1 := sides_of (a := l1) (b := l0) (by omega)
    have s2 := sides_of (a := r0) (b := r1) (by omega)
    rw [Int.mul_comm] at s1
    by_cases d : l0 * l1 > 0 ∨ r0 * r1 > 0
    · rw [if_pos d, if_neg (by omega)]
    · rw [if_neg d, if_pos (by omega)]
      have k : ∀ a b : Int, a * -(r0 - r1) + (b - a) * -r0 = -(a * (r0 - r1) + (b - a) * r0) := fun a b => by rw [Int.mul_neg, Int.mul_neg]; omega
      rw [eO, eA, k, k, cx, cy, w, Int.neg_neg, Int.neg_neg, Int.neg_neg]
theorem low_whole (a : Int) : lowA a 1 = a ∧ lowB a 1 = 1 := by
  unfold lowA lowB
  rw [if_neg (by decide), if_neg (by decide), Int.gcd_one_right]
  exact ⟨Int.ediv_one a, rfl⟩
end
end DM

namespace DM
open PySem L2
section
variable {X : Cx}
def rGtP (K : PySem.W.Frag) : R2 := fun x y H Q => ∃ (p q : Addr) (a b c d : Int), x = .ref p ∧ y = .ref q ∧ SqT K H p [.int a, .int b] ∧ SqT K H q [.int c, .int d] ∧ Q (.bl (decide (ltP c d a b))) H
theorem op_gtP (hu : X.A.units + 64 < cLine) : OpR X (compareOp .Gt) (rGtP X.K) := by
  intro pins s σ H x y v u Q I rx ry want
  obtain ⟨p, q, a, b, c, d, rfl, rfl, hp, hq, last⟩ := want
  cases (show v = Value.ref p from rx)
  cases (show u = Value.ref q from ry)
  refine PySem.W.gt_datum (α := Int × Int) (x := (a, b)) (y := (c, d)) (held_pair I hp) (held_pair I hq) (Nat.lt_of_le_of_lt (by show X.A.units + 1 ≤ X.A.units + 64; omega) hu) ?_
  rw [lt_pair]
  exact ⟨.bl _, H, I, rfl, last⟩
end
def spLine : Sp := fun vs H Q _ => ∃ (p q : Addr) (x1 y1 x2 y2 u1 v1 u2 v2 : Int), vs = [.ref p, .ref q] ∧ Stk H p x1 y1 x2 y2 ∧ Stk H q u1 v1 u2 v2 ∧ (x2 - x1) * (v2 - v1) - (y2 - y1) * (u2 - u1) = 0 ∧ ∀ (r : V) (H' : Hp), Same H H' → MetAt H' r (meetL x1 y1 x2 y2 u1 v1 u2 v2) → Q r H'
section
variable {P : Program} {w : World} {K : PySem.W.Frag} {mg : Str → Option Value} {base : Heap} {f : Addr} {fd : FuncData}
abbrev s_meet_in_line : Stmt := top 21
theorem sc_meet_in_line : FnScope ["one", "other", "x1", "y1", "x2", "y2", "x3", "y3", "x4", "y4", "begin", "end"] ["one", "other"] (defScope s_meet_in_line) := ⟨rfl, rfl, rfl, by decide +kernel, rfl, by decide +kernel, by decide +kernel⟩
theorem ok_meet_in_line (B : Blt mg) (d_lowest : CalD P w K mg base 2 "lowest" ["over", "under"] spLow [.int 1]) (F : Fun K "meet_in_line" "meet_in_line" s_meet_in_line f fd) : FnOk P w K mg base CX0 3 f fd ["one", "other"] spLine := by
  refine F.ok sc_meet_in_line (fun vs H Q E h => ?_) (fun cdv A outer s H vs Q E hr h => ?_)
  · obtain ⟨p, q, x1, y1, x2, y2, u1, v1, u2, v2, rfl, _⟩ := h
    rfl
  obtain ⟨p, o, x1, y1, x2, y2, u1, v1, u2, v2, rfl, hS, hT, h0, q⟩ := h
  have hp := hS.1
  have ho := hT.1
  have bs := hS.2.1
  have bt := hT.2.1
  refine ⟨_, (pss_cons (ps_asg (pv 0) (pg_tup rfl (pgs_cons (pg_name (i := 2) sc_meet_in_line.nd rfl (Or.inl rfl)) (pgs_cons (pg_name (i := 3) sc_meet_in_line.nd rfl (Or.inl rfl)) (pgs_cons (pg_name (i := 4) sc_meet_in_line.nd rfl (Or.inl rfl)) (pgs_cons (pg_name (i := 5) sc_meet_in_line.nd rfl (Or.inl rfl)) pgs_nil))))))
    (pss_cons (ps_asg (pv 1) (pg_tup rfl (pgs_cons (pg_name (i := 6) sc_meet_in_line.nd rfl (Or.inl rfl)) (pgs_cons (pg_name (i := 7) sc_meet_in_line.nd rfl (Or.inl rfl)) (pgs_cons (pg_name (i := 8) sc_meet_in_line.nd rfl (Or.inl rfl)) (pgs_cons (pg_name (i := 9) sc_meet_in_line.nd rfl (Or.inl rfl)) pgs_nil))))))
    (pss_cons (ps_if (pt_cmpR op_ne (pe_op op_mul (pe_op op_sub (pv 6) (pv 2)) (pe_op op_sub (pv 5) (pv 3))) (pe_op op_mul (pe_op op_sub (pv 7) (pv 3)) (pe_op op_sub (pv 4) (pv 2))) (nomark _))
    (pss_one (ps_ret pe_non))
    pss_nil)
    (pss_cons (ps_set (i := 10) sc_meet_in_line.nd rfl (Or.inl rfl) (pe_callB (cr_max2 rfl hr.units) rfl B.max bt_max (pa_cons (pe_callB (cr_min2 rfl hr.units) rfl B.min bt_min (pa_cons (pe_tup (pa_cons (pv 2) (pa_cons (pv 3) pa_nil))) (pa_cons (pe_tup (pa_cons (pv 4) (pa_cons (pv 5) pa_nil))) pa_nil))) (pa_cons (pe_callB (cr_min2 rfl hr.units) rfl B.min bt_min (pa_cons (pe_tup (pa_cons (pv 6) (pa_cons (pv 7) pa_nil))) (pa_cons (pe_tup (pa_cons (pv 8) (pa_cons (pv 9) pa_nil))) pa_nil))) pa_nil))))
    (pss_cons (ps_set (i := 11) sc_meet_in_line.nd rfl (Or.inl rfl) (pe_callB (cr_min2 rfl hr.units) rfl B.min bt_min (pa_cons (pe_callB (cr_max2 rfl hr.units) rfl B.max bt_max (pa_cons (pe_tup (pa_cons (pv 2) (pa_cons (pv 3) pa_nil))) (pa_cons (pe_tup (pa_cons (pv 4) (pa_cons (pv 5) pa_nil))) pa_nil))) (pa_cons (pe_callB (cr_max2 rfl hr.units) rfl B.max bt_max (pa_cons (pe_tup (pa_cons (pv 6) (pa_cons (pv 7) pa_nil))) (pa_cons (pe_tup (pa_cons (pv 8) (pa_cons (pv 9) pa_nil))) pa_nil))) pa_nil))))
    (pss_cons (ps_if (pt_cmpR (op_gtP hr.units) (pv 10) (pv 11) (nomark _))
    (pss_one (ps_ret pe_non))
    pss_nil)
    (pss_cons (ps_if (pt_cmpR (op_eqD hr.units) (pv 10) (pv 11) (nomark _))
    (pss_one (ps_ret (pe_tup (pa_cons pe_str (pa_cons (pe_tup (pa_cons (pe_calD d_lowest hr (pa_cons (pe_ix ix_tup (pv 10) pe_int (fun _ _ => rfl)) pa_nil)) (pa_cons (pe_calD d_lowest hr (pa_cons (pe_ix ix_tup (pv 10) pe_int (fun _ _ => rfl)) pa_nil)) pa_nil))) pa_nil)))))
    pss_nil)
    (pss_one (ps_ret (pe_tup (pa_cons pe_str (pa_cons (pv 10) (pa_cons (pv 11) pa_nil))))))))))))), ?_⟩
  refine seq_with (fun σ' H' => H = H' ∧ σ' = [some (.ref p), some (.ref o), some (.int x1), some (.int y1), some (.int x2), some (.int y2), none, none, none, none, none, none]) (fun R hR => ⟨_, rfl, p, _, rfl, SqT.of hp, rfl, _, _, rfl, _, _, rfl, _, _, rfl, _, _, rfl, rfl, hR _ _ ⟨rfl, rfl⟩⟩) ?_
  rintro _ _ ⟨rfl, rfl⟩
  refine seq_with (fun σ' H' => H = H' ∧ σ' = [some (.ref p), some (.ref o), some (.int x1), some (.int y1), some (.int x2), some (.int y2), some (.int u1), some (.int v1), some (.int u2), some (.int v2), none, none]) (fun R hR => ⟨_, rfl, o, _, rfl, SqT.of ho, rfl, _, _, rfl, _, _, rfl, _, _, rfl, _, _, rfl, rfl, hR _ _ ⟨rfl, rfl⟩⟩) ?_
  rintro _ _ ⟨rfl, rfl⟩
  refine ⟨_, rfl, _, rfl, _, _, rfl, rfl, _, rfl, _, rfl, _, _, rfl, rfl, _, _, rfl, rfl, .inl ⟨by omega, by omega⟩, ?_⟩
  refine ⟨_, rfl, _, rfl, _, _, rfl, rfl, _, rfl, _, rfl, _, _, rfl, rfl, _, _, rfl, rfl, .inl ⟨by omega, by omega⟩, rfl, _, rfl, ?_⟩
  by_cases c : (u1 - x1) * (y2 - y1) = (v1 - y1) * (x2 - x1)
  · refine iteNS (congrArg V.int c) ?_
    rw [mp_line h0 c] at q
    -- begin
    refine ⟨_, rfl, _, rfl, sz (by decide : 2 ≤ 100000), fun e0 n0 => ?_⟩
    have g0 := same_new n0 (.tup [.int x1, .int y1])
    refine ⟨_, rfl, _, rfl, sz (by decide : 2 ≤ 100000), fun e1 n1 => ?_⟩
    have g1 := same_new n1 (.tup [.int x2, .int y2])
    have i0 := g1 _ _ (new_at g0)
    have i1 := new_at g1
    refine ⟨e0, e1, x1, y1, x2, y2, rfl, SqT.of i0, SqT.of i1, ?_⟩
    have m1 := min_at (a := (x1, y1)) (b := (x2, y2)) i0 i1
    refine ⟨_, rfl, _, rfl, sz (by decide : 2 ≤ 100000), fun e2 n2 => ?_⟩
    have g2 := same_new n2 (.tup [.int u1, .int v1])
    refine ⟨_, rfl, _, rfl, sz (by decide : 2 ≤ 100000), fun e3 n3 => ?_⟩
    have g3 := same_new n3 (.tup [.int u2, .int v2])
    have i2 := g3 _ _ (new_at g2)
    have i3 := new_at g3
    refine ⟨e2, e3, u1, v1, u2, v2, rfl, SqT.of i2, SqT.of i3, ?_⟩
    have m2 := min_at (a := (u1, v1)) (b := (u2, v2)) i2 i3
    have m1 := g3 _ _ (g2 _ _ m1)
    refine ⟨_, _, _, _, _, _, rfl, SqT.of m1, SqT.of m2, ?_⟩
    have hlo := max_at m1 m2
    have gA := g0.trans (g1.trans (g2.trans g3))
    -- end
    refine ⟨_, rfl, _, rfl, sz (by decide : 2 ≤ 100000), fun e4 n4 => ?_⟩
    have g4 := same_new n4 (.tup [.int x1, .int y1])
    refine ⟨_, rfl, _, rfl, sz (by decide : 2 ≤ 100000), fun e5 n5 => ?_⟩
    have g5 := same_new n5 (.tup [.int x2, .int y2])
    have i4 := g5 _ _ (new_at g4)
    have i5 := new_at g5
    refine ⟨e4, e5, x1, y1, x2, y2, rfl, SqT.of i4, SqT.of i5, ?_⟩
    have M1 := max_at (a := (x1, y1)) (b := (x2, y2)) i4 i5
    refine ⟨_, rfl, _, rfl, sz (by decide : 2 ≤ 100000), fun e6 n6 => ?_⟩
    have g6 := same_new n6 (.tup [.int u1, .int v1])
    refine ⟨_, rfl, _, rfl, sz (by decide : 2 ≤ 100000), fun e7 n7 => ?_⟩
    have g7 := same_new n7 (.tup [.int u2, .int v2])
    have i6 := g7 _ _ (new_at g6)
    have i7 := new_at g7
    refine ⟨e6, e7, u1, v1, u2, v2, rfl, SqT.of i6, SqT.of i7, ?_⟩
    have M2 := max_at (a := (u1, v1)) (b := (u2, v2)) i6 i7
    have M1 := g7 _ _ (g6 _ _ M1)
    refine ⟨_, _, _, _, _, _, rfl, SqT.of M1, SqT.of M2, ?_⟩
    have hhi := min_at M1 M2
    have gB := g4.trans (g5.trans (g6.trans g7))
    have hlo := gB _ _ hlo
    have gC := gA.trans gB
    generalize maxP (minP (x1, y1) (x2, y2)) (minP (u1, v1) (u2, v2)) = lo at *
    generalize minP (maxP (x1, y1) (x2, y2)) (maxP (u1, v1) (u2, v2)) = hi at *
    refine ⟨_, rfl, _, rfl, _, _, lo.1, lo.2, hi.1, hi.2, rfl, rfl, SqT.of hlo, SqT.of hhi, _, rfl, ?_⟩
    by_cases d : ltP hi.1 hi.2 lo.1 lo.2
    · refine iteDT d ?_
      rw [if_neg (show ¬ ltP lo.1 lo.2 hi.1 hi.2 by unfold ltP at *; omega), if_neg (show ¬ (lo.1 = hi.1 ∧ lo.2 = hi.2) by unfold ltP at *; omega)] at q
      exact q _ _ gC rfl
    · refine iteDF d ?_
      refine ⟨_, rfl, _, rfl, _, _, dp_pair hlo, dp_pair hhi, shaped_pair _ _, shaped_pair _ _, _, rfl, ?_⟩
      rw [eqv_pair]
      by_cases d' : lo.1 = hi.1 ∧ lo.2 = hi.2
      · refine iteDT d' ?_
        rw [if_neg (show ¬ ltP lo.1 lo.2 hi.1 hi.2 by unfold ltP at *; omega), if_pos d'] at q
        refine ⟨_, rfl, _, _, _, _, rfl, rfl, SqT.of hlo, rfl, lo.1, 1, rfl, by decide, by decide, fun r1 H1 s1 h1 => ?_⟩
        refine ⟨_, rfl, _, _, _, _, rfl, rfl, SqT.of (s1 _ _ hlo), rfl, lo.2, 1, rfl, by decide, by decide, fun r2 H2 s2 h2 => ?_⟩
        rw [(low_whole lo.1).1, (low_whole lo.1).2] at h1
        rw [(low_whole lo.2).1, (low_whole lo.2).2] at h2
        refine ⟨sz (by decide : 2 ≤ 100000), fun r3 n3 => ⟨sz (by decide : 2 ≤ 100000), fun r4 n4 => ?_⟩⟩
        exact q (.ref r4) _ (gC.trans (s1.trans (s2.trans ((same_new n3 _).trans (same_new n4 _))))) ⟨r4, r3, r1, r2, rfl, upd_same, same_new n4 _ _ _ upd_same, same_new n4 _ _ _ (same_new n3 _ _ _ (s2 _ _ h1)), same_new n4 _ _ _ (same_new n3 _ _ _ h2)⟩
      · refine iteDF d' ?_
        rw [if_pos (show ltP lo.1 lo.2 hi.1 hi.2 by unfold ltP at *; omega)] at q
        refine ⟨_, rfl, _, rfl, sz (by decide : 3 ≤ 100000), fun r nr => ?_⟩
        exact q (.ref r) _ (gC.trans (same_new nr _)) ⟨r, _, _, rfl, upd_same, same_new nr _ _ _ hlo, same_new nr _ _ _ hhi⟩
  · refine if_pos' (by rw [decide_eq_false (fun z => c (V.int.inj z))]; rfl) ?_
    rw [mp_apart h0 c] at q
    exact q _ _ (Same.refl H) rfl
abbrev s_p_meet : Stmt := top 20
theorem sc_p_meet : FnScope ["one", "other", "x1", "y1", "x2", "y2", "x3", "y3", "x4", "y4", "area", "along_one", "along_other", "x", "y"] ["one", "other"] (defScope s_p_meet) := ⟨rfl, rfl, rfl, by decide +kernel, rfl, by decide +kernel, by decide +kernel⟩
theorem ok_p_meet (c_lowest : Cal P w K mg base 2 "lowest" ["over", "under"] spLow) (c_meet_in_line : Cal P w K mg base 3 "meet_in_line" ["one", "other"] spLine) (F : Fun K "meet" "meet" s_p_meet f fd) : FnOk P w K mg base CX0 4 f fd ["one", "other"] spMeet := by
  refine F.ok sc_p_meet (fun vs H Q E h => ?_) (fun cdv A outer s H vs Q E hr h => ?_)
  · obtain ⟨p, q, x1, y1, x2, y2, u1, v1, u2, v2, rfl, _⟩ := h
    rfl
  obtain ⟨p, o, x1, y1, x2, y2, u1, v1, u2, v2, rfl, hS, hT, q⟩ := h
  have hp := hS.1
  have ho := hT.1
  have bs := hS.2.1
  have bt := hT.2.1
  refine ⟨_, (pss_cons (ps_asg (pv 0) (pg_tup rfl (pgs_cons (pg_name (i := 2) sc_p_meet.nd rfl (Or.inl rfl)) (pgs_cons (pg_name (i := 3) sc_p_meet.nd rfl (Or.inl rfl)) (pgs_cons (pg_name (i := 4) sc_p_meet.nd rfl (Or.inl rfl)) (pgs_cons (pg_name (i := 5) sc_p_meet.nd rfl (Or.inl rfl)) pgs_nil))))))
    (pss_cons (ps_asg (pv 1) (pg_tup rfl (pgs_cons (pg_name (i := 6) sc_p_meet.nd rfl (Or.inl rfl)) (pgs_cons (pg_name (i := 7) sc_p_meet.nd rfl (Or.inl rfl)) (pgs_cons (pg_name (i := 8) sc_p_meet.nd rfl (Or.inl rfl)) (pgs_cons (pg_name (i := 9) sc_p_meet.nd rfl (Or.inl rfl)) pgs_nil))))))
    (pss_cons (ps_set (i := 10) sc_p_meet.nd rfl (Or.inl rfl) (pe_op op_sub (pe_op op_mul (pe_op op_sub (pv 4) (pv 2)) (pe_op op_sub (pv 9) (pv 7))) (pe_op op_mul (pe_op op_sub (pv 5) (pv 3)) (pe_op op_sub (pv 8) (pv 6)))))
    (pss_cons (ps_if (pt_cmpR op_eq (pv 10) pe_int (nomark _))
    (pss_one (ps_ret (pe_cal c_meet_in_line hr (pa_cons (pv 0) (pa_cons (pv 1) pa_nil)))))
    pss_nil)
    (pss_cons (ps_set (i := 11) sc_p_meet.nd rfl (Or.inl rfl) (pe_op op_sub (pe_op op_mul (pe_op op_sub (pv 6) (pv 2)) (pe_op op_sub (pv 9) (pv 7))) (pe_op op_mul (pe_op op_sub (pv 7) (pv 3)) (pe_op op_sub (pv 8) (pv 6)))))
    (pss_cons (ps_set (i := 12) sc_p_meet.nd rfl (Or.inl rfl) (pe_op op_sub (pe_op op_mul (pe_op op_sub (pv 6) (pv 2)) (pe_op op_sub (pv 5) (pv 3))) (pe_op op_mul (pe_op op_sub (pv 7) (pv 3)) (pe_op op_sub (pv 4) (pv 2)))))
    (pss_cons (ps_if (pt_cmpR op_lt (pv 10) pe_int (nomark _))
    (pss_one (ps_par3 (i := 10) (j := 11) (l := 12) (by rfl) sc_p_meet.nd rfl rfl rfl (by decide) (by decide) (by decide) rfl rfl rfl (pa_cons (pe_un un_neg (pv 10)) (pa_cons (pe_un un_neg (pv 11)) (pa_cons (pe_un un_neg (pv 12)) pa_nil))) (by rfl)))
    pss_nil)
    (pss_cons (ps_if (pt_not (PW.pt (pw_and (pt_chain op_le op_le pe_int (pv 11) (pv 10)) (pw_and1 (pt_chain op_le op_le pe_int (pv 12) (pv 10))))))
    (pss_one (ps_ret pe_non))
    pss_nil)
    (pss_cons (ps_set (i := 13) sc_p_meet.nd rfl (Or.inl rfl) (pe_cal c_lowest hr (pa_cons (pe_op op_add (pe_op op_mul (pv 2) (pv 10)) (pe_op op_mul (pv 11) (pe_op op_sub (pv 4) (pv 2)))) (pa_cons (pv 10) pa_nil))))
    (pss_cons (ps_set (i := 14) sc_p_meet.nd rfl (Or.inl rfl) (pe_cal c_lowest hr (pa_cons (pe_op op_add (pe_op op_mul (pv 3) (pv 10)) (pe_op op_mul (pv 11) (pe_op op_sub (pv 5) (pv 3)))) (pa_cons (pv 10) pa_nil))))
    (pss_one (ps_ret (pe_tup (pa_cons pe_str (pa_cons (pe_tup (pa_cons (pv 13) (pa_cons (pv 14) pa_nil))) pa_nil))))))))))))))), ?_⟩
  refine seq_with (fun σ' H' => H = H' ∧ σ' = [some (.ref p), some (.ref o), some (.int x1), some (.int y1), some (.int x2), some (.int y2), none, none, none, none, none, none, none, none, none]) (fun R hR => ⟨_, rfl, p, _, rfl, SqT.of hp, rfl, _, _, rfl, _, _, rfl, _, _, rfl, _, _, rfl, rfl, hR _ _ ⟨rfl, rfl⟩⟩) ?_
  rintro _ _ ⟨rfl, rfl⟩
  refine seq_with (fun σ' H' => H = H' ∧ σ' = [some (.ref p), some (.ref o), some (.int x1), some (.int y1), some (.int x2), some (.int y2), some (.int u1), some (.int v1), some (.int u2), some (.int v2), none, none, none, none, none]) (fun R hR => ⟨_, rfl, o, _, rfl, SqT.of ho, rfl, _, _, rfl, _, _, rfl, _, _, rfl, _, _, rfl, rfl, hR _ _ ⟨rfl, rfl⟩⟩) ?_
  rintro _ _ ⟨rfl, rfl⟩
  refine ⟨_, rfl, _, rfl, _, _, rfl, rfl, _, rfl, _, rfl, _, _, rfl, rfl, _, _, rfl, rfl, .inl ⟨by omega, by omega⟩, ?_⟩
  refine ⟨_, rfl, _, rfl, _, _, rfl, rfl, _, rfl, _, rfl, _, _, rfl, rfl, _, _, rfl, rfl, .inl ⟨by omega, by omega⟩, _, _, rfl, rfl, ?_⟩
  refine ⟨_, rfl, rfl, _, rfl, ?_⟩
  by_cases c : (x2 - x1) * (v2 - v1) - (y2 - y1) * (u2 - u1) = 0
  · refine iteDT (congrArg V.int c) ?_
    exact ⟨_, rfl, _, rfl, p, o, x1, y1, x2, y2, u1, v1, u2, v2, rfl, hS, hT, c, q⟩
  refine iteDF (fun z => c (V.int.inj z)) ?_
  refine ⟨_, rfl, _, rfl, _, _, rfl, rfl, _, rfl, _, rfl, _, _, rfl, rfl, _, _, rfl, rfl, .inl ⟨by omega, by omega⟩, ?_⟩
  refine ⟨_, rfl, _, rfl, _, _, rfl, rfl, _, rfl, _, rfl, _, _, rfl, rfl, _, _, rfl, rfl, .inl ⟨by omega, by omega⟩, _, _, rfl, rfl, ?_⟩
  refine ⟨_, rfl, _, rfl, _, _, rfl, rfl, _, rfl, _, rfl, _, _, rfl, rfl, _, _, rfl, rfl, .inl ⟨by omega, by omega⟩, ?_⟩
  refine ⟨_, rfl, _, rfl, _, _, rfl, rfl, _, rfl, _, rfl, _, _, rfl, rfl, _, _, rfl, rfl, .inl ⟨by omega, by omega⟩, _, _, rfl, rfl, ?_⟩
  have k1 := crs_small (x1 := u1) (y1 := v1) (x2 := u2) (y2 := v2) (x3 := x1) (y3 := y1) (by omega) (by omega) (by omega)
  have k2 := crs_small (x1 := u1) (y1 := v1) (x2 := u2) (y2 := v2) (x3 := x2) (y3 := y2) (by omega) (by omega) (by omega)
  have z1 := mp_area x1 y1 x2 y2 u1 v1 u2 v2
  have z2 := mp_one x1 y1 u1 v1 u2 v2
  have z3 := mp_other x1 y1 x2 y2 u1 v1
  dsimp only [gName, tNext]
  refine seq_with (fun σ' H' => H' = H ∧ ∃ A O T : Int, σ' = [some (.ref p), some (.ref o), some (.int x1), some (.int y1), some (.int x2), some (.int y2), some (.int u1), some (.int v1), some (.int u2), some (.int v2), some (.int A), some (.int O), some (.int T), none, none] ∧ 0 < A ∧ A ≤ 25600 ∧ -25600 ≤ O ∧ O ≤ 25600 ∧ ((A = crs u1 v1 u2 v2 x1 y1 - crs u1 v1 u2 v2 x2 y2 ∧ O = crs u1 v1 u2 v2 x1 y1 ∧ T = - crs x1 y1 x2 y2 u1 v1) ∨ (A = -(crs u1 v1 u2 v2 x1 y1 - crs u1 v1 u2 v2 x2 y2) ∧ O = -crs u1 v1 u2 v2 x1 y1 ∧ T = crs x1 y1 x2 y2 u1 v1))) (fun R hR => ?_) ?_
  · refine ⟨_, rfl, _, _, rfl, rfl, _, rfl, ?_⟩
    by_cases d : (x2 - x1) * (v2 - v1) - (y2 - y1) * (u2 - u1) < 0
    · refine iteDT d ?_
      refine ⟨_, rfl, _, rfl, _, rfl, _, rfl, _, rfl, _, rfl, _, _, _, rfl, hR _ _ ⟨rfl, _, _, _, rfl, by omega, by omega, by omega, by omega, .inr ⟨by omega, by omega, by omega⟩⟩⟩
    · refine iteDF d ?_
      exact hR _ _ ⟨rfl, _, _, _, rfl, by omega, by omega, by omega, by omega, .inl ⟨by omega, by omega, by omega⟩⟩
  · rintro σ H' ⟨rfl, A, O, T, rfl, hA, hA', hO, hO', hc⟩
    rw [mp_cross hA hc] at q
    refine ⟨_, rfl, _, _, rfl, rfl, _, rfl, ?_⟩
    by_cases d1 : 0 ≤ O
    · refine iteDT d1 ?_
      refine ⟨_, rfl, _, _, rfl, rfl, _, rfl, ?_⟩
      by_cases d2 : O ≤ A
      · refine iteDT d2 ?_
        refine ⟨_, rfl, _, _, rfl, rfl, _, rfl, ?_⟩
        by_cases d3 : 0 ≤ T
        · refine iteDT d3 ?_
          refine ⟨_, rfl, _, _, rfl, rfl, _, rfl, ?_⟩
          by_cases d4 : T ≤ A
          · refine iteNS d4 ?_
            rw [if_pos ⟨d1, d2, d3, d4⟩] at q
            refine ⟨_, rfl, _, rfl, _, _, rfl, rfl, .inl ⟨by omega, by omega⟩, _, rfl, _, rfl, _, rfl, _, _, rfl, rfl, _, _, rfl, rfl, .inl ⟨by omega, by omega⟩, _, _, rfl, rfl, _, rfl, _, A, rfl, by omega, by omega, fun px H1 s1 h1 => ?_⟩
            refine ⟨_, rfl, _, rfl, _, _, rfl, rfl, .inl ⟨by omega, by omega⟩, _, rfl, _, rfl, _, rfl, _, _, rfl, rfl, _, _, rfl, rfl, .inl ⟨by omega, by omega⟩, _, _, rfl, rfl, _, rfl, _, A, rfl, by omega, by omega, fun py H2 s2 h2 => ?_⟩
            refine ⟨_, rfl, _, rfl, sz (by decide : 2 ≤ 100000), fun r3 n3 => ⟨sz (by decide : 2 ≤ 100000), fun r4 n4 => ?_⟩⟩
            exact q (.ref r4) _ (s1.trans (s2.trans ((same_new n3 _).trans (same_new n4 _)))) ⟨r4, r3, px, py, rfl, upd_same, same_new n4 _ _ _ upd_same, same_new n4 _ _ _ (same_new n3 _ _ _ (s2 _ _ h1)), same_new n4 _ _ _ (same_new n3 _ _ _ h2)⟩
          · refine if_pos' (by rw [decide_eq_false d4]; rfl) ?_
            rw [if_neg (fun z => d4 z.2.2.2)] at q
            exact q _ _ (Same.refl _) rfl
        · refine iteDF d3 ?_
          rw [if_neg (fun z => d3 z.2.2.1)] at q
          exact ⟨_, rfl, iteT (q _ _ (Same.refl _) rfl)⟩
      · refine iteDF d2 ?_
        rw [if_neg (fun z => d2 z.2.1)] at q
        exact q _ _ (Same.refl _) rfl
    · refine iteDF d1 ?_
      rw [if_neg (fun z => d1 z.1)] at q
      exact ⟨_, rfl, iteF (q _ _ (Same.refl _) rfl)⟩
end
end DM

namespace DM
theorem low_frac {a b : Int} (hb : b ≠ 0) : 0 < lowB a b ∧ lowA a b * b = a * lowB a b := by
  have hg : 0 < ((Int.gcd a b : Nat) : Int) := by
    have := Int.gcd_pos_of_ne_zero_right a hb
    omega
  obtain ⟨a', ea⟩ : ((Int.gcd a b : Nat) : Int) ∣ a := Int.gcd_dvd_left ..
  obtain ⟨b', eb⟩ : ((Int.gcd a b : Nat) : Int) ∣ b := Int.gcd_dvd_right ..
  unfold lowA lowB
  generalize ((Int.gcd a b : Nat) : Int) = g at *
  have hg0 : g ≠ 0 := by omega
  by_cases c : b < 0
  · rw [if_pos c, if_pos c]
    have e1 : -a / g = -a' := by rw [ea, ← Int.mul_neg, Int.mul_ediv_cancel_left _ hg0]
    have e2 : -b / g = -b' := by rw [eb, ← Int.mul_neg, Int.mul_ediv_cancel_left _ hg0]
    rw [e1, e2]
    constructor
    · rcases Int.lt_or_le 0 (-b') with z | z
      · exact z
      · have := Int.mul_nonneg (show 0 ≤ g by omega) (show 0 ≤ b' by omega)
        omega
    · rw [ea, eb]
      simp only [Int.neg_mul, Int.mul_neg, Int.mul_left_comm, Int.mul_comm]
  · rw [if_neg c, if_neg c]
    have e1 : a / g = a' := by rw [ea, Int.mul_ediv_cancel_left _ hg0]
    have e2 : b / g = b' := by rw [eb, Int.mul_ediv_cancel_left _ hg0]
    rw [e1, e2]
    constructor
    · rcases Int.lt_or_le 0 b' with z | z
      · exact z
      · have := Int.mul_nonneg (show 0 ≤ g by omega) (show 0 ≤ -b' by omega)
        rw [Int.mul_neg] at this
        omega
    · rw [ea, eb]
      simp only [Int.mul_left_comm, Int.mul_comm]
/-- a place lies on a stroke -/
def On (x1 y1 x2 y2 a b c d : Int) : Prop := 0 < b ∧ 0 < d ∧ ∃ n m : Int, 0 < m ∧ 0 ≤ n ∧ n ≤ m ∧ a * m = (x1 * m + (x2 - x1) * n) * b ∧ c * m = (y1 * m + (y2 - y1) * n) * d
theorem on_half {x u n m a b s : Int} (hm : 0 < m) (hb : 0 < b) (e : a * m = (x * m + u * n) * b) (h1 : (2 * s - 1) * b ≤ 2 * a) (h2 : 2 * a < (2 * s + 1) * b) : (2 * s - 1) * m ≤ 2 * x * m + 2 * u * n ∧ 2 * x * m + 2 * u * n < (2 * s + 1) * m := by
  have k1 := Int.mul_le_mul_of_nonneg_right h1 (show 0 ≤ m by omega)
  have k2 := Int.mul_lt_mul_of_pos_right h2 hm
  have f1 : 2 * a * m = 2 * x * m * b + 2 * u * n * b := by
    rw [Int.mul_assoc, e, Int.add_mul, Int.mul_add]
    simp only [Int.mul_assoc]
  have f2 : (2 * x * m + 2 * u * n) * b = 2 * a * m := by rw [f1, Int.add_mul]
  have f3 : (2 * s - 1) * b * m = (2 * s - 1) * m * b := Int.mul_right_comm ..
  have f4 : (2 * s + 1) * b * m = (2 * s + 1) * m * b := Int.mul_right_comm ..
  constructor
  · exact Int.le_of_mul_le_mul_right (by omega) hb
  · exact Int.lt_of_mul_lt_mul_right (by omega) (Int.le_of_lt hb)
theorem On.thr {x1 y1 x2 y2 a b c d sx sy : Int} (h : On x1 y1 x2 y2 a b c d) (h1 : (2 * sx - 1) * b ≤ 2 * a) (h2 : 2 * a < (2 * sx + 1) * b) (h3 : (2 * sy - 1) * d ≤ 2 * c) (h4 : 2 * c < (2 * sy + 1) * d) : Thr x1 y1 x2 y2 sx sy := by
  obtain ⟨hb, hd, n, m, hm, h0, hn, e1, e2⟩ := h
  have k := on_half hm hb e1 h1 h2
  have l := on_half hm hd e2 h3 h4
  exact ⟨n, m, hm, h0, hn, k.1, k.2, l.1, l.2⟩
theorem On.spot {x1 y1 x2 y2 a c : Int} (h : On x1 y1 x2 y2 a 1 c 1) : Thr x1 y1 x2 y2 a c := h.thr (by omega) (by omega) (by omega) (by omega)
/-- the place where lines cross, at a time between -/
theorem on_low {x1 y1 x2 y2 l0 l1 : Int} (hw : l0 - l1 ≠ 0) (hl : ¬ l0 * l1 > 0) : On x1 y1 x2 y2 (lowA (x1 * (l0 - l1) + (x2 - x1) * l0) (l0 - l1)) (lowB (x1 * (l0 - l1) + (x2 - x1) * l0) (l0 - l1)) (lowA (y1 * (l0 - l1) + (y2 - y1) * l0) (l0 - l1)) (lowB (y1 * (l0 - l1) + (y2 - y1) * l0) (l0 - l1)) := by
  have f1 := low_frac (a := x1 * (l0 - l1) + (x2 - x1) * l0) hw
  have f2 := low_frac (a := y1 * (l0 - l1) + (y2 - y1) * l0) hw
  refine ⟨f1.1, f2.1, ?_⟩
  rcases Int.lt_or_lt_of_ne hw with z | z
  · refine ⟨-l0, -(l0 - l1), by omega, ?_, ?_, ?_, ?_⟩
    · rcases Int.lt_or_le 0 l0 with y | y
      · have := Int.mul_pos y (show 0 < l1 by omega)
        omega
      · omega
    · rcases Int.lt_or_le l1 0 with y | y
      · have := Int.mul_pos_of_neg_of_neg (show l0 < 0 by omega) y
        omega
      · omega
    · rw [Int.mul_neg, Int.mul_neg, Int.mul_neg, f1.2, ← Int.neg_mul]
      congr 1
      omega
    · rw [Int.mul_neg, Int.mul_neg, Int.mul_neg, f2.2, ← Int.neg_mul]
      congr 1
      omega
  · refine ⟨l0, l0 - l1, by omega, ?_, ?_, f1.2, f2.2⟩
    · rcases Int.lt_or_le l0 0 with y | y
      · have := Int.mul_pos_of_neg_of_neg y (show l1 < 0 by omega)
        omega
      · exact y
    · rcases Int.lt_or_le 0 l1 with y | y
      · have := Int.mul_pos (show 0 < l0 by omega) y
        omega
      · omega
/-- a whole point on the line, between the ends in the order of pairs -/
def LeP (p q : Int × Int) : Prop := p = q ∨ ltP p.1 p.2 q.1 q.2
theorem on_line {x1 y1 x2 y2 a c : Int} (hne : ¬ (x1 = x2 ∧ y1 = y2)) (h0 : crs x1 y1 x2 y2 a c = 0) (h1 : (x1 ≤ a ∧ a ≤ x2) ∨ (x2 ≤ a ∧ a ≤ x1)) (h2 : (y1 ≤ c ∧ c ≤ y2) ∨ (y2 ≤ c ∧ c ≤ y1)) : On x1 y1 x2 y2 a 1 c 1 := by
  refine ⟨by decide, by decide, ?_⟩
  unfold crs at h0
  rcases Int.lt_trichotomy x1 x2 with z | z | z
  · refine ⟨a - x1, x2 - x1, by omega, by omega, by omega, ?_, ?_⟩
    · rw [Int.mul_one, Int.mul_comm x1, ← Int.mul_add, Int.mul_comm]
      congr 1
      omega
    · rw [Int.mul_one, show (y2 - y1) * (a - x1) = (x2 - x1) * (c - y1) by omega, Int.mul_comm y1, ← Int.mul_add, Int.mul_comm]
      congr 1
      omega
  · subst z
    have e : a = x1 := by omega
    subst e
    rcases Int.lt_trichotomy y1 y2 with y | y | y
    · refine ⟨c - y1, y2 - y1, by omega, by omega, by omega, ?_, ?_⟩
      · rw [Int.sub_self, Int.zero_mul, Int.add_zero, Int.mul_one]
      · rw [Int.mul_one, Int.mul_comm y1, ← Int.mul_add, Int.mul_comm]
        congr 1
        omega
    · exact absurd ⟨rfl, y⟩ hne
    · refine ⟨y1 - c, y1 - y2, by omega, by omega, by omega, ?_, ?_⟩
      · rw [Int.sub_self, Int.zero_mul, Int.add_zero, Int.mul_one]
      · rw [Int.mul_one, show (y2 - y1) * (y1 - c) = (y1 - y2) * (c - y1) by rw [← Int.neg_mul_neg]; congr 1 <;> omega, Int.mul_comm y1, ← Int.mul_add, Int.mul_comm]
        congr 1
        omega
  · refine ⟨x1 - a, x1 - x2, by omega, by omega, by omega, ?_, ?_⟩
    · rw [Int.mul_one, show (x2 - x1) * (x1 - a) = (x1 - x2) * (a - x1) by rw [← Int.neg_mul_neg]; congr 1 <;> omega, Int.mul_comm x1, ← Int.mul_add, Int.mul_comm]
      congr 1
      omega
    · rw [Int.mul_one, show (y2 - y1) * (x1 - a) = (x1 - x2) * (c - y1) by
        have e1 : (y2 - y1) * (x1 - a) = - ((y2 - y1) * (a - x1)) := by rw [← Int.mul_neg]; congr 1; omega
        have e2 : (x1 - x2) * (c - y1) = - ((x2 - x1) * (c - y1)) := by rw [← Int.neg_mul]; congr 1; omega
        omega, Int.mul_comm y1, ← Int.mul_add, Int.mul_comm]
      congr 1
      omega
theorem minP_le (p q : Int × Int) : LeP (minP p q) p ∧ LeP (minP p q) q := by
  unfold minP LeP
  split
  · rename_i h
    exact ⟨.inr h, .inl rfl⟩
  · rename_i h
    refine ⟨.inl rfl, ?_⟩
    by_cases c : p = q
    · exact .inl c
    · right
      unfold ltP at *
      have := pair_ne c
      omega
theorem le_maxP (p q : Int × Int) : LeP p (maxP p q) ∧ LeP q (maxP p q) := by
  unfold maxP LeP
  split
  · rename_i h
    exact ⟨.inr h, .inl rfl⟩
  · rename_i h
    refine ⟨.inl rfl, ?_⟩
    by_cases c : q = p
    · exact .inl c
    · right
      unfold ltP at *
      have := pair_ne c
      omega
theorem LeP.num {p q : Int × Int} (h : LeP p q) : p.1 < q.1 ∨ (p.1 = q.1 ∧ p.2 ≤ q.2) := by
  rcases h with h | h
  · subst h; exact .inr ⟨rfl, Int.le_refl _⟩
  · unfold ltP at h; omega
theorem LeP.trans {p q r : Int × Int} (h : LeP p q) (h' : LeP q r) : LeP p r := by
  have a := h.num
  have b := h'.num
  by_cases c : p = r
  · exact .inl c
  · right
    have := pair_ne c
    unfold ltP
    omega
/-- between the ends in the order of pairs, on the line: between in both parts -/
theorem line_between {x1 y1 x2 y2 a c : Int} (hne : ¬ (x1 = x2 ∧ y1 = y2)) (h0 : crs x1 y1 x2 y2 a c = 0) (h1 : LeP (minP (x1, y1) (x2, y2)) (a, c)) (h2 : LeP (a, c) (maxP (x1, y1) (x2, y2))) : On x1 y1 x2 y2 a 1 c 1 := by
  have hx : (x1 ≤ a ∧ a ≤ x2) ∨ (x2 ≤ a ∧ a ≤ x1) := by
    have k1 := h1.num
    have k2 := h2.num
    unfold minP at k1
    unfold maxP at k2
    dsimp only at k1 k2
    by_cases c1 : ltP x1 y1 x2 y2
    · have c2 : ¬ ltP x2 y2 x1 y1 := by unfold ltP at *; omega
      rw [if_neg c2] at k1
      rw [if_pos c1] at k2
      dsimp only at k1 k2
      unfold ltP at c1
      omega
    · rw [if_neg c1] at k2
      have c2 : ltP x2 y2 x1 y1 := by unfold ltP at *; omega
      rw [if_pos c2] at k1
      dsimp only at k1 k2
      unfold ltP at c2
      omega
  have hy : (y1 ≤ c ∧ c ≤ y2) ∨ (y2 ≤ c ∧ c ≤ y1) := by
    by_cases ex : x1 = x2
    · have k1 := h1.num
      have k2 := h2.num
      unfold minP at k1
      unfold maxP at k2
      dsimp only at k1 k2
      by_cases c1 : ltP x1 y1 x2 y2
      · have c2 : ¬ ltP x2 y2 x1 y1 := by unfold ltP at *; omega
        rw [if_neg c2] at k1
        rw [if_pos c1] at k2
        dsimp only at k1 k2
        unfold ltP at c1
        omega
      · rw [if_neg c1] at k2
        have c2 : ltP x2 y2 x1 y1 := by unfold ltP at *; omega
        rw [if_pos c2] at k1
        dsimp only at k1 k2
        unfold ltP at c2
        omega
    · unfold crs at h0
      have e : (x2 - x1) * (c - y1) = (y2 - y1) * (a - x1) := by omega
      have key : ∀ u v s t : Int, u ≠ 0 → u * t = v * s → ((0 ≤ s ∧ s ≤ u) ∨ (u ≤ s ∧ s ≤ 0)) → (0 ≤ t ∧ t ≤ v) ∨ (v ≤ t ∧ t ≤ 0) := fun u v s t hu e h => by
        rcases h with ⟨h1, h2⟩ | ⟨h1, h2⟩
        · rcases Int.le_total 0 v with z | z
          · left
            have a1 := Int.mul_nonneg z h1
            have a2 := Int.mul_le_mul_of_nonneg_left h2 z
            rw [Int.mul_comm v u] at a2
            exact ⟨Int.le_of_mul_le_mul_left (by rw [Int.mul_zero]; omega) (show 0 < u by omega), Int.le_of_mul_le_mul_left (a := u) (by omega) (by omega)⟩
          · right
            have a1 := Int.mul_nonneg (show 0 ≤ -v by omega) h1
            have a2 := Int.mul_le_mul_of_nonneg_left h2 (show 0 ≤ -v by omega)
            rw [Int.neg_mul, Int.neg_mul, Int.mul_comm v u] at a2
            rw [Int.neg_mul] at a1
            exact ⟨Int.le_of_mul_le_mul_left (a := u) (by omega) (by omega), Int.le_of_mul_le_mul_left (a := u) (by rw [Int.mul_zero]; omega) (by omega)⟩
        · rcases Int.le_total 0 v with z | z
          · left
            have a1 := Int.mul_nonneg z (show 0 ≤ -s by omega)
            have a2 := Int.mul_le_mul_of_nonneg_left h1 z
            rw [Int.mul_comm v u] at a2
            rw [Int.mul_neg] at a1
            have f1 : (-u) * t = -(u * t) := Int.neg_mul ..
            have f2 : (-u) * v = -(u * v) := Int.neg_mul ..
            exact ⟨Int.le_of_mul_le_mul_left (a := -u) (by rw [Int.mul_zero]; omega) (by omega), Int.le_of_mul_le_mul_left (a := -u) (by omega) (by omega)⟩
          · right
            have a1 := Int.mul_nonneg (show 0 ≤ -v by omega) (show 0 ≤ -s by omega)
            have a2 := Int.mul_le_mul_of_nonneg_left h1 (show 0 ≤ -v by omega)
            rw [Int.neg_mul, Int.neg_mul, Int.mul_comm v u] at a2
            rw [Int.neg_mul_neg] at a1
            have f1 : (-u) * t = -(u * t) := Int.neg_mul ..
            have f2 : (-u) * v = -(u * v) := Int.neg_mul ..
            exact ⟨Int.le_of_mul_le_mul_left (a := -u) (by omega) (by omega), Int.le_of_mul_le_mul_left (a := -u) (by rw [Int.mul_zero]; omega) (by omega)⟩
      have := key (x2 - x1) (y2 - y1) (a - x1) (c - y1) (by omega) e (by omega)
      omega
  exact on_line hne h0 hx hy
/-- all that is told of a meeting lies on both -/
def MetOn (x1 y1 x2 y2 : Int) : Met → Prop
  | .no => True
  | .pt a b c d => On x1 y1 x2 y2 a b c d
  | .along p1 p2 q1 q2 => On x1 y1 x2 y2 p1 1 p2 1 ∧ On x1 y1 x2 y2 q1 1 q2 1
theorem crs_end1 (x1 y1 x2 y2 : Int) : crs x1 y1 x2 y2 x1 y1 = 0 := by unfold crs; rw [Int.sub_self, Int.sub_self, Int.mul_zero, Int.mul_zero]; rfl
theorem crs_end2 (x1 y1 x2 y2 : Int) : crs x1 y1 x2 y2 x2 y2 = 0 := by unfold crs; rw [Int.mul_comm]; exact Int.sub_self _
theorem min_crs {x1 y1 x2 y2 : Int} {p q : Int × Int} (h : crs x1 y1 x2 y2 p.1 p.2 = 0) (h' : crs x1 y1 x2 y2 q.1 q.2 = 0) : crs x1 y1 x2 y2 (minP p q).1 (minP p q).2 = 0 := by unfold minP; split <;> assumption
theorem max_crs {x1 y1 x2 y2 : Int} {p q : Int × Int} (h : crs x1 y1 x2 y2 p.1 p.2 = 0) (h' : crs x1 y1 x2 y2 q.1 q.2 = 0) : crs x1 y1 x2 y2 (maxP p q).1 (maxP p q).2 = 0 := by unfold maxP; split <;> assumption
theorem meet_on {x1 y1 x2 y2 u1 v1 u2 v2 : Int} (hne : ¬ (x1 = x2 ∧ y1 = y2)) (hne' : ¬ (u1 = u2 ∧ v1 = v2)) : MetOn u1 v1 u2 v2 (meetL x1 y1 x2 y2 u1 v1 u2 v2) := by
  unfold meetL
  dsimp only
  by_cases c : crs x1 y1 x2 y2 u1 v1 = 0 ∧ crs x1 y1 x2 y2 u2 v2 = 0
  · rw [if_pos c]
    have c' := line_swap hne c.1 c.2
    have e1 := crs_end1 u1 v1 u2 v2
    have e2 := crs_end2 u1 v1 u2 v2
    have clo := max_crs (min_crs (p := (x1, y1)) (q := (x2, y2)) c'.1 c'.2) (min_crs (p := (u1, v1)) (q := (u2, v2)) e1 e2)
    have chi := min_crs (max_crs (p := (x1, y1)) (q := (x2, y2)) c'.1 c'.2) (max_crs (p := (u1, v1)) (q := (u2, v2)) e1 e2)
    have l1 := (le_maxP (minP (x1, y1) (x2, y2)) (minP (u1, v1) (u2, v2))).2
    have l2 := (minP_le (maxP (x1, y1) (x2, y2)) (maxP (u1, v1) (u2, v2))).2
    generalize maxP (minP (x1, y1) (x2, y2)) (minP (u1, v1) (u2, v2)) = lo at *
    generalize minP (maxP (x1, y1) (x2, y2)) (maxP (u1, v1) (u2, v2)) = hi at *
    obtain ⟨a, b⟩ := lo
    obtain ⟨d, e⟩ := hi
    dsimp only at *
    by_cases f : ltP a b d e
    · rw [if_pos f]
      have g : LeP (a, b) (d, e) := .inr f
      exact ⟨line_between hne' clo l1 (g.trans l2), line_between hne' chi (l1.trans g) l2⟩
    · rw [if_neg f]
      by_cases k : a = d ∧ b = e
      · rw [if_pos k]
        obtain ⟨rfl, rfl⟩ := k
        exact line_between hne' clo l1 l2
      · rw [if_neg k]
        trivial
  · rw [if_neg c]
    by_cases d : crs x1 y1 x2 y2 u1 v1 * crs x1 y1 x2 y2 u2 v2 > 0 ∨ crs u1 v1 u2 v2 x1 y1 * crs u1 v1 u2 v2 x2 y2 > 0
    · rw [if_pos d]
      trivial
    · rw [if_neg d]
      exact on_low (w_ne c (fun z => d (.inl z))) (fun z => d (.inl z))
theorem meet_both {x1 y1 x2 y2 u1 v1 u2 v2 : Int} (hne : ¬ (x1 = x2 ∧ y1 = y2)) (hne' : ¬ (u1 = u2 ∧ v1 = v2)) : MetOn x1 y1 x2 y2 (meetL x1 y1 x2 y2 u1 v1 u2 v2) ∧ MetOn u1 v1 u2 v2 (meetL x1 y1 x2 y2 u1 v1 u2 v2) := by
  refine ⟨?_, meet_on hne hne'⟩
  have k := meet_on hne' hne
  rw [meet_swap hne hne'] at k
  exact k
end DM

namespace DM
open PySem L2
def Part (x y : Int) : Prop := -1000000000 ≤ x ∧ x ≤ 1000000000 ∧ 0 < y ∧ y ≤ 1000000000
theorem mul_bd {b d : Int} (h1 : 0 < b) (h2 : b ≤ 1000000000) (h3 : 0 < d) (h4 : d ≤ 1000000000) : 0 < b * d ∧ b * d ≤ 1000000000 * 1000000000 :=
  ⟨Int.mul_pos h1 h3, Int.mul_le_mul h2 h4 (by omega) (by decide)⟩
theorem mul_ne {b d : Int} (h1 : 0 < b) (h2 : b ≤ 1000000000) (h3 : 0 < d) (h4 : d ≤ 1000000000) : b * d ≠ 0 ∧ (b * d).natAbs < 4611686018427387904 := by
  have := mul_bd h1 h2 h3 h4
  omega
theorem low_part {a b : Int} (h1 : -1000000000 < a) (h2 : a < 1000000000) (h3 : 0 < b) (h4 : b ≤ 1000000000) : Part (lowA a b) (lowB a b) := by
  have hg := gcd_pos (a := a) (b := b) (by omega)
  have c : ¬ b < 0 := by omega
  unfold lowA lowB Part
  rw [if_neg c, if_neg c]
  have hd : ((Int.gcd a b : Nat) : Int) ∣ b := Int.gcd_dvd_right ..
  have e1 := Int.ediv_mul_cancel hd
  generalize ((Int.gcd a b : Nat) : Int) = g at *
  refine ⟨?_, ?_, ?_, ?_⟩
  · refine (Int.le_ediv_iff_mul_le hg).mpr ?_
    have : g ≥ 1 := by omega
    have := Int.mul_le_mul_of_nonneg_left this (by decide : (0 : Int) ≤ 1000000000)
    omega
  · refine Int.le_of_lt_add_one ((Int.ediv_lt_iff_lt_mul hg).mpr ?_)
    have : g ≥ 1 := by omega
    have := Int.mul_le_mul_of_nonneg_left this (by decide : (0 : Int) ≤ 1000000000 + 1)
    omega
  · rcases Int.lt_trichotomy (b / g) 0 with z | z | z
    · have := Int.mul_neg_of_neg_of_pos z hg
      omega
    · rw [z] at e1
      omega
    · exact z
  · refine Int.le_of_lt_add_one ((Int.ediv_lt_iff_lt_mul hg).mpr ?_)
    have : g ≥ 1 := by omega
    have := Int.mul_le_mul_of_nonneg_left this (by decide : (0 : Int) ≤ 1000000000 + 1)
    omega
theorem low_sign {n b : Int} (hb : 0 < b) : (lowA n b < 0 ↔ n < 0) ∧ (0 < lowA n b ↔ 0 < n) := by
  have hg := gcd_pos (a := n) (b := b) (by omega)
  have c : ¬ b < 0 := by omega
  unfold lowA
  rw [if_neg c]
  have hd : ((Int.gcd n b : Nat) : Int) ∣ n := Int.gcd_dvd_left ..
  have e1 := Int.ediv_mul_cancel hd
  generalize ((Int.gcd n b : Nat) : Int) = g at *
  rcases Int.lt_trichotomy (n / g) 0 with z | z | z
  · have := Int.mul_neg_of_neg_of_pos z hg
    omega
  · rw [z] at e1
    omega
  · have := Int.mul_pos z hg
    omega
def spPart : Sp := fun vs H Q _ => ∃ (b l : Addr), vs = [.ref b] ∧ BagAt H b l ∧ ∀ (p : Addr) (H' : Hp) (x y : Int), BagAt H' b l → But b H H' → H' p = some (.tup [.int x, .int y]) → Part x y → Q (.ref p) H'
section
variable {P : Program} {w : World} {K : PySem.W.Frag} {mg : Str → Option Value} {base : Heap} {f : Addr} {fd : FuncData}
end
end DM

namespace DM
open PySem L2
def nearI (a b : Int) : Int := (2 * a + b) / (2 * b)
theorem near_ok {a b : Int} (hb : 0 < b) : (2 * nearI a b - 1) * b ≤ 2 * a ∧ 2 * a < (2 * nearI a b + 1) * b := by
  unfold nearI
  have h1 := Int.mul_ediv_self_le (x := 2 * a + b) (k := 2 * b) (by omega)
  have h2 := Int.lt_mul_ediv_self_add (x := 2 * a + b) (k := 2 * b) (by omega)
  generalize (2 * a + b) / (2 * b) = n at *
  have e : 2 * b * n = 2 * (n * b) := by rw [Int.mul_assoc, Int.mul_comm b n]
  have e1 : (2 * n - 1) * b = 2 * (n * b) - b := by rw [Int.sub_mul, Int.mul_assoc, Int.one_mul]
  have e2 : (2 * n + 1) * b = 2 * (n * b) + b := by rw [Int.add_mul, Int.mul_assoc, Int.one_mul]
  rw [e] at h1 h2
  rw [e1, e2]
  omega
def spNear : Sp := fun vs H Q _ => ∃ (p : Addr) (a b : Int), vs = [.ref p] ∧ H p = some (.tup [.int a, .int b]) ∧ Part a b ∧ Q (.int (nearI a b)) H
section
variable {P : Program} {w : World} {K : PySem.W.Frag} {mg : Str → Option Value} {base : Heap} {f : Addr} {fd : FuncData}
abbrev s_nearest : Stmt := top 8
theorem sc_nearest : FnScope ["one"] ["one"] (defScope s_nearest) := ⟨rfl, rfl, rfl, by decide +kernel, rfl, by decide +kernel, by decide +kernel⟩
theorem ok_nearest (F : Fun K "nearest" "nearest" s_nearest f fd) : FnOk P w K mg base CX0 1 f fd ["one"] spNear := by
  refine F.ok sc_nearest (fun vs H Q E h => ?_) (fun cdv A outer s H vs Q E hr h => ?_)
  · obtain ⟨p, a, b, rfl, _⟩ := h
    rfl
  obtain ⟨p, a, b, rfl, hp, k, q⟩ := h
  refine ⟨_, (pss_one (ps_ret (pe_op op_fdivW (pe_op op_add (pe_op op_mul pe_int (pe_ix ix_tup (pv 0) pe_int (fun _ _ => rfl))) (pe_ix ix_tup (pv 0) pe_int (fun _ _ => rfl))) (pe_op op_mul pe_int (pe_ix ix_tup (pv 0) pe_int (fun _ _ => rfl)))))), ?_⟩
  unfold Part at k
  refine ⟨_, rfl, p, _, _, _, rfl, rfl, SqT.of hp, rfl, _, _, rfl, rfl, .inl ⟨by decide, by decide⟩, _, rfl, p, _, _, _, rfl, rfl, SqT.of hp, rfl, _, _, rfl, rfl, ?_⟩
  refine ⟨_, rfl, p, _, _, _, rfl, rfl, SqT.of hp, rfl, _, _, rfl, rfl, .inl ⟨by decide, by decide⟩, _, _, rfl, rfl, wide_div (b := 62) (by omega) (by omega) (by decide) (by decide), ?_⟩
  exact q
end
end DM

namespace DM
open PySem L2
def spSquare : Sp := fun vs H Q _ => ∃ (p px py : Addr) (a b c d : Int), vs = [.ref p] ∧ H p = some (.tup [.ref px, .ref py]) ∧ H px = some (.tup [.int a, .int b]) ∧ H py = some (.tup [.int c, .int d]) ∧ Part a b ∧ Part c d ∧
  ∀ (r : Addr) (H' : Hp), Same H H' → H' r = some (.tup [.int (nearI a b), .int (nearI c d)]) → Q (.ref r) H'
section
variable {P : Program} {w : World} {K : PySem.W.Frag} {mg : Str → Option Value} {base : Heap} {f : Addr} {fd : FuncData}
abbrev s_square_of : Stmt := top 19
theorem sc_square_of : FnScope ["place", "x", "y"] ["place"] (defScope s_square_of) := ⟨rfl, rfl, rfl, by decide +kernel, rfl, by decide +kernel, by decide +kernel⟩
theorem ok_square_of (c_nearest : Cal P w K mg base 1 "nearest" ["one"] spNear) (F : Fun K "square_of" "square_of" s_square_of f fd) : FnOk P w K mg base CX0 2 f fd ["place"] spSquare := by
  refine F.ok sc_square_of (fun vs H Q E h => ?_) (fun cdv A outer s H vs Q E hr h => ?_)
  · obtain ⟨p, px, py, a, b, c, d, rfl, _⟩ := h
    rfl
  obtain ⟨p, px, py, a, b, c, d, rfl, hp, hx, hy, k1, k2, q⟩ := h
  refine ⟨_, (pss_cons (ps_asg (pv 0) (pg_tup rfl (pgs_cons (pg_name (i := 1) sc_square_of.nd rfl (Or.inl rfl)) (pgs_cons (pg_name (i := 2) sc_square_of.nd rfl (Or.inl rfl)) pgs_nil))))
    (pss_one (ps_ret (pe_tup (pa_cons (pe_cal c_nearest hr (pa_cons (pv 1) pa_nil)) (pa_cons (pe_cal c_nearest hr (pa_cons (pv 2) pa_nil)) pa_nil)))))), ?_⟩
  refine ⟨_, rfl, p, _, rfl, SqT.of hp, rfl, _, _, rfl, _, _, rfl, rfl, ?_⟩
  refine ⟨_, rfl, px, a, b, rfl, hx, k1, ?_⟩
  refine ⟨_, rfl, py, c, d, rfl, hy, k2, ?_⟩
  exact ⟨sz (by decide : 2 ≤ 100000), fun r hr' => q r _ (same_new hr' _) upd_same⟩
end
end DM

namespace DM
/-! ### a meeting's numbers stay small -/
theorem mul_abs_le {a b m n : Int} (h1 : -m ≤ a) (h2 : a ≤ m) (h3 : -n ≤ b) (h4 : b ≤ n) : -(m * n) ≤ a * b ∧ a * b ≤ m * n := by
  have e1 := Int.mul_nonneg (show 0 ≤ m - a by omega) (show 0 ≤ n + b by omega)
  have e2 := Int.mul_nonneg (show 0 ≤ m + a by omega) (show 0 ≤ n - b by omega)
  have e3 := Int.mul_nonneg (show 0 ≤ m - a by omega) (show 0 ≤ n - b by omega)
  have e4 := Int.mul_nonneg (show 0 ≤ m + a by omega) (show 0 ≤ n + b by omega)
  simp only [Int.sub_mul, Int.mul_sub, Int.add_mul, Int.mul_add] at *
  omega
theorem minP_or (p q : Int × Int) : minP p q = p ∨ minP p q = q := by
  unfold minP
  split
  · exact .inr rfl
  · exact .inl rfl
theorem maxP_or (p q : Int × Int) : maxP p q = p ∨ maxP p q = q := by
  unfold maxP
  split
  · exact .inr rfl
  · exact .inl rfl
theorem num_small {x1 x2 A O : Int} (h1 : -40 ≤ x1 ∧ x1 ≤ 40) (h2 : -40 ≤ x2 ∧ x2 ≤ 40) (hA : 0 < A ∧ A ≤ 25600) (hO : 0 ≤ O ∧ O ≤ A) : -1000000000 < x1 * A + O * (x2 - x1) ∧ x1 * A + O * (x2 - x1) < 1000000000 := by
  have a := mul_abs_le (a := x1) (b := A) (m := 40) (n := 25600) (by omega) (by omega) (by omega) (by omega)
  have b := mul_abs_le (a := O) (b := x2 - x1) (m := 25600) (n := 80) (by omega) (by omega) (by omega) (by omega)
  omega
theorem met_part {x1 y1 x2 y2 u1 v1 u2 v2 : Int} (bs : -40 ≤ x1 ∧ x1 ≤ 40 ∧ -40 ≤ y1 ∧ y1 ≤ 40 ∧ -40 ≤ x2 ∧ x2 ≤ 40 ∧ -40 ≤ y2 ∧ y2 ≤ 40) (bt : -40 ≤ u1 ∧ u1 ≤ 40 ∧ -40 ≤ v1 ∧ v1 ≤ 40 ∧ -40 ≤ u2 ∧ u2 ≤ 40 ∧ -40 ≤ v2 ∧ v2 ≤ 40) {a b c d : Int} (h : meetL x1 y1 x2 y2 u1 v1 u2 v2 = .pt a b c d) : Part a b ∧ Part c d := by
  have k1 := crs_small (x1 := u1) (y1 := v1) (x2 := u2) (y2 := v2) (x3 := x1) (y3 := y1) (by omega) (by omega) (by omega)
  have k2 := crs_small (x1 := u1) (y1 := v1) (x2 := u2) (y2 := v2) (x3 := x2) (y3 := y2) (by omega) (by omega) (by omega)
  by_cases c0 : (x2 - x1) * (v2 - v1) - (y2 - y1) * (u2 - u1) = 0
  · by_cases c1 : (u1 - x1) * (y2 - y1) = (v1 - y1) * (x2 - x1)
    · rw [mp_line c0 c1] at h
      have hb : ∀ p : Int × Int, (p = (x1, y1) ∨ p = (x2, y2) ∨ p = (u1, v1) ∨ p = (u2, v2)) → -40 ≤ p.1 ∧ p.1 ≤ 40 ∧ -40 ≤ p.2 ∧ p.2 ≤ 40 := by
        rintro p (rfl | rfl | rfl | rfl) <;> dsimp only <;> omega
      have hl : -40 ≤ (maxP (minP (x1, y1) (x2, y2)) (minP (u1, v1) (u2, v2))).1 ∧ (maxP (minP (x1, y1) (x2, y2)) (minP (u1, v1) (u2, v2))).1 ≤ 40 ∧ -40 ≤ (maxP (minP (x1, y1) (x2, y2)) (minP (u1, v1) (u2, v2))).2 ∧ (maxP (minP (x1, y1) (x2, y2)) (minP (u1, v1) (u2, v2))).2 ≤ 40 := by
        apply hb
        rcases maxP_or (minP (x1, y1) (x2, y2)) (minP (u1, v1) (u2, v2)) with e | e <;> rw [e]
        · rcases minP_or (x1, y1) (x2, y2) with e | e <;> rw [e]
          · exact .inl rfl
          · exact .inr (.inl rfl)
        · rcases minP_or (u1, v1) (u2, v2) with e | e <;> rw [e]
          · exact .inr (.inr (.inl rfl))
          · exact .inr (.inr (.inr rfl))
      generalize maxP (minP (x1, y1) (x2, y2)) (minP (u1, v1) (u2, v2)) = lo at *
      split at h
      · cases h
      · split at h
        · cases h
          unfold Part
          omega
        · cases h
    · rw [mp_apart c0 c1] at h
      cases h
  · rw [mp_area] at c0
    have z3 := mp_other x1 y1 x2 y2 u1 v1
    obtain ⟨A, O, T, hA, hA', hc⟩ : ∃ A O T : Int, 0 < A ∧ A ≤ 25600 ∧ ((A = crs u1 v1 u2 v2 x1 y1 - crs u1 v1 u2 v2 x2 y2 ∧ O = crs u1 v1 u2 v2 x1 y1 ∧ T = - crs x1 y1 x2 y2 u1 v1) ∨ (A = -(crs u1 v1 u2 v2 x1 y1 - crs u1 v1 u2 v2 x2 y2) ∧ O = -crs u1 v1 u2 v2 x1 y1 ∧ T = crs x1 y1 x2 y2 u1 v1)) := by
      rcases Int.lt_or_lt_of_ne c0 with z | z
      · exact ⟨_, _, _, by omega, by omega, .inr ⟨rfl, rfl, rfl⟩⟩
      · exact ⟨_, _, _, z, by omega, .inl ⟨rfl, rfl, rfl⟩⟩
    rw [mp_cross hA hc] at h
    split at h
    · rename_i k
      cases h
      have n1 := num_small (x1 := x1) (x2 := x2) (A := A) (O := O) (by omega) (by omega) (by omega) (by omega)
      have n2 := num_small (x1 := y1) (x2 := y2) (A := A) (O := O) (by omega) (by omega) (by omega) (by omega)
      exact ⟨low_part n1.1 n1.2 hA (by omega), low_part n2.1 n2.2 hA (by omega)⟩
    · cases h
end DM

namespace DM
open PySem PySem.SeqAt Ob
open PySem.AutoSeq1 (wpAny_loadPart')
open PySem.MeetsSeq PySem.MeetsSeq2 PySem.MeetsSeq3
/-! ### t < u of two tuples: only the first place that differs has to be ordered -/
theorem tupFirst (p q : Addr) (us vs : Array Value) (n m : Nat) (d1 d2 : Option Addr) (l1 l2 : Array (Option Value)) (e r : Nat → Bool) :
    Meets (Builtin.«tuple.__lt__» ⟨[.ref p, .ref q], []⟩)
      (fun A R s => s.heap.get? p = some { cls := .type "tuple", dict := d1, data := .seq us n, slots := l1 } ∧ s.heap.get? q = some { cls := .type "tuple", dict := d2, data := .seq vs m, slots := l2 } ∧
        (∀ j (a : j < us.size) (b : j < vs.size), EqAt A.in1 s us[j] vs[j] (e j)) ∧
        (∀ j (a : j < us.size) (b : j < vs.size), (∀ k, k < j → e k = true) → e j = false → SeqAt.RcOp .Lt A.in1 s us[j] vs[j] (r j)) ∧
        R (.ok (.ret (.bool (lexAt e r (decide (us.size < vs.size)) 0 (min us.size vs.size))))) s) :=
  .of_wp fun prog w A R s want => by
    obtain ⟨hp, g, d, tk, os⟩ := s; obtain ⟨at1, at2, same, less, want⟩ := want
    have fact := AutoSeq1.sub_tuple_tuple
    have many : (us.toList.zip vs.toList).length = min us.size vs.size := by simp
    wp_walk using wpAny_loadPart' at1, wpAny_loadPart' at2, wpAny_forIn_list _ (fun rest b s' => b.1 = none ∧ s' = ⟨hp, g, d, tk, os⟩ ∧ ∃ i, rest = (us.toList.zip vs.toList).drop i ∧ (∀ k, k < i → e k = true) ∧
      R (.ok (.ret (.bool (lexAt e r (decide (us.size < vs.size)) i (min us.size vs.size - i))))) ⟨hp, g, d, tk, os⟩) _
    case turn =>
      rintro ⟨y, x⟩ rest b s' ⟨none', rfl, i, left, all, wish⟩
      have lt : i < (us.toList.zip vs.toList).length := by
        rcases Nat.lt_or_ge i (us.toList.zip vs.toList).length with c | c
        · exact c
        · rw [List.drop_of_length_le c] at left; cases left
      have lm : i < min us.size vs.size := many ▸ lt
      have b1 : i < us.size := Nat.lt_of_lt_of_le lm (Nat.min_le_left _ _)
      have b2 : i < vs.size := Nat.lt_of_lt_of_le lm (Nat.min_le_right _ _)
      rw [List.drop_eq_getElem_cons lt] at left
      injection left with pair more
      have ey : y = us[i] := by have := congrArg Prod.fst pair; simpa using this
      have ex : x = vs[i] := by have := congrArg Prod.snd pair; simpa using this
      subst ey ex
      rw [show min us.size vs.size - i = (min us.size vs.size - (i + 1)) + 1 by omega, lexAt_succ] at wish
      refine wpAny_bind (same i b1 b2 prog w _ _ ?_)
      cases c : e i with
      | true =>
        rw [c, if_pos rfl] at wish
        wp_walk
        refine ⟨rfl, rfl, i + 1, more, fun k hk => ?_, wish⟩
        rcases Nat.lt_succ_iff_lt_or_eq.mp hk with z | z
        · exact all k z
        · rw [z]; exact c
      | false =>
        rw [c, if_neg Bool.false_ne_true] at wish
        have one := less i b1 b2 all c prog w
        wp_walk using one
        exact ⟨_, rfl, by simpa using wish⟩
    case fin =>
      rintro ⟨b1, b2⟩ s' ⟨none', rfl, i, left, all, wish⟩
      simp only at none'
      subst none'
      have ge : min us.size vs.size ≤ i := by
        rcases Nat.lt_or_ge i (us.toList.zip vs.toList).length with c | c
        · rw [List.drop_eq_getElem_cons c] at left; cases left
        · exact many ▸ c
      rw [Nat.sub_eq_zero_of_le ge, lexAt_zero] at wish
      wp_walk
      exact ⟨_, rfl, by simpa [Builtin.Tuple.tupleCompareSizes] using wish⟩
    case h =>
      exact ⟨rfl, rfl, 0, rfl, fun k hk => absurd hk (Nat.not_lt_zero k), by simpa using want⟩
theorem tup_less {A : Around} {s : Shared} {p q : Addr} {us vs : Array Value} {e r : Nat → Bool} (h1 : s.heap.IsTuple p us) (h2 : s.heap.IsTuple q vs) (hu : A.units < cLine)
    (same : ∀ j (a : j < us.size) (b : j < vs.size), EqAt A.in1 s us[j] vs[j] (e j))
    (less : ∀ j (a : j < us.size) (b : j < vs.size), (∀ k, k < j → e k = true) → e j = false → SeqAt.RcOp .Lt A.in1 s us[j] vs[j] (r j)) :
    SeqAt.RcOp .Lt A s (.ref p) (.ref q) (lexAt e r (decide (us.size < vs.size)) 0 (min us.size vs.size)) := fun prog w E Q want => by
  obtain ⟨⟨c1, d1, o1, l1⟩, a1, k1, n, t1⟩ := id h1
  obtain ⟨⟨c2, d2, o2, l2⟩, a2, k2, m, t2⟩ := id h2
  simp only at k1 t1 k2 t2
  subst k1 t1 k2 t2
  exact richCompare_meets_room (op := .Lt) ⟨_, a1, rfl⟩ ⟨_, a2, rfl⟩ F.slot_tuple_lt F.entry_tuple_lt (F.args_tuple_lt_2 _ _) (tupFirst p q us vs n m d1 d2 l1 l2 e r) ⟨a1, a2, same, less, ⟨(fun x => nomatch x), want⟩⟩ hu
end DM

namespace DM
open PySem PySem.SeqAt PyProof.Rows Ob
/-! ### causes with their spots, as sorting compares them -/
structure Cause where
  x : Int
  y : Int
  wd : Str
  nm : Str
  th : Int ⊕ Str
deriving DecidableEq
def thD : Int ⊕ Str → PyData
  | .inl i => .int i
  | .inr z => .str z
def thTok : Int ⊕ Str → Int ⊕ List Nat
  | .inl i => .inl i
  | .inr z => .inr z.cps.toList
def Cause.tail (c : Cause) : List PyData := [.str c.wd, .str c.nm, thD c.th]
def Cause.dat (c : Cause) : PyData := .tuple [.tuple [.int c.x, .int c.y], .tuple c.tail]
def Cause.tok3 (c : Cause) : List (Int ⊕ List Nat) := [.inr c.wd.cps.toList, .inr c.nm.cps.toList, thTok c.th]
def Cause.toks (c : Cause) : List (Int ⊕ List Nat) := .inl c.x :: .inl c.y :: c.tok3
/-- texts that can be laid -/
def Cause.fit (c : Cause) : Prop := PyData.canLayAll0 c.tail = true
/-- with one word the last ones are of one kind -/
def Cause.ord (c c' : Cause) : Prop := c.wd = c'.wd → ((∃ i j, c.th = .inl i ∧ c'.th = .inl j) ∨ ∃ a b, c.th = .inr a ∧ c'.th = .inr b)
theorem reads_th {h : Heap} {v : Value} : ∀ {t t' : Int ⊕ Str} {as as' : List Addr}, Reads h v (thD t) as → Reads h v (thD t') as' → t = t'
  | .inl i, .inl j, _, _, r, r' => by cases r; cases r'; rfl
  | .inl i, .inr b, _, _, r, r' => by cases r; cases r'
  | .inr a, .inl j, _, _, r, r' => by cases r; cases r'
  | .inr a, .inr b, _, _, r, r' => by cases r; cases r'; rfl
theorem tup_items {h : Heap} {v : Value} {xs ys : List PyData} {as as' : List Addr} (r : Reads h v (.tuple xs) as) (r' : Reads h v (.tuple ys) as') : ∃ (vs : List Value) (bs bs' : List Addr), ReadsAll h vs xs bs ∧ ReadsAll h vs ys bs' := by
  cases r with
  | tuple h1 h2 h3 h4 =>
    cases r' with
    | tuple k1 k2 k3 k4 =>
      rw [h1] at k1; cases k1
      rw [h3] at k3; cases k3
      exact ⟨_, _, _, h4, k4⟩
theorem all_cons {h : Heap} {vs : List Value} {x y : PyData} {xs ys : List PyData} {as as' : List Addr} (r : ReadsAll h vs (x :: xs) as) (r' : ReadsAll h vs (y :: ys) as') : ∃ (v : Value) (us : List Value) (a b c d : List Addr), Reads h v x a ∧ Reads h v y b ∧ ReadsAll h us xs c ∧ ReadsAll h us ys d := by
  cases r with
  | cons a b => cases r' with
    | cons a' b' => exact ⟨_, _, _, _, _, _, a, a', b, b'⟩
theorem reads_cause {h : Heap} {v : Value} {c c' : Cause} {as as' : List Addr} (r : Reads h v c.dat as) (r' : Reads h v c'.dat as') : c = c' := by
  obtain ⟨vs, _, _, r1, r1'⟩ := tup_items r r'
  obtain ⟨v1, us, _, _, _, _, a1, a1', r2, r2'⟩ := all_cons r1 r1'
  obtain ⟨v2, us2, _, _, _, _, a2, a2', _, _⟩ := all_cons r2 r2'
  obtain ⟨ws, _, _, w1, w1'⟩ := tup_items a1 a1'
  obtain ⟨v3, _, _, _, _, _, b1, b1', w2, w2'⟩ := all_cons w1 w1'
  obtain ⟨v4, _, _, _, _, _, b2, b2', _, _⟩ := all_cons w2 w2'
  obtain ⟨zs, _, _, z1, z1'⟩ := tup_items a2 a2'
  obtain ⟨v5, _, _, _, _, _, d1, d1', z2, z2'⟩ := all_cons z1 z1'
  obtain ⟨v6, _, _, _, _, _, d2, d2', z3, z3'⟩ := all_cons z2 z2'
  obtain ⟨v7, _, _, _, _, _, d3, d3', _, _⟩ := all_cons z3 z3'
  have e5 := reads_th d3 d3'
  obtain ⟨x, y, wd, nm, th⟩ := c
  obtain ⟨x', y', wd', nm', th'⟩ := c'
  cases b1; cases b1'
  cases b2; cases b2'
  cases d1; cases d1'
  cases d2; cases d2'
  cases e5
  rfl
/-! less, at the first place that differs -/
theorem cps_inj {a b : Str} (h : a.cps.toList = b.cps.toList) : a = b := PySem.W.str_of_cps h
def lessAt (c c' : Cause) : Nat → Bool
  | 0 => decide (c.wd.cps.toList < c'.wd.cps.toList)
  | 1 => decide (c.nm.cps.toList < c'.nm.cps.toList)
  | _ => itemLt (thTok c.th) (thTok c'.th)
theorem lex_tok3 (c c' : Cause) (hd : ∀ a b : Int ⊕ Str, c.th = a → c'.th = b → (PyData.eqv (thD a) (thD b) = true ↔ a = b)) : lexAt (pairEq c.tail c'.tail) (lessAt c c') false 0 3 = lexLt itemOrd c.tok3 c'.tok3 := by
  have e0 : pairEq c.tail c'.tail 0 = (c.wd == c'.wd) := rfl
  have e1 : pairEq c.tail c'.tail 1 = (c.nm == c'.nm) := rfl
  have e2 : pairEq c.tail c'.tail 2 = PyData.eqv (thD c.th) (thD c'.th) := rfl
  unfold Cause.tok3
  rw [lexAt_succ, lexAt_succ, lexAt_succ, lexAt_zero, e0, e1, e2]
  by_cases h0 : c.wd = c'.wd
  · rw [if_pos (by rw [h0]; exact beq_self_eq_true _), h0, lex_self]
    by_cases h1 : c.nm = c'.nm
    · rw [if_pos (by rw [h1]; exact beq_self_eq_true _), h1, lex_self]
      by_cases h2 : c.th = c'.th
      · rw [if_pos ((hd _ _ rfl rfl).mpr h2), h2, lex_self]
        rfl
      · rw [if_neg (fun z => h2 ((hd _ _ rfl rfl).mp z)), lex_diff (O := itemOrd) (fun z => h2 ?_)]
        · rfl
        · cases e : c.th with
          | inl i => cases e' : c'.th with
            | inl j => rw [e, e'] at z; cases z; rfl
            | inr b => rw [e, e'] at z; cases z
          | inr a => cases e' : c'.th with
            | inl j => rw [e, e'] at z; cases z
            | inr b => rw [e, e'] at z; exact congrArg Sum.inr (cps_inj (Sum.inr.inj z))
    · rw [if_neg (by rw [beq_iff_eq]; exact h1), lex_diff (O := itemOrd) (fun z => h1 (cps_inj (Sum.inr.inj z)))]
      rfl
  · rw [if_neg (by rw [beq_iff_eq]; exact h0), lex_diff (O := itemOrd) (fun z => h0 (cps_inj (Sum.inr.inj z)))]
    rfl
end DM

namespace DM
open PySem PySem.SeqAt PyProof.Rows Ob
theorem eqv_th : ∀ a b : Int ⊕ Str, PyData.eqv (thD a) (thD b) = true ↔ a = b
  | .inl i, .inl j => by show (i == j) = true ↔ _; rw [beq_iff_eq]; exact ⟨fun h => by rw [h], fun h => Sum.inl.inj h⟩
  | .inl i, .inr b => ⟨(fun h => absurd (show false = true from h) (by decide)), (fun h => by cases h)⟩
  | .inr a, .inl j => ⟨(fun h => absurd (show false = true from h) (by decide)), (fun h => by cases h)⟩
  | .inr a, .inr b => by show (a == b) = true ↔ _; rw [beq_iff_eq]; exact ⟨fun h => by rw [h], fun h => Sum.inr.inj h⟩
theorem all_three {h : Heap} {l : List Value} {a b c : PyData} {as : List Addr} (r : ReadsAll h l [a, b, c] as) : ∃ (u v w : Value) (x y z : List Addr), l = [u, v, w] ∧ Reads h u a x ∧ Reads h v b y ∧ Reads h w c z := by
  cases r with
  | cons r1 t1 => cases t1 with
    | cons r2 t2 => cases t2 with
      | cons r3 t3 => cases t3; exact ⟨_, _, _, _, _, _, rfl, r1, r2, r3⟩
theorem all_two {h : Heap} {l : List Value} {a b : PyData} {as : List Addr} (r : ReadsAll h l [a, b] as) : ∃ (u v : Value) (x y : List Addr), l = [u, v] ∧ Reads h u a x ∧ Reads h v b y := by
  cases r with
  | cons r1 t1 => cases t1 with
    | cons r2 t2 => cases t2; exact ⟨_, _, _, _, rfl, r1, r2⟩
theorem less_str {A : Around} {s : Shared} {a b : Str} {u v : Value} {x y : List Addr} (r : Reads s.heap u (.str a) x) (r' : Reads s.heap v (.str b) y) : SeqAt.RcOp .Lt A s u v (decide (a.cps.toList < b.cps.toList)) := by
  cases r
  cases r'
  exact fun prog w E Q h => PySem.P.lt_str h
theorem less_int {A : Around} {s : Shared} {a b : Int} {u v : Value} {x y : List Addr} (r : Reads s.heap u (.int a) x) (r' : Reads s.heap v (.int b) y) : SeqAt.RcOp .Lt A s u v (decide (a < b)) := by
  cases r
  cases r'
  exact RcOp.lt_int _ _ _ _
theorem less_tail {A : Around} {s : Shared} {c c' : Cause} {a b : Value} {as bs : List Addr} (ra : Reads s.heap a (.tuple c.tail) as) (rb : Reads s.heap b (.tuple c'.tail) bs) (f : c.fit) (f' : c'.fit) (o : c.ord c') (hu : A.units + 3 < cLine) : SeqAt.RcOp .Lt A s a b (lexLt itemOrd c.tok3 c'.tok3) := by
  cases ra with
  | @tuple l o1 vs n _ as₁ h1 h2 h3 h4 =>
    cases rb with
    | @tuple l' o2 ws n' _ bs₁ k1 k2 k3 k4 =>
      have same := eqAt_readsAll c.tail c'.tail A.in1 s vs.toList ws.toList _ _ h4 k4 f f' (Nat.lt_of_le_of_lt (show A.units + 1 + min (PyData.depthAll c.tail) (PyData.depthAll c'.tail) ≤ A.units + 3 by
        have d : ∀ e : Cause, PyData.depthAll e.tail ≤ 0 := fun e => by
          obtain ⟨x, y, wd, nm, th⟩ := e
          cases th <;> exact Nat.le_refl 0
        have := d c
        omega) hu)
      obtain ⟨u0, u1, u2, _, _, _, eu, r0, r1, r2⟩ := all_three h4
      obtain ⟨w0, w1, w2, _, _, _, ew, q0, q1, q2⟩ := all_three k4
      obtain ⟨vl⟩ := vs
      obtain ⟨wl⟩ := ws
      have eu' : vl = [u0, u1, u2] := eu
      have ew' : wl = [w0, w1, w2] := ew
      subst eu'
      subst ew'
      have key := tup_less (A := A) (s := s) (e := pairEq c.tail c'.tail) (r := lessAt c c') ⟨_, h1, h2, _, h3⟩ ⟨_, k1, k2, _, k3⟩ (by omega) (fun j a b => by simpa using same j (by simpa using a) (by simpa using b)) (fun j a b all e => ?_)
      · have z : lexAt (pairEq c.tail c'.tail) (lessAt c c') false 0 3 = lexLt itemOrd c.tok3 c'.tok3 := lex_tok3 c c' fun a b _ _ => eqv_th a b
        rw [← z]
        exact key
      · match j, a with
        | 0, _ => exact less_str r0 q0
        | 1, _ => exact less_str r1 q1
        | 2, _ =>
          have e0 : (c.wd == c'.wd) = true := all 0 (by decide)
          rcases o (eq_of_beq e0) with ⟨i, k, z1, z2⟩ | ⟨y, x, z1, z2⟩
          · rw [z1] at r2
            rw [z2] at q2
            have : lessAt c c' 2 = decide (i < k) := by show itemLt (thTok c.th) (thTok c'.th) = _; rw [z1, z2]; rfl
            rw [this]
            exact less_int r2 q2
          · rw [z1] at r2
            rw [z2] at q2
            have : lessAt c c' 2 = decide (y.cps.toList < x.cps.toList) := by show itemLt (thTok c.th) (thTok c'.th) = _; rw [z1, z2]; rfl
            rw [this]
            exact less_str r2 q2
/-! the kind of keys -/
noncomputable def czKind (h : Heap) (cs : List Cause) : PyProof.Rows.KeyKind where
  toKeyOrd := listOrd itemOrd
  keyOf v := open Classical in if q : ∃ c, c ∈ cs ∧ ∃ as, Reads h v c.dat as then some q.choose.toks else none
  dflt := ([] : List (Int ⊕ List Nat))
theorem czKind_some {h : Heap} {cs : List Cause} {v : Value} {c : Cause} {as : List Addr} (hc : c ∈ cs) (r : Reads h v c.dat as) : (czKind h cs).keyOf v = some c.toks := by
  have q : ∃ c, c ∈ cs ∧ ∃ as, Reads h v c.dat as := ⟨c, hc, as, r⟩
  have e : (czKind h cs).keyOf v = some q.choose.toks := by
    show (open Classical in if q : ∃ c, c ∈ cs ∧ ∃ as, Reads h v c.dat as then some q.choose.toks else none) = _
    exact dif_pos q
  obtain ⟨_, as', r'⟩ := q.choose_spec
  rw [e, reads_cause r' r]
theorem czKind_inv {h : Heap} {cs : List Cause} {v : Value} {k : List (Int ⊕ List Nat)} (e : (czKind h cs).keyOf v = some k) : ∃ (c : Cause) (as : List Addr), c ∈ cs ∧ Reads h v c.dat as ∧ k = c.toks := by
  by_cases q : ∃ c, c ∈ cs ∧ ∃ as, Reads h v c.dat as
  · obtain ⟨c, hc, as, r⟩ := q
    rw [czKind_some hc r] at e
    exact ⟨c, as, hc, r, (Option.some.inj e).symm⟩
  · have e' : (czKind h cs).keyOf v = none := by
      show (open Classical in if q : ∃ c, c ∈ cs ∧ ∃ as, Reads h v c.dat as then some q.choose.toks else none) = _
      exact dif_neg q
    rw [e'] at e
    cases e
section
variable {prog : Program} {w : World} {A : Around} {s : Shared}
theorem spot_less (a b c d : Int) (m m' : List (Int ⊕ List Nat)) (h : ¬ (a = c ∧ b = d)) : lexLt itemOrd (.inl a :: .inl b :: m) (.inl c :: .inl d :: m') = decide (a < c ∨ (a = c ∧ b < d)) := by
  by_cases e : a = c
  · subst e
    have hb : b ≠ d := fun z => h ⟨rfl, z⟩
    rw [lex_self, lex_diff (O := itemOrd) (fun z => hb (Sum.inl.inj z))]
    show decide (b < d) = _
    apply decide_eq_decide.mpr
    omega
  · rw [lex_diff (O := itemOrd) (fun z => e (Sum.inl.inj z))]
    show decide (a < c) = _
    apply decide_eq_decide.mpr
    omega
theorem sorts_causes {vs : List Value} {cs : List Cause} (e : PySem.W.EachIs (fun v (c : Cause) => ∃ as, Reads s.heap v c.dat as) vs cs) (fit : ∀ c ∈ cs, c.fit) (ord : ∀ c ∈ cs, ∀ c' ∈ cs, c.ord c') (hu : A.units + 10 < cLine) : PySem.W.SortsAt prog w A s (czKind s.heap cs) vs := by
  refine ⟨fun v hv => ?_, tuples' (PySem.W.dataType (.tuple []) != Value.type "tuple"), ?_, fun h2 E Q hq => ?_⟩
  · obtain ⟨c, hc, as, r⟩ := e.left v hv
    exact ⟨_, czKind_some hc r⟩
  · intro E x y a b Q ha hb hq
    obtain ⟨c, as, hc, ra, rfl⟩ := czKind_inv ha
    obtain ⟨c', as', hc', rb, rfl⟩ := czKind_inv hb
    have fc := fit c hc
    have fc' := fit c' hc'
    have hq' : Q (lexLt itemOrd c.toks c'.toks) s := hq
    cases ra with
    | @tuple l o1 us n _ _ h1 h2 h3 h4 =>
      cases rb with
      | @tuple l' o2 ws n' _ _ k1 k2 k3 k4 =>
        obtain ⟨u0, u1, _, _, eu, r0, r1⟩ := all_two h4
        obtain ⟨w0, w1, _, _, ew, q0, q1⟩ := all_two k4
        obtain ⟨ul⟩ := us
        obtain ⟨wl⟩ := ws
        have eu' : ul = [u0, u1] := eu
        have ew' : wl = [w0, w1] := ew
        subst eu'
        subst ew'
        have d2 : ∀ z : Cause, PyData.depth (.tuple z.tail) ≤ 1 := fun z => by
          obtain ⟨x, y, wd, nm, th⟩ := z
          cases th <;> exact Nat.le_refl 1
        refine PySem.W.kat_lt h1 h3 k1 k3 ?_
        show PySem.W.KatLex prog w A false false Q [(u0, w0), (u1, w1)] 0 s
        refine PySem.W.kat_cons (eqAt_reads (.tuple [.int c.x, .int c.y]) (.tuple [.int c'.x, .int c'.y]) A s _ _ _ _ r0 q0 rfl rfl (Nat.lt_of_le_of_lt (Nat.add_le_add_left (Nat.min_le_left _ _) _) (show A.units + 1 < cLine by omega)) prog w _ _ ?_)
        have ev : PyData.eqv (.tuple [.int c.x, .int c'.x]) (.tuple [.int c.x, .int c'.x]) = true := by simp [PyData.eqv, PyData.eqvAll]
        by_cases sp : c.x = c'.x ∧ c.y = c'.y
        · have e1 : PyData.eqv (.tuple [.int c.x, .int c.y]) (.tuple [.int c'.x, .int c'.y]) = true := by rw [sp.1, sp.2]; simp [PyData.eqv, PyData.eqvAll]
          rw [e1]
          have hq2 : Q (lexLt itemOrd c.tok3 c'.tok3) s := by
            have z : lexLt itemOrd c.toks c'.toks = lexLt itemOrd c.tok3 c'.tok3 := by
              unfold Cause.toks
              rw [sp.1, sp.2, lex_self, lex_self]
            rw [z] at hq'
            exact hq'
          refine PySem.W.kat_yes (PySem.W.kat_cons (eqAt_reads (.tuple c.tail) (.tuple c'.tail) A s _ _ _ _ r1 q1 fc fc' (Nat.lt_of_le_of_lt (Nat.add_le_add_left (Nat.le_trans (Nat.min_le_left _ _) (d2 c)) _) (show A.units + 1 < cLine by omega)) prog w _ _ ?_))
          cases ee : PyData.eqv (.tuple c.tail) (.tuple c'.tail) with
          | true =>
            refine PySem.W.kat_yes (PySem.W.kat_nil ?_)
            have z : lexLt itemOrd c.tok3 c'.tok3 = false := by
              have t : ((c.wd == c'.wd) && ((c.nm == c'.nm) && (PyData.eqv (thD c.th) (thD c'.th) && true))) = true := ee
              simp only [Bool.and_eq_true, beq_iff_eq, and_true] at t
              have t3 := (eqv_th _ _).mp t.2.2
              unfold Cause.tok3
              rw [t.1, t.2.1, t3]
              exact lex_irrefl _
            rw [z] at hq2
            exact hq2
          | false =>
            refine PySem.W.kat_no ?_
            rw [oneLt'_eq]
            simp only [Bool.false_and, Bool.false_eq_true, if_false]
            exact wpAny_bind (less_tail r1 q1 fc fc' (ord c hc c' hc') (by omega) prog w _ _ (wpAny_truthy_bool hq2))
        · have e1 : PyData.eqv (.tuple [.int c.x, .int c.y]) (.tuple [.int c'.x, .int c'.y]) = false := by
            rw [← Bool.not_eq_true]
            intro z
            simp only [PyData.eqv, PyData.eqvAll, Bool.and_true, Bool.and_eq_true, beq_iff_eq] at z
            exact sp z
          rw [e1]
          refine PySem.W.kat_no (PySem.W.oneLt_alike (fun z => by cases z) r0 q0 (by simp [PySem.W.alike, PySem.W.alikeAll]) (by intro z; cases z) (Nat.lt_of_le_of_lt (Nat.add_le_add_left (Nat.min_le_left _ _) _) (show A.units + 1 < cLine by omega)) ?_)
          rw [PySem.W.dataLt_ii]
          have z : lexLt itemOrd c.toks c'.toks = _ := spot_less c.x c.y c'.x c'.y c.tok3 c'.tok3 sp
          rw [z] at hq'
          exact hq'
  · have e' : PySem.W.EachIs (fun v d => ∃ as, Reads s.heap v d as) vs (cs.map Cause.dat) := PySem.W.each_map (R := fun v d => ∃ as, Reads s.heap v d as) Cause.dat e
    obtain ⟨fs, t1, t2, t3⟩ := PySem.W.each_katTups e' fun d hd => by
      obtain ⟨c, _, rfl⟩ := List.mem_map.mp hd
      exact ⟨_, _, rfl⟩
    refine PySem.W.kat_kind (T := PySem.W.dataType (.tuple [])) t1 (by omega) (fun f hf => ?_) (beq_self_eq_true _) hq
    obtain ⟨x, r, as, m1, m2⟩ := t3 f hf
    obtain ⟨c, _, ec⟩ := List.mem_map.mp m1
    cases ec
    have z := PySem.W.looks_reads (M := model prog w) m2
    exact z
end
end DM
namespace DM
open PySem L2
def rSortCz (K : PySem.W.Frag) : List V → Hp → VK → Prop := fun vs H Q => ∃ (a : Addr) (bs : List (V × Cause)), vs = [.ref a] ∧ SqL K H a (bs.map (·.1)) ∧ (∀ b ∈ bs, Dp K H b.1 b.2.dat ∧ b.2.fit) ∧ (∀ b ∈ bs, ∀ b' ∈ bs, b.2.ord b'.2) ∧
  ∀ (cs : List (V × Cause)) (p : Addr), cs.Perm bs → cs.Pairwise (fun x y => PyProof.Rows.lexLt PyProof.Rows.itemOrd y.2.toks x.2.toks = false) → H p = none → Q (.ref p) (upd H p (.lst (cs.map (·.1))))
section
variable {X : Cx}
theorem each_relC : ∀ {bs : List (V × Cause)} {its : List Value}, Vals (bs.map (·.1)) its → PySem.W.EachIs (fun v (b : V × Cause) => RelV b.1 v) its bs
  | [], _, r => by cases r; exact .nil
  | b :: bs, _, r => by
    cases r with
    | cons h t => exact .cons h (each_relC t)
theorem rel_eachC : ∀ {bs : List (V × Cause)} {its : List Value}, PySem.W.EachIs (fun v (b : V × Cause) => RelV b.1 v) its bs → Vals (bs.map (·.1)) its
  | [], _, .nil => .nil
  | _ :: _, _, .cons h t => .cons h (rel_eachC t)
theorem each_told {pins : List (Addr × Obj)} {σ : St} {H : Hp} {s : Shared} (I : Inv X pins σ H s) {h' : Heap} (k : ∀ b o, s.heap.get? b = some o → h'.get? b = some o) : ∀ {bs : List (V × Cause)} {its : List Value}, (∀ b ∈ bs, Dp X.K H b.1 b.2.dat) → Vals (bs.map (·.1)) its → PySem.W.EachIs (fun v (c : Cause) => ∃ as, Reads h' v c.dat as) its (bs.map (·.2))
  | [], _, _, r => by cases r; exact .nil
  | b :: bs, _, hd, r => by
    cases r with
    | cons h t =>
      obtain ⟨as, z⟩ := Dp.reads I b.2.dat b.1 _ (hd b List.mem_cons_self) h
      exact .cons ⟨as, PyProof.Rows.Reads.keeps k z⟩ (each_told I k (fun c hc => hd c (List.mem_cons_of_mem _ hc)) t)
theorem each_keyed {h' : Heap} : ∀ {bs : List (V × Cause)} {its : List Value} (all : List Cause), (∀ b ∈ bs, b.2 ∈ all) → PySem.W.EachIs (fun v (c : Cause) => ∃ as, Reads h' v c.dat as) its (bs.map (·.2)) → PySem.W.EachIs (fun v (b : V × Cause) => (czKind h' all).keyOf v = some b.2.toks) its bs
  | [], _, _, _, .nil => .nil
  | b :: bs, _, all, hm, .cons ⟨as, r⟩ t => .cons (czKind_some (hm b List.mem_cons_self) r) (each_keyed all (fun c hc => hm c (List.mem_cons_of_mem _ hc)) t)
theorem cr_sortCz (hu : X.A.units + 64 < cLine) : CallR X (.builtin "sorted") (rSortCz X.K) := by
  intro pins s σ H vs us Q I r h
  obtain ⟨a, bs, rfl, hs, hd, ho, q⟩ := h
  obtain ⟨its, rv, hl, hz⟩ := I.list hs
  obtain ⟨u, rfl, ru⟩ := vals1 r
  obtain rfl : u = Value.ref a := ru
  rw [List.length_map] at hz
  have kp : ∀ b o, s.heap.get? b = some o → (PySem.W.sortingHeap (PySem.W.copyHeap s.heap its) (s.heap.objs.size + 1) its).get? b = some o := fun b o z => PySem.W.sorting_copy_old z
  have er := each_told I kp (fun b hb => (hd b hb).1) rv
  have il : its.length = bs.length := by have := rv.length; rw [List.length_map] at this; exact this.symm
  refine PySem.W.sorted_vals (κ := czKind (PySem.W.sortingHeap (PySem.W.copyHeap s.heap its) (s.heap.objs.size + 1) its) (bs.map (·.2))) hl.isList (sorts_causes (s := { s with heap := PySem.W.sortingHeap (PySem.W.copyHeap s.heap its) (s.heap.objs.size + 1) its }) er (fun c hc => ?_) (fun c hc c' hc' => ?_) (by show X.A.units + 1 + 1 + 10 < cLine; omega)) (by rw [il]; exact hz) ?_
  · obtain ⟨b, hb, rfl⟩ := List.mem_map.mp hc
    exact (hd b hb).2
  · obtain ⟨b, hb, rfl⟩ := List.mem_map.mp hc
    obtain ⟨b', hb', rfl⟩ := List.mem_map.mp hc'
    exact ho b hb b' hb'
  · have e := PySem.W.sortVals_each (κ := czKind (PySem.W.sortingHeap (PySem.W.copyHeap s.heap its) (s.heap.objs.size + 1) its) (bs.map (·.2))) (rev := false) (ks := its) (fun b : V × Cause => b.2.toks) (each_relC rv) (each_keyed (bs.map (·.2)) (fun b hb => List.mem_map.mpr ⟨b, hb, rfl⟩) er)
    generalize PySem.W.sortVals (czKind (PySem.W.sortingHeap (PySem.W.copyHeap s.heap its) (s.heap.objs.size + 1) its) (bs.map (·.2))) false its its = out at e
    obtain ⟨n, en⟩ := PyProof.Rows.sortedAll_at s.heap its out.toArray
    have tot := PySem.W.sortLe_total (PyProof.Rows.listOrd PyProof.Rows.itemOrd) false fun b : V × Cause => b.2.toks
    have pw := PySem.W.sort_pairwise tot bs
    have vb := rel_eachC e
    have pm := List.mergeSort_perm bs (PySem.W.sortLe (PyProof.Rows.listOrd PyProof.Rows.itemOrd) false fun b : V × Cause => b.2.toks)
    refine ⟨.ref (s.heap.objs.size + 1), upd H (s.heap.objs.size + 1) (.lst ((bs.mergeSort (PySem.W.sortLe (PyProof.Rows.listOrd PyProof.Rows.itemOrd) false fun b : V × Cause => b.2.toks)).map (·.1))), I.laid (t' := s.toks) (fun b o z => PyProof.Rows.sortedAll_old z) (Nat.le_succ _) (show ObjOk X.prog X.w _ _ _ (.lst ((bs.mergeSort (PySem.W.sortLe (PyProof.Rows.listOrd PyProof.Rows.itemOrd) false fun b : V × Cause => b.2.toks)).map (·.1))) from ⟨?_, out, n, vb, en⟩), rfl, q _ _ pm (pw.imp fun {x y} z => ?_) (I.hok.fresh (Nat.le_succ _))⟩
    · rw [List.length_map, pm.length_eq]
      exact hz
    · have z' : (!PyProof.Rows.lexLt PyProof.Rows.itemOrd y.2.toks x.2.toks) = true := z
      simpa using z'
end
end DM

namespace DM
open PySem L2
/-! ### pairs read off the heap -/
def prAt (H : Hp) : V → Int × Int
  | .ref a => match H a with
    | some (.tup [.int x, .int y]) => (x, y)
    | _ => (0, 0)
  | _ => (0, 0)
theorem prAt_of {H : Hp} {v : V} {p : Int × Int} (h : PrV H v p) : prAt H v = p := by
  obtain ⟨a, rfl, e⟩ := h
  simp only [prAt, e]
theorem Prs.map_at {H : Hp} {vs : List V} {L : List (Int × Int)} (h : Prs H vs L) : vs.map (prAt H) = L := by
  induction h with
  | nil => rfl
  | cons a _ ih => rw [List.map_cons, prAt_of a, ih]
theorem Prs.mem {H : Hp} {vs : List V} {L : List (Int × Int)} (h : Prs H vs L) : ∀ v ∈ vs, PrV H v (prAt H v) := by
  induction h with
  | nil => intro v hv; cases hv
  | cons a _ ih =>
    intro v hv
    rcases List.mem_cons.mp hv with rfl | hv
    · rw [prAt_of a]; exact a
    · exact ih v hv
theorem prs_of {H : Hp} : ∀ {vs : List V}, (∀ v ∈ vs, PrV H v (prAt H v)) → Prs H vs (vs.map (prAt H))
  | [], _ => .nil
  | v :: vs, h => .cons (h v List.mem_cons_self) (prs_of fun u hu => h u (List.mem_cons_of_mem _ hu))
theorem prs_imp {H : Hp} {vs : List V} {L : List (Int × Int)} (h : Prs H vs L) {us : List V} (hu : ∀ u ∈ us, u ∈ vs) : Prs H us (us.map (prAt H)) := prs_of fun u m => h.mem u (hu u m)
theorem Prs.take {H : Hp} {vs : List V} {L : List (Int × Int)} (h : Prs H vs L) : ∀ n : Nat, Prs H (vs.take n) (L.take n) := by
  induction h with
  | nil => intro n; rw [List.take_nil, List.take_nil]; exact .nil
  | cons a _ ih =>
    intro n
    cases n with
    | zero => exact .nil
    | succ n => exact .cons a (ih n)
theorem Prs.drop {H : Hp} {vs : List V} {L : List (Int × Int)} (h : Prs H vs L) : ∀ n : Nat, Prs H (vs.drop n) (L.drop n) := by
  induction h with
  | nil => intro n; rw [List.drop_nil, List.drop_nil]; exact .nil
  | cons a t ih =>
    intro n
    cases n with
    | zero => exact .cons a t
    | succ n => exact ih n
theorem Prs.append {H : Hp} {us ws : List V} {L M : List (Int × Int)} (h1 : Prs H us L) (h2 : Prs H ws M) : Prs H (us ++ ws) (L ++ M) := by
  induction h1 with
  | nil => exact h2
  | cons a _ ih => exact .cons a ih
/-! ### sorted lists are one -/
theorem sorted_perm {α : Type} {R : α → α → Prop} (asy : ∀ a b, R a b → ¬ R b a) : ∀ {l m : List α}, l.Perm m → l.Pairwise R → m.Pairwise R → l = m
  | [], m, h, _, _ => h.nil_eq
  | a :: l, [], h, _, _ => by simpa using h.length_eq
  | a :: l, b :: m, h, h1, h2 => by
    have hab : a = b := by
      rcases List.mem_cons.mp (h.mem_iff.mp (List.mem_cons_self (a := a) (l := l))) with e | e
      · exact e
      · rcases List.mem_cons.mp (h.symm.mem_iff.mp (List.mem_cons_self (a := b) (l := m))) with e' | e'
        · exact e'.symm
        · exact absurd ((List.pairwise_cons.mp h2).1 a e) (asy _ _ ((List.pairwise_cons.mp h1).1 b e'))
    subst hab
    rw [sorted_perm asy (h.cons_inv) (List.pairwise_cons.mp h1).2 (List.pairwise_cons.mp h2).2]
end DM

namespace DM
open PySem L2 LamX
/-! ### a def whose code object has a table of its own -/
section
variable {P : Program} {w : World} {K : PySem.W.Frag} {mg : Str → Option Value} {base : Heap}
theorem okT {x qual : Str} {st : Stmt} {f c : Addr} {fd : FuncData} {N ps : List Str} {k : Nat} {sp : Sp} (F : Fun K x qual st f fd) (mine : fd.code = .ref c) (S : FnScope N ps (defScope st)) (len : ∀ vs H Q E, sp vs H Q E → vs.length = ps.length)
    (body : ∀ (A : Around) (outer : List Env) (s : Shared) (H : Hp) (vs : List V) (Q : VK) (E : XK), Room k (A.deeper (PyProof.Rows.envOfC qual (defScope st) s.heap.objs.size f (.ref c))) → sp vs H Q E →
      ∃ t, PSs (cxOf CX0 P w K mg base N qual (defScope st) f (.ref c) A outer s H E).nox (defBody st) t ∧ t { nx := fun _ H' => Q .non H', rt := Q } (L2.start N vs) H) : FnOk P w K mg base CX0 (k + 1) f fd ps sp := by
  obtain ⟨oc, od, kV, doc, pm, an, cdv, ct, osl, rfl, lk, hcd⟩ := F.ex
  obtain rfl : cdv = .ref c := mine
  refine fn_of lk hcd S len fun A outer s H vs Q E hr hsp => ?_
  obtain ⟨t, h, q⟩ := body A outer s H vs Q E hr hsp
  exact ⟨t, h.nox, q⟩
end
/-- the table at Pt, for lambdas made in the def x -/
abbrev qLamOf (x : Str) (sc : Scope) : Str := (PyProof.Rows.envOfC x sc 0 0 .none).qual ++ "<lambda>"
/-! ### tables of code stay where only lists change -/
def KeepN (H H' : Hp) : Prop := ∀ b o, H b = some o → (∀ xs, o ≠ .lst xs) → H' b = some o
theorem KeepN.of {H H' : Hp} (e : Same H H') : KeepN H H' := fun b o h _ => e b o h
theorem KeepN.trans {H H1 H2 : Hp} (a : KeepN H H1) (b : KeepN H1 H2) : KeepN H H2 := fun c o h n => b c o (a c o h n) n
theorem KeepN.but {H H' : Hp} {b l : Addr} (hB : BagAt H b l) (e : But b H H') : KeepN H H' := fun c o h n => e c o (fun z => by
  obtain ⟨xs, hb⟩ := hB.hasB
  rw [z, hb] at h
  exact n xs (Option.some.inj h).symm) h
theorem KeepN.put {H : Hp} {D : Addr} {xs : List V} {o : HO} (h : H D = some (.lst xs)) : KeepN H (upd H D o) := fun c u hc n => by
  rw [upd_ne (fun z => by rw [z, h] at hc; exact n xs (Option.some.inj hc).symm)]
  exact hc
theorem tabs_keep {T : List (Addr × Str)} {H H' : Hp} (t : Tabs T H) (e : KeepN H H') : Tabs T H' := fun p hp => by
  obtain ⟨ps, h1, h2, h3⟩ := t p hp
  refine ⟨ps, e _ _ h1 (fun xs z => by cases z), h2, fun pos cv hc => ?_⟩
  obtain ⟨cc, z1, z2⟩ := h3 pos cv hc
  exact ⟨cc, z1, e _ _ z2 (fun xs z => by unfold CodeO at z; cases z)⟩
theorem BagAt.extN {H H' : Hp} {b l : Addr} (h : BagAt H b l) (e : ExtN H H') : BagAt H' b l := by
  obtain ⟨ns, i, g, s, h1, h2, r⟩ := h
  exact ⟨ns, i, g, s, e _ _ h1 (fun ps z => by cases z), e _ _ h2 (fun ps z => by cases z), r⟩
theorem PrV.ext {H H' : Hp} {v : V} {p : Int × Int} (h : PrV H v p) (e : ExtN H H') : PrV H' v p := by
  obtain ⟨a, rfl, z⟩ := h
  exact ⟨a, rfl, e _ _ z (fun ps z => by cases z)⟩
theorem Prs.ext {H H' : Hp} {vs : List V} {L : List (Int × Int)} (h : Prs H vs L) (e : ExtN H H') : Prs H' vs L := by
  induction h with
  | nil => exact .nil
  | cons a _ ih => exact .cons (a.ext e) ih
theorem ext_tup {H H' : Hp} (e : ExtN H H') {a : Addr} {xs : List V} (h : H a = some (.tup xs)) : H' a = some (.tup xs) := e _ _ h (fun ps z => by cases z)
theorem ext_lst {H H' : Hp} (e : ExtN H H') {a : Addr} {xs : List V} (h : H a = some (.lst xs)) : H' a = some (.lst xs) := e _ _ h (fun ps z => by cases z)
def spLawTs (K : PySem.W.Frag) (Ps : List Addr) : Sp := fun vs H Q _ => ∃ (a : Addr) (ns : List Int), vs = [.ref a] ∧ SqL K H a (ns.map V.int) ∧ ns.length ≤ 63 ∧ (∀ P ∈ Ps, H P = some (.tbl #[])) ∧ ∀ H', Q (.bl true) H'
end DM

namespace DM
open PySem L2
/-! ### a list or a tuple, walked -/
inductive SeqIt (K : PySem.W.Frag) (a : Addr) (xs : List V) : It → HO → Prop
  | l : SeqIt K a xs (Itl K a) (.lst xs)
  | t : SeqIt K a xs (Itt K a) (.tup xs)
/-- o is the list or the tuple of xs -/
def SeqO (xs : List V) (o : HO) : Prop := o = .lst xs ∨ o = .tup xs
theorem SeqO.no {xs : List V} {o : HO} (h : SeqO xs o) : ∀ ps, o ≠ .tbl ps := by
  rcases h with rfl | rfl
  · exact fun ps z => by cases z
  · exact fun ps z => by cases z
theorem SeqO.sq {K : PySem.W.Frag} {H : Hp} {a : Addr} {xs : List V} {o : HO} (h : SeqO xs o) (e : H a = some o) : SqL K H a xs ∨ SqT K H a xs := by
  rcases h with rfl | rfl
  · exact .inl (SqL.of e)
  · exact .inr (SqT.of e)
def SqWalk (K : PySem.W.Frag) (H : Hp) (a : Addr) (R : It → Hp → Prop) : Prop := ((∃ xs, SqL K H a xs) ∧ R (Itl K a) H) ∨ ((∃ xs, SqT K H a xs) ∧ R (Itt K a) H)
def iSq (K : PySem.W.Frag) (tl : TE) : TI := fun σ H R => tl σ H fun x H1 => ∃ a, x = .ref a ∧ SqWalk K H1 a R
theorem isq_in {K : PySem.W.Frag} {a : Addr} {xs : List V} {H : Hp} {o : HO} {R : It → Hp → Prop} (so : SeqO xs o) (e : H a = some o) (h : ∀ J, SeqIt K a xs J o → R J H) : SqWalk K H a R := by
  rcases so with rfl | rfl
  · exact .inl ⟨⟨_, SqL.of e⟩, h _ .l⟩
  · exact .inr ⟨⟨_, SqT.of e⟩, h _ .t⟩
section
variable {X : Cx} {tg : Expr}
theorem pi_sq {l : Expr} {tl : TE} (hl : PE X l tl) : PI X tg l (iSq X.K tl) := by
  refine ⟨fun pins s σ H R I h => ?_⟩
  refine thn (hl.run pins s σ H _ I h) fun v s1 ⟨x, H1, I1, r1, a, e, q1⟩ => ?_
  subst e
  cases r1
  rcases q1 with ⟨⟨xs, hq⟩, q⟩ | ⟨⟨xs, hq⟩, q⟩
  · obtain ⟨its, rv, p, hz⟩ := I1.list hq
    refine wpAny_pyIter_list p.isList ⟨s1.heap.objs.size, [s1.heap.objs.size], _, _, H1, rfl, I1.kept (t' := s1.toks) fun b o e => Heap.get?_push_of_some _ e, turn_list a _, ⟨_, Heap.get?_push_size _ rfl, rfl, rfl⟩, fun b hb => ?_, q⟩
    cases List.mem_singleton.mp hb
    exact I1.fpOk (Nat.le_refl _) (I1.hok.fresh (Nat.le_refl _))
  · obtain ⟨its, rv, p, hz⟩ := I1.tuple hq
    refine wpAny_pyIter_tuple (show s1.heap.IsTuple a its.toArray from p) ⟨s1.heap.objs.size, [s1.heap.objs.size], _, _, H1, rfl, I1.kept (t' := s1.toks) fun b o e => Heap.get?_push_of_some _ e, turn_tuple a _, ⟨_, Heap.get?_push_size _ rfl, rfl, rfl⟩, fun b hb => ?_, q⟩
    cases List.mem_singleton.mp hb
    exact I1.fpOk (Nat.le_refl _) (I1.hok.fresh (Nat.le_refl _))
end
theorem lc_any {K : PySem.W.Frag} {a : Addr} {xs : List V} {J : It} {o : HO} {g : TG} {tt : TT} {te : TE} {vs : List Nat} {σ : St} {H1 : Hp} {D : Addr} {Qd : Hp → Prop} (w : SeqIt K a xs J o) (Pv : Nat → Hp → Prop) (h0 : Pv 0 (upd H1 D (.lst []))) (hl : ∀ i H, i ≤ xs.length → Pv i H → H a = some o)
    (hs : ∀ i x H, xs[i]? = some x → Pv i H → g x (wipe σ vs) H fun σ2 H2 => wipe σ2 vs = wipe σ vs ∧ tt σ2 H2 fun b H3 =>
      if b = true then te σ2 H3 fun y H4 => ∃ acc, H4 D = some (.lst acc) ∧ acc.length < sizeLine ∧ Pv (i + 1) (upd H4 D (.lst (acc ++ [y]))) else Pv (i + 1) H3) (hd : ∀ H, Pv xs.length H → Qd H) :
    ∃ W : Nat → Nat → Hp → Prop, (∃ m, W 0 m (upd H1 D (.lst []))) ∧ ∀ i m H, W i m H →
      (J.stop i H ∧ Qd H) ∨ (J.go i H ∧ ∃ Nx : Hp → Prop, (∀ H', Nx H' → ∃ m', m' < m ∧ W (i + 1) m' H') ∧ ∀ x H', J.yld i H x H' → g x (wipe σ vs) H' fun σ2 H2 => wipe σ2 vs = wipe σ vs ∧ tt σ2 H2 fun b H3 =>
        if b = true then te σ2 H3 fun y H4 => ∃ acc, H4 D = some (.lst acc) ∧ acc.length < sizeLine ∧ Nx (upd H4 D (.lst (acc ++ [y]))) else Nx H3) := by
  cases w with
  | l => exact lc_list Pv h0 (fun i H hi p => SqL.of (hl i H hi p)) hs hd
  | t => exact lc_tup Pv h0 (fun i H hi p => SqT.of (hl i H hi p)) hs hd
theorem for_any {K : PySem.W.Frag} {a : Addr} {xs : List V} {J : It} {o : HO} {g : TG} {tb : TS} {D : Ends} {σ : St} {H : Hp} (w : SeqIt K a xs J o) (Pv : Nat → St → Hp → Prop) (h0 : Pv 0 σ H) (hl : ∀ i σ H, i ≤ xs.length → Pv i σ H → H a = some o)
    (hs : ∀ i x σ H, xs[i]? = some x → Pv i σ H → g x σ H fun σ2 H2 => tb { D with nx := Pv (i + 1), ct := Pv (i + 1), bk := D.nx } σ2 H2) (hd : ∀ σ H, Pv xs.length σ H → D.nx σ H) :
    ∃ W : Nat → Nat → St → Hp → Prop, (∃ m, W 0 m σ H) ∧ ∀ i m σ H, W i m σ H →
      (J.stop i H ∧ D.nx σ H) ∨ (J.go i H ∧ ∃ N : St → Hp → Prop, (∀ σ' H', N σ' H' → ∃ m', m' < m ∧ W (i + 1) m' σ' H') ∧ ∀ x H', J.yld i H x H' → g x σ H' fun σ2 H2 => tb { D with nx := N, ct := N, bk := D.nx } σ2 H2) := by
  cases w with
  | l => exact for_list Pv h0 (fun i σ H hi p => SqL.of (hl i σ H hi p)) hs hd
  | t => exact for_tup Pv h0 (fun i σ H hi p => SqT.of (hl i σ H hi p)) hs hd
/-- a walk over a list or a tuple that stays, whatever a turn does -/
theorem any_walk {K : PySem.W.Frag} {a : Addr} {xs : List V} {J : It} {o : HO} {Step : V → Hp → (Hp → Prop) → Prop} {H0 : Hp} {Qd : Hp → Prop} (w : SeqIt K a xs J o) (Pv : Nat → Hp → Prop) (h0 : Pv 0 H0) (hl : ∀ i H, i ≤ xs.length → Pv i H → H a = some o)
    (hs : ∀ i x H, xs[i]? = some x → Pv i H → Step x H (Pv (i + 1))) (hd : ∀ H, Pv xs.length H → Qd H) :
    ∃ W : Nat → Nat → Hp → Prop, (∃ m, W 0 m H0) ∧ ∀ i m H, W i m H → (J.stop i H ∧ Qd H) ∨ (J.go i H ∧ ∃ Nx : Hp → Prop, (∀ H', Nx H' → ∃ m', m' < m ∧ W (i + 1) m' H') ∧ ∀ x H', J.yld i H x H' → Step x H' Nx) := by
  refine ⟨fun i m H => m = xs.length - i ∧ i ≤ xs.length ∧ Pv i H, ⟨_, rfl, Nat.zero_le _, h0⟩, ?_⟩
  rintro i m H ⟨rfl, hi, p⟩
  have q := hl i H hi p
  rcases Nat.lt_or_ge i xs.length with lt | ge
  · right
    obtain ⟨x, hx⟩ : ∃ x, xs[i]? = some x := ⟨_, List.getElem?_eq_getElem lt⟩
    have nxt : ∀ H', Pv (i + 1) H' → ∃ m', m' < xs.length - i ∧ m' = xs.length - (i + 1) ∧ i + 1 ≤ xs.length ∧ Pv (i + 1) H' := fun H' z => ⟨_, by omega, rfl, lt, z⟩
    cases w with
    | l => exact ⟨⟨xs, x, SqL.of q, hx⟩, Pv (i + 1), nxt, fun y H' ⟨e, z⟩ => by subst e; have e2 := z xs (SqL.of q); rw [hx] at e2; cases e2; exact hs i x _ hx p⟩
    | t => exact ⟨⟨xs, x, SqT.of q, hx⟩, Pv (i + 1), nxt, fun y H' ⟨e, z⟩ => by subst e; have e2 := z xs (SqT.of q); rw [hx] at e2; cases e2; exact hs i x _ hx p⟩
  · left
    have e : i = xs.length := by omega
    subst e
    cases w with
    | l => exact ⟨⟨xs, SqL.of q, Nat.le_refl _⟩, hd H p⟩
    | t => exact ⟨⟨xs, SqT.of q, Nat.le_refl _⟩, hd H p⟩
end DM

namespace DM
open PySem L2
/-- while, by what holds ahead of each turn and a number that falls: N is what the next turn may begin with -/
theorem while_own {c : TT} {tb : TS} {D : Ends} {σ : St} {H : Hp} (Pv : St → Hp → Prop) (μ : St → Hp → Nat) (h0 : Pv σ H)
    (hs : ∀ σ H (N : St → Hp → Prop), (∀ σ' H', Pv σ' H' → μ σ' H' < μ σ H → N σ' H') → (∀ σ' H', N σ' H' → ∃ m', m' < μ σ H ∧ m' = μ σ' H' ∧ Pv σ' H') → Pv σ H → c σ H fun b H1 => if b = true then ∃ N : St → Hp → Prop, (∀ σ' H', N σ' H' → ∃ m', m' < μ σ H ∧ m' = μ σ' H' ∧ Pv σ' H') ∧ tb { D with nx := N, ct := N, bk := D.nx } σ H1 else D.nx σ H1) : tWhile c tb D σ H := by
  refine ⟨fun m σ H => m = μ σ H ∧ Pv σ H, ⟨_, rfl, h0⟩, ?_⟩
  rintro m σ H ⟨rfl, p⟩
  exact hs σ H (fun σ' H' => Pv σ' H' ∧ μ σ' H' < μ σ H) (fun _ _ a b => ⟨a, b⟩) (fun _ _ z => ⟨_, z.2, rfl, z.1⟩) p
end DM

namespace DM
open PySem L2
/-! ### dict(l) of pairs whose keys are tuples -/
def mergeT (kvL more : List (List Key × V)) : List (List Key × V) := more.foldl (fun acc kv => putK acc kv.1 kv.2) kvL
theorem putT_len (kvL : List (List Key × V)) (k : List Key) (v : V) : (putK kvL k v).length ≤ kvL.length + 1 := by
  unfold putK
  split
  · rw [List.length_map]; omega
  · rw [List.length_append, List.length_singleton]; omega
theorem mergeT_len : ∀ (more kvL : List (List Key × V)), (mergeT kvL more).length ≤ kvL.length + more.length
  | [], kvL => Nat.le_refl _
  | p :: r, kvL => by
    have h := mergeT_len r (putK kvL p.1 p.2)
    have h' := putT_len kvL p.1 p.2
    rw [List.length_cons]
    show (mergeT (putK kvL p.1 p.2) r).length ≤ _
    omega
theorem mergeT_rel {H : Hp} : ∀ {more : List (List Key × V)} {rs : List (List Key × Addr × Value)} {kvL : List (List Key × V)} {xs : List (List Key × Addr × Value)}, KT H more rs → KT H kvL xs → KT H (mergeT kvL more) (storedAllH xs rs) := by
  intro more rs kvL xs r
  unfold KT at r
  induction r generalizing kvL xs with
  | nil => intro h; exact h
  | @cons p q ps qs isList t ih =>
    intro h
    obtain ⟨e1, e2, e3⟩ := isList
    refine ih (kvL := putK kvL p.1 p.2) (xs := storedH xs q.1 q.2.1 q.2.2) ?_
    rw [← e1]
    exact KT.put h p.1 e2 e3
section
variable {X : Cx}
theorem pairsT_of {pins : List (Addr × Obj)} {σ : St} {H : Hp} {s : Shared} (I : Inv X pins σ H s) : ∀ {ps : List Addr} {kvL : List (List Key × V)}, Paired (fun p kv => ∃ b, SqT X.K H p [.ref b, kv.2] ∧ H b = some (.tup (kv.1.map kV))) ps kvL →
    ∃ rs : List (List Key × Addr × Value), KT H kvL rs ∧ rs.length = ps.length ∧ ∀ (j : Nat) (q : List Key × Addr × Value), rs[j]? = some q → ∃ p : Addr, ps[j]? = some p ∧ s.heap.IsTuple p #[.ref q.2.1, q.2.2] ∧ H q.2.1 = some (.tup (q.1.map kV))
  | _, _, .nil => ⟨[], .nil, rfl, fun j q e => by simp at e⟩
  | _, _, .cons (a := p) (b := kv) h t => by
    obtain ⟨rs, r, lenR, isPairs⟩ := pairsT_of I t
    obtain ⟨b, h, hb⟩ := h
    obtain ⟨its, relV, ht, _⟩ := I.tuple h
    obtain ⟨u, y, eIts, ru, ry⟩ := vals2 relV
    subst eIts
    cases (show u = Value.ref b from ru)
    refine ⟨(kv.1, b, y) :: rs, .cons ⟨rfl, hb, ry⟩ r, by rw [List.length_cons, List.length_cons, lenR], fun j q e => ?_⟩
    cases j with
    | zero =>
      have e' : (kv.1, b, y) = q := Option.some.inj e
      subst e'
      exact ⟨p, rfl, ht, hb⟩
    | succ j =>
      obtain ⟨p', e1, e2, e3⟩ := isPairs j q (by simpa using e)
      exact ⟨p', by simpa using e1, e2, e3⟩
def rDictT (K : PySem.W.Frag) : List V → Hp → VK → Prop := fun xs H Q => ∃ (a : Addr) (ps : List Addr) (kvL : List (List Key × V)), xs = [.ref a] ∧ SqL K H a (ps.map V.ref) ∧ Paired (fun p kv => ∃ b, SqT K H p [.ref b, kv.2] ∧ H b = some (.tup (kv.1.map kV))) ps kvL ∧
    ∀ p, H p = none → Q (.ref p) (upd H p (.dT (mergeT [] kvL)))
theorem call_dictT (hcalm : X.calm = true) (hu : X.A.units + 64 < cLine) : CallR X (.type "dict") (rDictT X.K) := by
  intro pins s σ H xs us Q I r q
  obtain ⟨a, ps, kvL, ex, isList, isPairs, q⟩ := q
  subst ex
  obtain ⟨u, eu, rx⟩ := vals1 r
  subst eu
  cases rx
  obtain ⟨its, relV, pl, room⟩ := I.list isList
  have eIts := refs_at relV
  subst eIts
  rw [List.length_map] at room
  obtain ⟨rs, rel, lenR, hpr⟩ := pairsT_of I isPairs
  obtain ⟨o, n, objAt, objTy, hd, dat⟩ := pl
  have hi : PairItems s.heap ((ps.map Value.ref).toArray) (fun j => ps.getD j 0) (rs.map fun x => (Value.ref x.2.1, x.2.2)) := by
    refine ⟨by simp [lenR], fun j k v e => ?_⟩
    rw [List.getElem?_map] at e
    cases e1 : rs[j]? with
    | none => rw [e1] at e; cases e
    | some x =>
      rw [e1] at e
      cases e
      obtain ⟨p, h1, h2, _⟩ := hpr j x e1
      have e2 : ps.getD j 0 = p := by rw [List.getD_eq_getElem?_getD, h1]; rfl
      dsimp only
      rw [e2]
      exact ⟨by simp [h1], .inl h2⟩
  refine call_dict_pairsH (knd := tupleKind (mixKind X.prog X.w)) (ps := rs) (PairArg.list a ((ps.map Value.ref).toArray) (fun j => ps.getD j 0) (rs.map fun x => (Value.ref x.2.1, x.2.2))) (I.ok.hd hcalm) (show X.A.units + 1 + 1 < cLine by omega) ⟨⟨o, n, objAt, objTy, hd, dat⟩, hi⟩ ⟨by rw [List.length_map], fun i key v e => ?_⟩ (fun h' hk x hx => ?_) (by rw [List.length_map, lenR]; exact room) fun h' tk hd' k => ?_
  · have e' : (rs.map fun x => (Value.ref x.2.1, x.2.2))[i]? = some (key, v) := e
    rw [List.getElem?_map] at e'
    cases e1 : rs[i]? with
    | none => rw [e1] at e'; cases e'
    | some x =>
      rw [e1] at e'
      cases e'
      exact ⟨x.1, x.2.1, rfl, rfl⟩
  · obtain ⟨j, hj⟩ := List.mem_iff_getElem?.mp hx
    obtain ⟨p, _, _, h3⟩ := hpr j x hj
    obtain ⟨ob, arr, n', g1, g2, g3, g4⟩ := key_of (P := X.prog) (w := X.w) I.hok h3
    exact ⟨ob, arr, n', hk _ _ (Nat.ne_of_lt (Heap.lt_size g1)) (by simp) g1, g2, g3, g4⟩
  · have noMods : (s.heap.objs.size == sysModules) = false := beq_eq_false_iff_ne.mpr (Nat.ne_of_gt I.big)
    have lenM : (mergeT [] kvL).length ≤ sizeLine := by
      refine Nat.le_trans (mergeT_len kvL []) ?_
      rw [List.length_nil, Nat.zero_add, rel.length, lenR]
      exact room
    obtain ⟨o', es, ep, h1, h2, h3, h4, _, h5⟩ := hd'
    have fresh := I.hok.fresh (Nat.le_refl _)
    have kt : KT (upd H s.heap.objs.size (.dT (mergeT [] kvL))) (mergeT [] kvL) (storedAllH [] rs) := (mergeT_rel rel .nil).keeps fun b ys e => by
      rw [upd_ne (ne_of_none e fresh)]; exact e
    exact ⟨.ref s.heap.objs.size, upd H s.heap.objs.size (.dT (mergeT [] kvL)), I.laid (t' := tk) (fun b o e => k b o (by simp) e) (Nat.le_refl _) (show ObjOk X.prog X.w _ _ _ (.dT (mergeT [] kvL)) from ⟨lenM, noMods, storedAllH [] rs, kt, o', es, ep, h1, h2, h3, h4, h5⟩), rfl, q _ fresh⟩
end
end DM

namespace DM
open PySem L2
/-! ### a dict whose keys are pairs -/
def keyP (p : Int × Int) : List Key := [Sum.inl p.1, Sum.inl p.2]
theorem keyP_inj {p q : Int × Int} : keyP p = keyP q ↔ p = q := by
  refine ⟨fun h => ?_, fun h => by rw [h]⟩
  unfold keyP at h
  simp only [List.cons.injEq, Sum.inl.injEq, and_true] at h
  exact Prod.ext h.1 h.2
def tabP (L : List (Int × Int)) : List (List Key × V) := L.map fun p => (keyP p, V.bl true)
theorem val_merge (q : Int × Int) : ∀ (L : List (Int × Int)) (kvs : List (List Key × V)), (valV (mergeT kvs (tabP L)) (keyP q)).isSome = (decide (q ∈ L) || (valV kvs (keyP q)).isSome)
  | [], kvs => rfl
  | p :: L, kvs => by
    show (valV (mergeT (putK kvs (keyP p) (V.bl true)) (tabP L)) (keyP q)).isSome = _
    rw [val_merge q L, valV_put]
    by_cases c : q = p
    · subst c
      rw [if_pos rfl, decide_eq_true (List.mem_cons_self : q ∈ q :: L)]
      simp
    · rw [if_neg (fun z => c (keyP_inj.mp z))]
      have e : decide (q ∈ p :: L) = decide (q ∈ L) := decide_eq_decide.mpr (by rw [List.mem_cons]; exact ⟨fun h => h.resolve_left c, .inr⟩)
      rw [e]
theorem val_known (q : Int × Int) (L : List (Int × Int)) : (valV (mergeT [] (tabP L)) (keyP q)).isSome = decide (q ∈ L) := by
  rw [val_merge, valV_nil]
  simp
theorem Prs.app {H : Hp} {us ws : List V} {L M : List (Int × Int)} (h1 : Prs H us L) (h2 : Prs H ws M) : Prs H (us ++ ws) (L ++ M) := by
  induction h1 with
  | nil => exact h2
  | cons a _ ih => exact .cons a ih
theorem Prs.rev {H : Hp} {vs : List V} {L : List (Int × Int)} (h : Prs H vs L) : Prs H vs.reverse L.reverse := by
  induction h with
  | nil => exact .nil
  | cons a _ ih =>
    rw [List.reverse_cons, List.reverse_cons]
    exact ih.snoc a
theorem alike_prs {n : Nat} {H : Hp} {p q : Addr} {xs ys : List V} {L : List (Int × Int)} (hp : H p = some (.lst xs)) (hq : H q = some (.lst ys)) (h1 : Prs H xs L) (h2 : Prs H ys L) (hl : L.length ≤ 1000) : Alike (n + 2) H (.ref p) (.ref q) := by
  refine alike_lst hp hq (h1.len.trans h2.len.symm) (by rw [h1.len]; exact hl) fun i x y hx hy => ?_
  obtain ⟨a, ha, a1, rfl, z1⟩ := h1.at hx
  obtain ⟨b, hb, b1, rfl, z2⟩ := h2.at hy
  rw [ha] at hb
  cases hb
  exact alike_ints z1 z2
/-- pairs of a key and True, as they lie in the heap -/
def Keyd (H : Hp) (ps : List Addr) (L : List (Int × Int)) : Prop := Paired (fun p kv => ∃ b, H p = some (.tup [.ref b, kv.2]) ∧ H b = some (.tup (kv.1.map kV))) ps (tabP L)
theorem Keyd.snoc {H : Hp} {ps : List Addr} {L : List (Int × Int)} {a b : Addr} {p : Int × Int} (h : Keyd H ps L) (ha : H a = some (.tup [.ref b, .bl true])) (hb : H b = some (.tup [.int p.1, .int p.2])) : Keyd H (ps ++ [a]) (L ++ [p]) := by
  unfold Keyd tabP at *
  rw [List.map_append]
  exact Paired.snoc h ⟨b, ha, hb⟩
end DM

namespace DM
open PySem PySem.Spec PyProof.Rows L2
/-! ### one turn of a comprehension's walk, whatever its element does -/
section
variable {Bx : Cx} {tg : Expr} {Jt : It} {own : List Addr} {ito : Addr} {turns : Nat → Heap → Prop} {g : TG} {tt : TT} {ifs : List Expr} {vs : List Nat} {σ : L2.St} {i : Nat} {H : Hp} {s : Shared} {El : L2.St → Hp → (Hp → Prop) → Prop}
/-- the iterator's objects may turn -/
def OwnOk (Bx : Cx) (own : List Addr) : Prop := ∀ (τ : L2.St) (J : Hp) (r : Shared), Inv Bx [] τ J r → (∀ b ∈ own, J b = none) → ∀ b ∈ own, FpOk Bx [] J b
theorem comp_each {Ec : Value → Shared → Prop} {AW : (Shared → Prop) → Shared → Prop} {R : Shared → Prop} {Nx : Hp → Prop} (Tn : Turn Bx.prog Bx.w Bx.K tg Jt own ito turns) (calm : Bx.calm = true) (quiet : Bx.xe = fun _ _ => False) (aim : PG Bx tg g) (tests : PTs Bx ifs tt) (ow : OwnOk Bx own)
    (I : Inv Bx [] (wipe σ vs) H s) (at0 : turns i s.heap) (no : ∀ b ∈ own, H b = none) (go : Jt.go i H)
    (step : ∀ x J, Jt.yld i H x J → g x (wipe σ vs) J fun σ2 J2 => wipe σ2 vs = wipe σ vs ∧ tt σ2 J2 fun b J3 => if b = true then El σ2 J3 Nx else Nx J3)
    (elm : ∀ (pins : List (Addr × Obj)) (τ : L2.St) (J : Hp) (r : Shared) (R' : Shared → Prop), Inv Bx pins τ J r → El τ J Nx → (∀ r' J', Inv Bx pins τ J' r' → Nx J' → R' r') → AW R' r)
    (fin : ∀ (r : Shared) (J : Hp), Inv Bx [] (wipe σ vs) J r → turns (i + 1) r.heap → (∀ b ∈ own, J b = none) → Nx J → R r) :
    wpAny (model Bx.prog Bx.w) Bx.A (pyNext (.ref ito)) (fun r s1 => ∃ v, r = some v ∧ wpAny (model Bx.prog Bx.w) Bx.A (letOwnedTupleGo tg (.ref ito) v) (fun _ s2 => wpAny (model Bx.prog Bx.w) Bx.A (assign tg Bx.env v) (fun _ s3 =>
      wpAny (model Bx.prog Bx.w) Bx.A (forIn ifs true fun c r => if r = true then do let ok ← isTrue c Bx.env (eval c Bx.env); pure (ForInStep.yield ok) else pure (ForInStep.yield r)) (fun ok s4 =>
        if ok = true then AW R s4 else R s4) Ec s3) Ec s2) Ec s1) Ec s := by
  refine thnF (Tn.item Bx rfl rfl rfl calm i [] s _ H (fun _ _ => False) I (ow _ _ _ I no) at0 go) fun r s1 h1 => ?_
  obtain ⟨v, rfl, h1⟩ := h1
  refine ⟨v, rfl, thnF h1 fun _ s2 h2 => ?_⟩
  obtain ⟨x, J2, I2, r2, y2, at2, no2⟩ := h2
  have held := I2.pinned (ow _ _ _ I2 no2) (Tn.obj _ _ at2)
  have aimed := aim.run _ s2 _ J2 x v _ held r2 (step x J2 y2)
  rw [quiet] at aimed
  refine thnF aimed fun _ s3 h3 => ?_
  obtain ⟨σ3, J3, I3, wiped, q3⟩ := h3
  have tested := tests.run _ s3 σ3 J3 _ I3 q3
  rw [quiet] at tested
  refine thnF tested fun b s4 h4 => ?_
  obtain ⟨J4, I4, q4⟩ := h4
  have last : ∀ {r : Shared} {J : Hp}, Inv Bx ([] ++ pinsAt own s2.heap) σ3 J r → Nx J → R r := fun {r J} Ir nx => by
    have kept : ∀ b ∈ own, ∀ o, s2.heap.get? b = some o → r.heap.get? b = some o ∧ J b = none := fun b hb o e => by
      have z := Ir.pin (b, o) (List.mem_append_right _ (List.mem_append_right _ (mem_pinsAt hb e)))
      exact ⟨z.1, z.2.1⟩
    refine fin r J ((Ir.unpinned (pins := [])).weak (by rw [← wiped, wipe_length]) fun j u e => ?_) (Tn.keep _ _ _ at2 fun b hb o e => (kept b hb o e).1) (fun b hb => ?_) nx
    · rw [← wiped] at e
      exact (wipe_some e).1
    · obtain ⟨o, e, _⟩ := Tn.obj _ _ at2 b hb
      exact (kept b hb o e).2
  cases b with
  | false =>
    rw [if_neg Bool.false_ne_true] at q4 ⊢
    exact last I4 q4
  | true =>
    rw [if_pos rfl] at q4 ⊢
    exact elm _ _ _ _ _ I4 q4 fun r' J' I5 nx => last I5 nx
end
/-! ### a dict comprehension whose keys are tuples -/
theorem dT_set {X : Cx} {pins : List (Addr × Obj)} {σ : L2.St} {H : Hp} {s : Shared} {E : Value → Shared → Prop} {D b : Addr} {kvs : List (List Key × V)} {k : List Key} {v : V} {r : Value} {Q : Unit → Shared → Prop} (hu : X.A.units + 1 < cLine) (I : Inv X pins σ H s) (hD : H D = some (.dT kvs)) (hb : H b = some (.tup (k.map kV))) (hz : kvs.length < sizeLine)
    (rv : RelV v r) (h : ∀ s', Inv X pins σ (upd H D (.dT (putK kvs k v))) s' → Q () s') : wpAny (model X.prog X.w) X.A (dictSet D (.ref b) r) Q E s := by
  obtain ⟨few, notSys, xs, rel, dd⟩ := dt_of I.hok hD
  have fits : (putK kvs k v).length ≤ sizeLine := Nat.le_trans (length_putK kvs k v) hz
  refine wpAny_dictSet_heap (hsz := by rw [← Paired.length rel]; exact few) (show X.A.units < cLine by omega) (key_of I.hok hb) dd fun h' dd' hs => h _ ?_
  obtain ⟨q, es, ep, hq, h2, h3, h4, _, h5⟩ := dd'
  refine d_write I (by rw [hD]; exact True.intro) hs ⟨q, hq⟩ ⟨fits, notSys, _, (rel.put k hb rv).keeps fun c ys ec => ?_, q, es, ep, hq, h2, h3, h4, h5⟩
  rw [upd_ne (ne_of ec hD (fun z => nomatch z))]
  exact ec
section
variable {X : Cx}
/-- {k: v for target in iter if ..}, keys tuples -/
def tDcT (wi : TI) (g : TG) (tt : TT) (tk tv : TE) (vs : List Nat) : TE := fun σ H Q => wi σ H fun J H1 => ∀ D, H1 D = none → ∃ W : Nat → Nat → Hp → Prop, (∃ m, W 0 m (upd H1 D (.dT []))) ∧ ∀ i m H, W i m H →
  (J.stop i H ∧ Q (.ref D) H) ∨ (J.go i H ∧ ∃ Nx : Hp → Prop, (∀ H', Nx H' → ∃ m', m' < m ∧ W (i + 1) m' H') ∧ ∀ x H', J.yld i H x H' → g x (wipe σ vs) H' fun σ2 H2 => wipe σ2 vs = wipe σ vs ∧ tt σ2 H2 fun b H3 =>
    if b = true then tk σ2 H3 fun y H4 => tv σ2 H4 fun z H5 => ∃ kvs k b, y = .ref b ∧ H5 b = some (.tup (k.map kV)) ∧ H5 D = some (.dT kvs) ∧ kvs.length < sizeLine ∧ Nx (upd H5 D (.dT (putK kvs k z))) else Nx H3)
theorem dcT_loop {kx vx tg iter : Expr} {ifs : List Expr} {scope : Scope} {pos : Pos} {g : TG} {tt : TT} {tk tv : TE} {vs : List Nat} {σ : L2.St} {H3 : Hp} {s3 s4 : Shared} {fp : List Addr} {turns : Nat → Heap → Prop} {Jt : It} {ito D : Addr} {cx : Env} {W : Nat → Nat → Hp → Prop} {m0 : Nat} {Q : VK} {pins : List (Addr × Obj)} {Qf : Value → Shared → Prop} {use : Option (Value → Sem Unit)}
    (calm : X.calm = true) (hu : X.A.units + 1 < cLine) (I3 : Inv X pins σ H3 s3) (f3 : ∀ b ∈ fp, FpOk X pins H3 b ∧ b < s3.heap.objs.size) (I4 : Inv (X.blk s3 H3 scope cx fp) [] (wipe σ vs) H3 s4) (locC : cx.locals = s3.heap.objs.size) (Tn : Turn X.prog X.w X.K tg Jt fp ito turns) (at4 : turns 0 s4.heap)
    (aim : PG (X.blk s3 H3 scope cx fp) tg g) (tests : PTs (X.blk s3 H3 scope cx fp) ifs tt) (keyE : PE (X.blk s3 H3 scope cx fp) kx tk) (valE : PE (X.blk s3 H3 scope cx fp) vx tv) (w0 : W 0 m0 H3)
    (each : ∀ i m H, W i m H → (Jt.stop i H ∧ Q (.ref D) H) ∨ (Jt.go i H ∧ ∃ Nx : Hp → Prop, (∀ H', Nx H' → ∃ m', m' < m ∧ W (i + 1) m' H') ∧ ∀ x H', Jt.yld i H x H' → g x (wipe σ vs) H' fun σ2 H2 => wipe σ2 vs = wipe σ vs ∧ tt σ2 H2 fun b H3 =>
      if b = true then tk σ2 H3 fun y H4 => tv σ2 H4 fun z H5 => ∃ kvs k b, y = .ref b ∧ H5 b = some (.tup (k.map kV)) ∧ H5 D = some (.dT kvs) ∧ kvs.length < sizeLine ∧ Nx (upd H5 D (.dT (putK kvs k z))) else Nx H3))
    (after : ∀ (r : Shared) (m : Str → Option Value) (J : Hp), Inv X pins σ J r → Q (.ref D) J → r.heap.Ns s3.heap.objs.size m → FpOk X pins J s3.heap.objs.size → compPost (model X.prog X.w) X.A X.xe use Qf (.ref D) s3.heap.objs.size (.ok .next) r) :
    codeAny (model X.prog X.w) X.A (.compLoop (.DictComp kx vx [⟨tg, iter, ifs, 0⟩] scope pos) 0 (.ref ito) (.ref D) cx) (compPost (model X.prog X.w) X.A X.xe use Qf (.ref D) s3.heap.objs.size) s4 := by
  have ow : OwnOk (X.blk s3 H3 scope cx fp) fp := fun τ J r Ir nJ b hb => ⟨nJ b hb, (Ir.ok.exf b hb).1, Ir.ok.exfs b hb, .inl hb, fun x c e => (Ir.ok.exf b hb).2 x c e, fun p hp => absurd (show p ∈ ([] : List (Addr × Obj)) ++ [] from hp) (by simp)⟩
  refine compLoop_anyD (fun n r => ∃ i J, Inv (X.blk s3 H3 scope cx fp) [] (wipe σ vs) J r ∧ turns i r.heap ∧ (∀ b ∈ fp, J b = none) ∧ W i n J) ?_ m0 ⟨0, H3, I4, at4, fun b hb => (f3 b hb).1.1, w0⟩
  rintro n r ⟨i, J, Ir, atr, nor, wr⟩
  rcases each i n J wr with ⟨halt, fine⟩ | ⟨go, Nx, next, act⟩
  · refine thnF (Tn.done (X.blk s3 H3 scope cx fp) rfl rfl rfl calm i [] r _ J (fun _ _ => False) Ir (ow _ _ _ Ir nor) atr halt) fun o r2 h2 => ?_
    obtain ⟨rfl, I6⟩ := h2
    have back : Inv X pins σ J r2 := I3.call' (ch := fp) I6.os I6.base I6.hok I6.bare fun b hb => ⟨(f3 b hb).1.2.2.2.1, (f3 b hb).1.2.1, (f3 b hb).1.2.2.2.2.1, (f3 b hb).1.2.2.2.2.2⟩
    have noC : J s3.heap.objs.size = none := by rw [← locC]; exact I6.free
    obtain ⟨m, hn, _⟩ := I6.loc
    exact after r2 m J back fine (by rw [← locC]; exact hn) (I3.fpOk (Nat.le_refl _) noC)
  · have one := comp_each (Ec := notedBy (model X.prog X.w) X.A cx fun e s' => compPost (model X.prog X.w) X.A X.xe use Qf (.ref D) s3.heap.objs.size (.error e) s') (Bx := X.blk s3 H3 scope cx fp) (vs := vs) (σ := σ) (Nx := Nx) (R := fun r => ∃ m, m < n ∧ ∃ i J, Inv (X.blk s3 H3 scope cx fp) [] (wipe σ vs) J r ∧ turns i r.heap ∧ (∀ b ∈ fp, J b = none) ∧ W i m J)
      (El := fun σ2 H3 Nx => tk σ2 H3 fun y H4 => tv σ2 H4 fun z H5 => ∃ kvs k b, y = .ref b ∧ H5 b = some (.tup (k.map kV)) ∧ H5 D = some (.dT kvs) ∧ kvs.length < sizeLine ∧ Nx (upd H5 D (.dT (putK kvs k z))))
      (AW := fun R' r => wpAny (model X.prog X.w) X.A (eval kx cx) (fun kv r1 => wpAny (model X.prog X.w) X.A (eval vx cx) (fun vv r2 => wpAny (model X.prog X.w) X.A (dictSet D kv vv) (fun _ r3 => R' r3) (notedBy (model X.prog X.w) X.A cx fun e s' => compPost (model X.prog X.w) X.A X.xe use Qf (.ref D) s3.heap.objs.size (.error e) s') r2) (notedBy (model X.prog X.w) X.A cx fun e s' => compPost (model X.prog X.w) X.A X.xe use Qf (.ref D) s3.heap.objs.size (.error e) s') r1) (notedBy (model X.prog X.w) X.A cx fun e s' => compPost (model X.prog X.w) X.A X.xe use Qf (.ref D) s3.heap.objs.size (.error e) s') r)
      Tn calm rfl aim tests ow Ir atr nor go act (fun pins τ J r R' Ir2 el out => ?_) (fun r J Ir2 at2 no2 nx => ?_)
    · refine thn one fun o r2 h2 => ?_
      obtain ⟨v, rfl, h2⟩ := h2
      refine thn h2 fun _ r3 h3 => thn h3 fun _ r4 h4 => thn h4 fun ok r5 h5 => ?_
      cases ok with
      | false => exact h5
      | true => exact h5
    · refine thnF (keyE.run pins r τ J _ Ir2 el) fun kv r1 h1 => ?_
      obtain ⟨y, J1, I1, ry, h1⟩ := h1
      refine thnF (valE.run pins r1 τ J1 _ I1 h1) fun vv r2 h2 => ?_
      obtain ⟨z, J2, I2, rz, kvs, k, b, rfl, hb, hD, few, nx⟩ := h2
      obtain rfl : kv = Value.ref b := ry
      exact dT_set (X := X.blk s3 H3 scope cx fp) hu I2 hD hb few rz fun r3 I5 => out r3 _ I5 nx
    · obtain ⟨m, less, w'⟩ := next J nx
      exact ⟨m, less, i + 1, J, Ir2, at2, no2, w'⟩
theorem pe_dcT {kx vx tg iter : Expr} {ifs : List Expr} {scope : Scope} {own : List (Str × Nat)} {pos : Pos} {wi : TI} {g : TG} {tt : TT} {tk tv : TE} (calm : X.calm = true) (hu : X.A.units + 1 < cLine) (ndN : X.N.Nodup) (walks : PI X tg iter wi) (bl : BlkOk X.N X.env.scope scope own)
    (aim : ∀ (s : Shared) (H : Hp) (C : Addr) (cl : List (Str × Addr)) (fp : List Addr), PG (X.blk s H scope (compEnvC scope cl C X.env) fp) tg g) (tests : ∀ (s : Shared) (H : Hp) (C : Addr) (cl : List (Str × Addr)) (fp : List Addr), PTs (X.blk s H scope (compEnvC scope cl C X.env) fp) ifs tt)
    (keyE : ∀ (s : Shared) (H : Hp) (C : Addr) (cl : List (Str × Addr)) (fp : List Addr), PE (X.blk s H scope (compEnvC scope cl C X.env) fp) kx tk) (valE : ∀ (s : Shared) (H : Hp) (C : Addr) (cl : List (Str × Addr)) (fp : List Addr), PE (X.blk s H scope (compEnvC scope cl C X.env) fp) vx tv)
    (plain : ∀ x, foldedSetIterable iter X.env x = pure x := by intro _; rfl) :
    PE X (.DictComp kx vx [⟨tg, iter, ifs, 0⟩] scope pos) (tDcT wi g tt tk tv (own.map (·.2))) := by
  refine ⟨fun pins s σ H Q I want => ?_⟩
  rw [arm_eval_DictComp]
  have frees : ∀ y ∈ scope.names, y.2 = .free → ∃ c, X.env.cells.lookup y.1 = some c := fun y hy e => (bl.free y hy e).elim (fun k => I.ok.has _ (.inl k)) fun k => I.ok.has _ (.inr k)
  refine wpAny_comprehension_free rfl plain (closure_ok frees) bl.kind (fun y hy e => by rw [bl.uniq y hy, e]) (thn (walks.run pins s σ H _ I want) fun xv s1 h1 => thn h1 fun itv s2 h2 => ?_)
  obtain ⟨ito, fp, turns, Jt, H2, rfl, I2, Tn, at2, f2, each⟩ := h2
  refine wpAny_newObj_type (newEnv_comp ?_)
  obtain ⟨W, ⟨m0, w0⟩, each⟩ := each s2.heap.objs.size (I2.hok.fresh (Nat.le_refl _))
  have I3 : Inv X pins σ (upd H2 s2.heap.objs.size (.dT [])) { s2 with heap := s2.heap.push { cls := .type "dict", data := .dict #[] }, toks := s2.toks } := I2.laid (fun b o e => Heap.get?_push_of_some _ e) (Nat.le_refl _) (dt_empty s2.heap I2.big)
  have f3 : ∀ b ∈ fp, FpOk X pins (upd H2 s2.heap.objs.size (.dT [])) b ∧ b < (s2.heap.push { cls := .type "dict", data := .dict #[] }).objs.size := fun b hb => by
    obtain ⟨o, e, _⟩ := Tn.obj _ _ at2 b hb
    have less := Heap.lt_size e
    exact ⟨⟨by rw [upd_ne (Nat.ne_of_lt less)]; exact (f2 b hb).1, (f2 b hb).2⟩, by rw [Heap.size_push]; exact Nat.lt_succ_of_lt less⟩
  have at3 : turns 0 (s2.heap.push { cls := .type "dict", data := .dict #[] }) := Tn.keep _ _ _ at2 fun b _ o e => Heap.get?_push_of_some _ e
  have I4 := block_start I3 bl ndN f3
  have at4 : turns 0 (pushCells ((s2.heap.push { cls := .type "dict", data := .dict #[] }).push { cls := .type "dict", data := .dict #[] }) scope.names) := Tn.keep _ _ _ at3 fun b _ o e => pushCells_keeps _ _ _ _ (Heap.get?_push_of_some _ e)
  have going := dcT_loop (kx := kx) (vx := vx) (iter := iter) (ifs := ifs) (pos := pos) (use := none) (Qf := EP X pins σ Q) calm hu I3 f3 I4 rfl Tn at4 (aim _ _ _ _ _) (tests _ _ _ _ _) (keyE _ _ _ _ _) (valE _ _ _ _ _) w0 each fun r m J Ir fine hn fo => ⟨m, hn, fun h'' sb => ?_⟩
  · exact codeAny_compStart_dict going (Tn.self X.A 0 _ _ _ at4 going)
  · obtain ⟨o0, o1, o2, o3, o4, o5⟩ := fo
    exact ⟨.ref _, J, Ir.turned (t' := r.toks) (fun b o hb e => (sb.2 b hb).trans e) o0 o1 o3 o4 o5, rfl, fine⟩
end
end DM

namespace DM
open PySem L2
/-! ### sorted(l) of data that may be compared -/
def rSortD (K : PySem.W.Frag) : List V → Hp → VK → Prop := fun vs H Q => ∃ (a : Addr) (bs : List (V × PyData)), vs = [.ref a] ∧ SqL K H a (bs.map (·.1)) ∧ (∀ b ∈ bs, Dp K H b.1 b.2 ∧ b.2.depth ≤ 50) ∧ PySem.W.AllAlike (bs.map (·.2)) ∧ PySem.W.Sortable (bs.map (·.2)) ∧
  ∀ (cs : List (V × PyData)) (p : Addr), cs.Perm bs → cs.Pairwise (fun x y => PySem.W.dataLt y.2 x.2 = false) → H p = none → Q (.ref p) (upd H p (.lst (cs.map (·.1))))
section
variable {X : Cx}
theorem each_vals : ∀ {bs : List (V × PyData)} {its : List Value}, Vals (bs.map (·.1)) its → PySem.W.EachIs (fun v (b : V × PyData) => RelV b.1 v) its bs
  | [], _, r => by cases r; exact .nil
  | b :: bs, _, r => by
    cases r with
    | cons h t => exact .cons h (each_vals t)
theorem vals_each : ∀ {bs : List (V × PyData)} {its : List Value}, PySem.W.EachIs (fun v (b : V × PyData) => RelV b.1 v) its bs → Vals (bs.map (·.1)) its
  | [], _, .nil => .nil
  | _ :: _, _, .cons h t => .cons h (vals_each t)
theorem each_reads {pins : List (Addr × Obj)} {σ : St} {H : Hp} {s : Shared} (I : Inv X pins σ H s) : ∀ {bs : List (V × PyData)} {its : List Value}, (∀ b ∈ bs, Dp X.K H b.1 b.2) → Vals (bs.map (·.1)) its → PySem.W.EachIs (fun v (b : V × PyData) => ∃ as, Reads s.heap v b.2 as) its bs
  | [], _, _, r => by cases r; exact .nil
  | b :: bs, _, hd, r => by
    cases r with
    | cons h t => exact .cons (Dp.reads I b.2 b.1 _ (hd b List.mem_cons_self) h) (each_reads I (fun c hc => hd c (List.mem_cons_of_mem _ hc)) t)
theorem cr_sortD (hu : X.A.units + 64 < cLine) : CallR X (.builtin "sorted") (rSortD X.K) := by
  intro pins s σ H vs us Q I r h
  obtain ⟨a, bs, rfl, hs, hd, hal, hso, q⟩ := h
  obtain ⟨its, rv, hl, hz⟩ := I.list hs
  obtain ⟨u, rfl, ru⟩ := vals1 r
  obtain rfl : u = Value.ref a := ru
  rw [List.length_map] at hz
  refine PySem.W.sorted_data (bs := bs) (enc := fun b => b.2) (R := fun v (b : V × PyData) => RelV b.1 v) hl.isList (each_vals rv) (each_reads I (fun b hb => (hd b hb).1) rv) hal hso hz (fun b hb => ?_) fun out ho e => ?_
  · have := (hd b hb).2
    show X.A.units + 2 + b.2.depth < cLine
    omega
  · obtain ⟨n, en⟩ := PyProof.Rows.sortedAll_at s.heap its out.toArray
    have tot := PySem.W.sortLe_total (PyProof.Rows.listOrd PyProof.Rows.itemOrd) false fun b : V × PyData => PySem.W.keyToks b.2
    have pw := PySem.W.sort_pairwise tot bs
    have vb := vals_each e
    have pm := List.mergeSort_perm bs (PySem.W.dataLe false fun b => b.2)
    refine ⟨.ref (s.heap.objs.size + 1), upd H (s.heap.objs.size + 1) (.lst ((bs.mergeSort (PySem.W.dataLe false fun b => b.2)).map (·.1))), I.laid (t' := s.toks) (fun b o z => PyProof.Rows.sortedAll_old z) (Nat.le_succ _) (show ObjOk X.prog X.w _ _ _ (.lst ((bs.mergeSort (PySem.W.dataLe false fun b => b.2)).map (·.1))) from ⟨?_, out, n, vb, en⟩), rfl, q _ _ pm (pw.imp fun {x y} z => ?_) (I.hok.fresh (Nat.le_succ _))⟩
    · rw [List.length_map, pm.length_eq]
      exact hz
    · have z' : (!PySem.W.dataLt y.2 x.2) = true := z
      simpa using z'
end
end DM

namespace DM
open PySem
/-! ### list(zip(one, other)): new pairs, each held by the list -/
theorem zip_no_len : typeLookup (.type "zip") "__len__" = pure none := by rw [typeLookup_type, builtinLookup_eq_fast]; kernel_rfl
theorem zip_no_hint : typeLookup (.type "zip") "__length_hint__" = pure none := by rw [typeLookup_type, builtinLookup_eq_fast]; kernel_rfl
/-- a zip ahead of its turn i, the list that takes its pairs at S -/
structure ZAt (z TI TO i1 i2 l1 l2 S : Addr) (xs ys : Array Value) (i : Nat) (h : Heap) : Prop where
  inner : IsPair h TI (.ref i1) (.ref i2)
  it1 : h.IsListIter i1 l1 i
  it2 : h.IsListIter i2 l2 i
  ls1 : h.IsList l1 xs
  ls2 : h.IsList l2 ys
  out : (IsZip h z TI TO .none ∧ ∃ a b, IsPair h TO a b) ∨ ∃ T f oT, IsZipHeld h z TI TO T f ∧ h.get? T = some oT ∧ T ≠ z ∧ T ≠ i1 ∧ T ≠ i2 ∧ T ≠ S
/-- the list stands apart from all of the zip -/
structure ZOff (z TI TO i1 i2 l1 l2 S : Addr) : Prop where
  z : z < S
  ti : TI < S
  to : TO < S
  i1 : i1 < S
  i2 : i2 < S
  l1 : l1 < S
  l2 : l2 < S
section
variable {prog : Program} {w : World} {A : Around} {E : Value → Shared → Prop} {s : Shared} {z TI TO i1 i2 l1 l2 S : Addr} {xs ys : Array Value}
theorem ZAt.keep {i : Nat} {h h' : Heap} (st : ZAt z TI TO i1 i2 l1 l2 S xs ys i h) (o : ZOff z TI TO i1 i2 l1 l2 S) (k : ∀ b v, b ≠ S → h.get? b = some v → h'.get? b = some v) : ZAt z TI TO i1 i2 l1 l2 S xs ys i h' := by
  refine ⟨k _ _ (Nat.ne_of_lt o.ti) st.inner, st.it1.at fun v e => k _ v (Nat.ne_of_lt o.i1) e, st.it2.at fun v e => k _ v (Nat.ne_of_lt o.i2) e, st.ls1.at fun v e => k _ v (Nat.ne_of_lt o.l1) e, st.ls2.at fun v e => k _ v (Nat.ne_of_lt o.l2) e, ?_⟩
  rcases st.out with ⟨hz, a, b, ht⟩ | ⟨T, f, v, hz, hT, n1, n2, n3, n4⟩
  · exact .inl ⟨k _ _ (Nat.ne_of_lt o.z) hz, a, b, k _ _ (Nat.ne_of_lt o.to) ht⟩
  · exact .inr ⟨T, f, v, k _ _ (Nat.ne_of_lt o.z) hz, k _ _ n4 hT, n1, n2, n3, n4⟩
def ZOut (z TO i1 i2 : Addr) (h h' : Heap) : Prop := ∀ c v, c ≠ z → c ≠ TO → c ≠ i1 → c ≠ i2 → h.get? c = some v → h'.get? c = some v
theorem zl_item {i : Nat} {x y : Value} {Q : Option Value → Shared → Prop} (D : ZipApart z TI TO i1 i2 l1 l2) (st : ZAt z TI TO i1 i2 l1 l2 S xs ys i s.heap) (hS : S < s.heap.objs.size) (ex : xs[i]? = some x) (ey : ys[i]? = some y)
    (hQ : ∀ h', ZAt z TI TO i1 i2 l1 l2 S xs ys (i + 1) h' → IsPair h' s.heap.objs.size x y → ZOut z TO i1 i2 s.heap h' → Q (some (.ref s.heap.objs.size)) { s with heap := h' }) : wpAny (model prog w) A (pyNext (.ref z)) Q E s := by
  have lt : ∀ {c o}, s.heap.get? c = some o → s.heap.objs.size ≠ c := fun e => Nat.ne_of_gt (Heap.lt_size e)
  have n1 : s.heap.objs.size ≠ i1 := let ⟨_, e, _⟩ := st.it1; lt e
  have n2 : s.heap.objs.size ≠ i2 := let ⟨_, e, _⟩ := st.it2; lt e
  rcases st.out with ⟨hz, a, b, ht⟩ | ⟨T, f, v, hz, hT, r1, r2, r3, r4⟩
  · refine wpAny_pyNext_zip_item D hz st.inner ht st.it1 st.it2 st.ls1 st.ls2 ex ey fun h' a1 a2 a3 a4 a5 a6 k => hQ h' ⟨k _ _ D.TIz D.TITO D.TIi1 D.TIi2 st.inner, a3, a4, st.ls1.at fun v e => k _ v D.l1z D.l1TO D.l1i1 D.l1i2 e, st.ls2.at fun v e => k _ v D.l2z D.l2TO D.l2i1 D.l2i2 e, .inr ⟨_, false, _, a1, a5, lt hz, n1, n2, Nat.ne_of_gt hS⟩⟩ a5 k
  · refine wpAny_pyNext_zip_item_held D hz hT st.inner st.it1 st.it2 st.ls1 st.ls2 ex ey fun h' a1 a3 a4 a5 a6 k => hQ h' ⟨k _ _ D.TIz D.TIi1 D.TIi2 st.inner, a3, a4, st.ls1.at fun v e => k _ v D.l1z D.l1i1 D.l1i2 e, st.ls2.at fun v e => k _ v D.l2z D.l2i1 D.l2i2 e, .inr ⟨T, true, v, a1, k _ _ r1 r2 r3 hT, r1, r2, r3, r4⟩⟩ a5 fun c v c1 _ c3 c4 e => k c v c1 c3 c4 e
theorem zl_done {i : Nat} {Q : Option Value → Shared → Prop} (hh : A.handled = none) (D : ZipApart z TI TO i1 i2 l1 l2) (st : ZAt z TI TO i1 i2 l1 l2 S xs ys i s.heap) (he : xs[i]? = none ∨ ys[i]? = none)
    (hQ : ∀ h', ZOut z TO i1 i2 s.heap h' → Q none { s with heap := h' }) : wpAny (model prog w) A (pyNext (.ref z)) Q E s := by
  rcases st.out with ⟨hz, a, b, ht⟩ | ⟨T, f, v, hz, hT, r1, r2, r3, r4⟩
  · exact wpAny_pyNext_zip_end hh D hz st.inner ht st.it1 st.it2 st.ls1 st.ls2 he fun h' k => hQ h' k
  · exact wpAny_pyNext_zip_end_held hh D hz hT st.inner st.it1 st.it2 st.ls1 st.ls2 he fun h' k => hQ h' fun c v c1 _ c3 c4 e => k c v c1 c3 c4 e
/-- the pairs that stand, in their order, each newer than the one ahead -/
structure ZGot (xs ys : Array Value) (lo : Addr) (h : Heap) (as : List Addr) : Prop where
  rise : as.Pairwise (· < ·)
  above : ∀ a ∈ as, lo < a
  pairs : ∀ (j : Nat) (a : Addr), as[j]? = some a → ∃ x y, xs[j]? = some x ∧ ys[j]? = some y ∧ IsPair h a x y
theorem ZGot.there {lo : Addr} {h : Heap} {as : List Addr} (g : ZGot xs ys lo h as) {a : Addr} (ha : a ∈ as) : a < h.objs.size := by
  obtain ⟨j, hj⟩ := List.mem_iff_getElem?.mp ha
  obtain ⟨_, _, _, _, e⟩ := g.pairs j a hj
  exact Heap.lt_size e
theorem zl_loop {R : Result → Shared → Prop} (hh : A.handled = none) (D : ZipApart z TI TO i1 i2 l1 l2) (off : ZOff z TI TO i1 i2 l1 l2 S) (hn : min xs.size ys.size ≤ sizeLine) (res : Value) {h₁ : Heap}
    (hR : ∀ h' tk acc c as, (∀ b o, b ≠ S → b ≠ z → b ≠ TO → b ≠ i1 → b ≠ i2 → h₁.get? b = some o → h'.get? b = some o) → h'.get? S = some { cls := .type "list", dict := none, data := .seq acc c, slots := #[] } → as.length = min xs.size ys.size → ZGot xs ys S h' as →
      acc.toList = as.map Value.ref → R (.ok (.ret res)) { s with heap := h', toks := tk }) :
    ∀ (k i : Nat) (h : Heap) (tk c : Nat) (acc : Array Value) (as : List Addr), min xs.size ys.size - i = k → i ≤ min xs.size ys.size → ZAt z TI TO i1 i2 l1 l2 S xs ys i h → (∀ b o, b ≠ S → b ≠ z → b ≠ TO → b ≠ i1 → b ≠ i2 → h₁.get? b = some o → h.get? b = some o) →
      h.get? S = some { cls := .type "list", dict := none, data := .seq acc c, slots := #[] } → acc.toList = as.map Value.ref → as.length = i → ZGot xs ys S h as →
      codeAny (model prog w) A (.builtin "list.extend.loop" ⟨[.ref S, .ref z, res], []⟩) R { s with heap := h, toks := tk } := by
  have nS : ∀ {b : Addr}, b < S → b ≠ S := fun h => Nat.ne_of_lt h
  intro k
  induction k with
  | zero =>
    intro i h tk c acc as hk hi st keep hS hacc hal hG
    refine codeAny_builtin PySem.F.entry_extend_loop ?_
    rw [Around.under_plainId PySem.F.plain_extend_loop _]
    show wpAny _ A.in1 (pyNext (.ref z) >>= _) _ _ _
    have fin : xs[i]? = none ∨ ys[i]? = none := by
      rcases Nat.le_total xs.size ys.size with c | c
      · exact .inl (Array.getElem?_eq_none (by omega))
      · exact .inr (Array.getElem?_eq_none (by omega))
    refine wpAny_bind (zl_done (s := { s with heap := h, toks := tk }) (A := A.in1) hh D st fin fun h' he => ?_)
    have up : ∀ b o, S ≤ b → h.get? b = some o → h'.get? b = some o := fun b o l e => he b o (Nat.ne_of_gt (Nat.lt_of_lt_of_le off.z l)) (Nat.ne_of_gt (Nat.lt_of_lt_of_le off.to l)) (Nat.ne_of_gt (Nat.lt_of_lt_of_le off.i1 l)) (Nat.ne_of_gt (Nat.lt_of_lt_of_le off.i2 l)) e
    refine wpAny_pure (hR h' tk acc c as (fun b o a1 a2 a3 a4 a5 e => he b o a2 a3 a4 a5 (keep b o a1 a2 a3 a4 a5 e)) (up S _ (Nat.le_refl _) hS) (by omega) ⟨hG.rise, hG.above, fun j a hj => ?_⟩ hacc)
    obtain ⟨x, y, e1, e2, e3⟩ := hG.pairs j a hj
    exact ⟨x, y, e1, e2, up a _ (Nat.le_of_lt (hG.above a (List.mem_of_getElem? hj))) e3⟩
  | succ k ih =>
    intro i h tk c acc as hk hi st keep hS hacc hal hG
    have hx : i < xs.size := by omega
    have hy : i < ys.size := by omega
    have hsz : acc.size = i := by rw [← Array.length_toList, hacc, List.length_map, hal]
    refine codeAny_builtin PySem.F.entry_extend_loop ?_
    rw [Around.under_plainId PySem.F.plain_extend_loop _]
    show wpAny _ A.in1 (pyNext (.ref z) >>= _) _ _ _
    refine wpAny_bind (zl_item (s := { s with heap := h, toks := tk }) (S := S) D st (Heap.lt_size hS) (Array.getElem?_eq_getElem hx) (Array.getElem?_eq_getElem hy) fun h' st' hp he => ?_)
    dsimp only at hp he ⊢
    have upS : ∀ b o, S ≤ b → h.get? b = some o → h'.get? b = some o := fun b o l e => he b o (Nat.ne_of_gt (Nat.lt_of_lt_of_le off.z l)) (Nat.ne_of_gt (Nat.lt_of_lt_of_le off.to l)) (Nat.ne_of_gt (Nat.lt_of_lt_of_le off.i1 l)) (Nat.ne_of_gt (Nat.lt_of_lt_of_le off.i2 l)) e
    have hS' := upS S _ (Nat.le_refl _) hS
    have up : ∀ b o, b ≠ S → h'.get? b = some o → (h'.update S (Obj.mapSeq (·.push (Value.ref h.objs.size)))).get? b = some o := fun b o hb e => (Heap.get?_update_other _ _ (Ne.symm hb)).trans e
    have hSl : S < h.objs.size := Heap.lt_size hS
    show wpAny _ A.in1 (updateSeq S (·.push (Value.ref h.objs.size)) >>= _) _ _ _
    refine wpAny_bind ?_
    refine wpAny_updateSeq hS' rfl (wpAny_pure ⟨plainId_quiet PySem.F.plain_extend_loop _, ih (i + 1) _ tk _ (acc.push (Value.ref h.objs.size)) (as ++ [h.objs.size]) (by omega) (by omega) (st'.keep off up)
      (fun b o a1 a2 a3 a4 a5 e => up b o a1 (he b o a2 a3 a4 a5 (keep b o a1 a2 a3 a4 a5 e))) (Heap.get?_update_self _ hS' rfl) (by rw [Array.toList_push, hacc, List.map_append]; rfl) (by rw [List.length_append, hal]; rfl) ⟨?_, ?_, ?_⟩⟩) (by rw [hsz]; omega) (by show (acc.push (Value.ref h.objs.size)).size ≤ sizeLine + 1; rw [Array.size_push, hsz]; omega)
    · refine List.pairwise_append.mpr ⟨hG.rise, List.pairwise_singleton _ _, fun a ha b hb => ?_⟩
      rw [List.mem_singleton.mp hb]
      exact hG.there ha
    · intro a ha
      rcases List.mem_append.mp ha with ha | ha
      · exact hG.above a ha
      · rw [List.mem_singleton.mp ha]; exact hSl
    · intro j b hj
      rcases Nat.lt_trichotomy j as.length with h1 | h1 | h1
      · rw [List.getElem?_append_left h1] at hj
        obtain ⟨x', y', e1, e2, e3⟩ := hG.pairs j b hj
        have hb := hG.above b (List.mem_of_getElem? hj)
        exact ⟨x', y', e1, e2, up b _ (Nat.ne_of_gt hb) (upS b _ (Nat.le_of_lt hb) e3)⟩
      · subst h1
        have hb : h.objs.size = b := by simpa using hj
        subst hb
        rw [hal]
        exact ⟨_, _, Array.getElem?_eq_getElem hx, Array.getElem?_eq_getElem hy, up _ _ (Nat.ne_of_gt hSl) hp⟩
      · have hnone : (as ++ [h.objs.size])[j]? = none := List.getElem?_eq_none (by rw [List.length_append, List.length_singleton]; omega)
        rw [hnone] at hj; cases hj
/-- list(z), z a zip of two lists just made -/
theorem zl_call {Q : Value → Shared → Prop} (hh : A.handled = none) (D : ZipApart z TI TO i1 i2 l1 l2) (off : ZOff z TI TO i1 i2 l1 l2 s.heap.objs.size) (hz : IsZip s.heap z TI TO .none) {a b : Value} (ht : IsPair s.heap TO a b) (hi : IsPair s.heap TI (.ref i1) (.ref i2)) (h1 : s.heap.IsListIter i1 l1 0) (h2 : s.heap.IsListIter i2 l2 0) (k1 : s.heap.IsList l1 xs) (k2 : s.heap.IsList l2 ys) (hn : min xs.size ys.size ≤ sizeLine)
    (hQ : ∀ h' tk acc c as, (∀ b o, b ≠ z → b ≠ TO → b ≠ i1 → b ≠ i2 → s.heap.get? b = some o → h'.get? b = some o) → h'.get? s.heap.objs.size = some { cls := .type "list", dict := none, data := .seq acc c, slots := #[] } → as.length = min xs.size ys.size → ZGot xs ys s.heap.objs.size h' as →
      acc.toList = as.map Value.ref → Q (.ref s.heap.objs.size) { s with heap := h', toks := tk }) :
    wpAny (model prog w) A (call (.type "list") [.ref z]) Q E s := by
  refine callType_codes (Q₁ := fun obj s₁ => obj = .ref s.heap.objs.size ∧ s₁ = { s with heap := s.heap.push { cls := .type "list", data := .seq #[] } }) PySem.F.called_list (PySem.F.typeCall_list_1 _) PySem.F.entry_list_init
    (code_list_new _ ⟨rfl, rfl⟩) fun obj s₁ h₁ => ?_
  obtain ⟨rfl, rfl⟩ := h₁
  have hS : (s.heap.push { cls := .type "list", data := .seq #[] }).get? s.heap.objs.size = some { cls := .type "list", data := .seq #[] } := Heap.get?_push_size _ rfl
  refine ⟨⟨_, hS, rfl⟩, PySem.F.args_list_init_2 _ _, ?_⟩
  have zS : s.heap.objs.size ≠ z := Nat.ne_of_gt off.z
  have st0 : ZAt z TI TO i1 i2 l1 l2 s.heap.objs.size xs ys 0 s.heap := ⟨hi, h1, h2, k1, k2, .inl ⟨hz, a, b, ht⟩⟩
  show wpAny _ _ (do let old ← Builtin.List.listItems (.ref s.heap.objs.size); Builtin.List.listUpdate (.ref s.heap.objs.size) (fun _ => #[]); letGo old.toList.reverse; Builtin.List.listExtendWith (.ref s.heap.objs.size) (.ref z) .none) _ _ _
  refine wpAny_bind ?_
  unfold Builtin.List.listItems
  refine wpAny_bind (wpAny_seqItems hS rfl (wpAny_pure ?_))
  show wpAny _ _ (updateSeq s.heap.objs.size (fun _ => #[]) >>= fun _ => letGo (#[] : Array Value).toList.reverse >>= fun _ => Builtin.List.listExtendWith (.ref s.heap.objs.size) (.ref z) .none) _ _ _
  refine wpAny_bind (wpAny_updateSeq hS rfl ?_)
  have hS2 := Heap.get?_update_self (Obj.mapSeq (fun _ => (#[] : Array Value))) hS rfl
  have up : ∀ (h : Heap) (f : Obj → Obj), (∀ b o, b ≠ s.heap.objs.size → s.heap.get? b = some o → h.get? b = some o) → ∀ b o, b ≠ s.heap.objs.size → s.heap.get? b = some o → (h.update s.heap.objs.size f).get? b = some o := fun h f q b o n e =>
    (Heap.get?_update_other _ _ (Ne.symm n)).trans (q b o n e)
  have q1 : ∀ b o, b ≠ s.heap.objs.size → s.heap.get? b = some o → (s.heap.push { cls := .type "list", data := .seq #[] }).get? b = some o := fun b o _ e => Heap.get?_push_of_some _ e
  have q2 := up _ (Obj.mapSeq (fun _ => (#[] : Array Value))) q1
  refine wpAny_bind (wpAny_letGo ?_)
  unfold Builtin.List.listExtendWith
  have ty : ∀ {h : Heap}, (∀ b o, b ≠ s.heap.objs.size → s.heap.get? b = some o → h.get? b = some o) → Shared.TypeIs { s with heap := h } (.ref z) "zip" := fun {h} q => ⟨_, q z _ (Ne.symm zS) hz, rfl⟩
  refine wpAny_bind (wpAny_typeOf (ty q2) ?_)
  have e1 : Builtin.List.listSameRef (.ref s.heap.objs.size) (.ref z) = false := by simp [Builtin.List.listSameRef, zS]
  have e2 : (Value.type "zip" == Value.type "list") = false := by decide
  have e3 : (Value.type "zip" == Value.type "tuple") = false := by decide
  simp only [e1, e2, e3, Bool.or_false, Bool.false_eq_true, if_false]
  refine wpAny_bind (wpAny_pyIter_zip (s := { s with heap := _ }) (q2 z _ (Ne.symm zS) hz) ?_)
  refine wpAny_bind (wpAny_holding ?_)
  unfold Builtin.List.listLengthHint
  refine wpAny_bind (wpAny_specialOf (ty q2) zip_no_len ?_)
  show wpAny _ A.in1.in1 (specialOf (Value.ref z) (Str.ofString "__length_hint__") >>= _) _ _ _
  refine wpAny_bind (wpAny_specialOf (ty q2) zip_no_hint ?_)
  refine wpAny_pure ?_
  show wpAny _ A.in1.in1 (rule "list.extend.makes-room" >>= fun _ => Builtin.List.listTouch (.ref s.heap.objs.size) >>= fun _ =>
    again (.builtin "list.extend.loop" ⟨[.ref s.heap.objs.size, .ref z, .none], []⟩)) _ _ _
  refine wpAny_bind (wpAny_rule ?_)
  refine wpAny_bind ?_
  show wpAny _ A.in1.in1 (updateSeq s.heap.objs.size (·.push .none) >>= fun _ => updateSeq s.heap.objs.size (·.pop)) _ _ _
  refine wpAny_bind (wpAny_updateSeq hS2 rfl ?_)
  have hS3 := Heap.get?_update_self (Obj.mapSeq (·.push Value.none)) hS2 rfl
  refine wpAny_updateSeq (hz := by seq_fits) hS3 rfl ?_
  have hS4 := Heap.get?_update_self (Obj.mapSeq (·.pop)) hS3 rfl
  have q4 := up _ (Obj.mapSeq (·.pop)) (up _ (Obj.mapSeq (·.push Value.none)) q2)
  refine wpAny_pure ⟨plainId_quiet F.plain_extend_loop _, ?_⟩
  refine zl_loop (s := s) (A := A.in1) (h₁ := s.heap) hh D off hn .none (fun h' tk acc c as k hS' hl hG hacc => ⟨rfl, hQ h' tk acc c as (fun b o b1 b2 b3 b4 e => k b o (Nat.ne_of_lt (Heap.lt_size e)) b1 b2 b3 b4 e) hS' hl hG hacc⟩)
    (min xs.size ys.size) 0 _ s.toks _ #[] [] (Nat.sub_zero _) (Nat.zero_le _) (st0.keep off q4) (fun b o b1 _ _ _ _ e => q4 b o b1 e) hS4 rfl rfl ⟨List.Pairwise.nil, (fun _ ha => nomatch ha), (fun j a hj => by simp at hj)⟩
end
end DM

namespace DM
open PySem PySem.Spec PyProof.Rows L2
/-- new pairs at as, the list of them at S -/
noncomputable def layP (H : Hp) (S : Addr) (as : List Addr) (ps : List (V × V)) : Hp := fun b => open Classical in
  if b = S then some (.lst (as.map V.ref)) else if q : ∃ (p : V × V) (j : Nat), as[j]? = some b ∧ ps[j]? = some p then some (.tup [q.choose.1, q.choose.2]) else H b
section
variable {H : Hp} {S : Addr} {as : List Addr} {ps : List (V × V)}
theorem layP_S : layP H S as ps S = some (.lst (as.map V.ref)) := by unfold layP; rw [if_pos rfl]
theorem layP_at {j : Nat} {a : Addr} {p : V × V} (nd : as.Nodup) (no : S ∉ as) (ha : as[j]? = some a) (hp : ps[j]? = some p) : layP H S as ps a = some (.tup [p.1, p.2]) := by
  have q : ∃ (p : V × V) (j : Nat), as[j]? = some a ∧ ps[j]? = some p := ⟨p, j, ha, hp⟩
  have aS : a ≠ S := fun z => no (z ▸ List.mem_of_getElem? ha)
  unfold layP
  rw [if_neg aS, dif_pos q]
  obtain ⟨i, h1, h2⟩ := q.choose_spec
  have e : i = j := by
    obtain ⟨l1, e1⟩ := List.getElem?_eq_some_iff.mp h1
    obtain ⟨l2, e2⟩ := List.getElem?_eq_some_iff.mp ha
    have all := List.pairwise_iff_getElem.mp nd
    rcases Nat.lt_trichotomy i j with z | z | z
    · exact absurd (e1.trans e2.symm) (all i j l1 l2 z)
    · exact z
    · exact absurd (e2.trans e1.symm) (all j i l2 l1 z)
  rw [e, hp] at h2
  cases h2
  rfl
theorem layP_off {b : Addr} (h1 : b ≠ S) (h2 : b ∉ as) : layP H S as ps b = H b := by
  unfold layP
  rw [if_neg h1, dif_neg]
  rintro ⟨p, j, e, _⟩
  exact h2 (List.mem_of_getElem? e)
end
def PairsAt (H : Hp) (ts : List Addr) (ps : List (V × V)) : Prop := ts.length = ps.length ∧ ∀ (j : Nat) (t : Addr) (p : V × V), ts[j]? = some t → ps[j]? = some p → H t = some (.tup [p.1, p.2])
def tListZip (K : PySem.W.Frag) (ta : TA) : TE := fun σ H Q => ta σ H fun vs H1 => ∃ (a b : Addr) (xs ys : List V), vs = [.ref a, .ref b] ∧ SqL K H1 a xs ∧ SqL K H1 b ys ∧
  ∀ (H' : Hp) (p : Addr) (ts : List Addr), Same H1 H' → H1 p = none → (∀ t ∈ ts, H1 t = none) → H' p = some (.lst (ts.map V.ref)) → PairsAt H' ts (xs.zip ys) → Q (.ref p) H'
section
variable {X : Cx}
theorem pairs_laid {pins : List (Addr × Obj)} {σ : L2.St} {H : Hp} {s : Shared} {h' : Heap} {tk : Nat} {xs ys : List V} {us vs : List Value} {acc : Array Value} {c : Nat} {as : List Addr} {S : Addr} (I : Inv X pins σ H s) (hz : xs.length ≤ sizeLine) (r1 : Vals xs us) (r2 : Vals ys vs) (lo : s.heap.objs.size ≤ S)
    (hk : ∀ b o, s.heap.get? b = some o → h'.get? b = some o) (hS : h'.get? S = some { cls := .type "list", dict := none, data := .seq acc c, slots := #[] }) (hl : as.length = min us.length vs.length) (hG : ZGot us.toArray vs.toArray S h' as) (hacc : acc.toList = as.map Value.ref) :
    ∃ H' : Hp, Same H H' ∧ H S = none ∧ (∀ t ∈ as, H t = none) ∧ H' S = some (.lst (as.map V.ref)) ∧ PairsAt H' as (xs.zip ys) ∧ Inv X pins σ H' { s with heap := h', toks := tk } := by
  have l1 := r1.length
  have l2 := r2.length
  have no : S ∉ as := fun z => Nat.lt_irrefl _ (hG.above _ z)
  have nd : as.Nodup := List.Pairwise.imp (fun {a b} (h : a < b) => Nat.ne_of_lt h) hG.rise
  have new : ∀ t ∈ as, H t = none := fun t ht => I.hok.fresh (Nat.le_trans lo (Nat.le_of_lt (hG.above t ht)))
  have newS : H S = none := I.hok.fresh lo
  have low : ∀ b o, s.heap.get? b = some o → b ≠ S ∧ b ∉ as := fun b o e => ⟨Nat.ne_of_lt (Nat.lt_of_lt_of_le (Heap.lt_size e) lo), fun z => absurd (Heap.lt_size e) (Nat.not_lt.mpr (Nat.le_trans lo (Nat.le_of_lt (hG.above b z))))⟩
  have kp : ∀ b u, H b = some u → layP H S as (xs.zip ys) b = some u := fun b u e => by
    rw [layP_off (fun z => by rw [z, newS] at e; cases e) (fun z => by rw [new b z] at e; cases e)]
    exact e
  have lz : as.length = (xs.zip ys).length := by rw [List.length_zip, hl, l1, l2]
  have at' : PairsAt (layP H S as (xs.zip ys)) as (xs.zip ys) := ⟨lz, fun j t p h1 h2 => layP_at nd no h1 h2⟩
  refine ⟨layP H S as (xs.zip ys), kp, newS, new, layP_S, at', ?_⟩
  refine I.call' (ch := []) rfl ⟨fun b o q _ _ _ => hk b o q, fun b o q _ _ _ => ⟨o.slots, hk b o q⟩, fun b o q n _ => ?_, fun b o q _ => ⟨o, hk b o q⟩, fun b xs q => kp b _ q, fun b o u q => kp b _ q, fun b ps q => ⟨#[], by rw [kp b _ q]; simp⟩⟩ (fun b u q => ?_) I.bare fun b z => by simp at z
  · obtain ⟨z1, z2⟩ := low b o q
    rw [layP_off z1 z2]
    exact n
  · by_cases hb : b ∈ as
    · obtain ⟨j, hj⟩ := List.mem_iff_getElem?.mp hb
      obtain ⟨lj, _⟩ := List.getElem?_eq_some_iff.mp hj
      obtain ⟨p, hp⟩ : ∃ p, (xs.zip ys)[j]? = some p := ⟨_, List.getElem?_eq_getElem (by omega)⟩
      rw [layP_at nd no hj hp] at q
      cases q
      obtain ⟨x, y, f1, f2, f3⟩ := hG.pairs j b hj
      rw [List.getElem?_zip_eq_some] at hp
      obtain ⟨u1, g1, g2⟩ := r1.get hp.1
      obtain ⟨u2, g3, g4⟩ := r2.get hp.2
      have e1 : u1 = x := by
        rw [List.getElem?_toArray, g1] at f1
        exact Option.some.inj f1
      have e2 : u2 = y := by
        rw [List.getElem?_toArray, g3] at f2
        exact Option.some.inj f2
      subst e1
      subst e2
      exact ⟨by show 2 ≤ sizeLine; decide, [u1, u2], .cons g2 (.cons g4 .nil), ⟨_, f3, rfl, _, rfl⟩⟩
    · by_cases hb2 : b = S
      · rw [hb2] at q ⊢
        rw [layP_S] at q
        cases q
        refine ⟨by rw [List.length_map]; omega, acc.toList, c, by rw [hacc]; exact LiI.vals_refs as, ?_⟩
        rw [Array.toArray_toList]
        exact hS
      · rw [layP_off hb2 hb] at q
        exact (I.hok b u q).stay (fun d v _ y => hk d v y) (fun d y => kp d _ y) fun d xs y => kp d _ y
/-- list(zip(one, other)) -/
theorem pe_listZip {e e2 : Expr} {ta : TA} {p p2 pos pos2 : Pos} (hc : X.calm = true) (hg : Gl X "list") (hm : X.mg "list" = none) (hg2 : Gl X "zip") (hm2 : X.mg "zip" = none) (ha : PA X [e, e2] ta)
    (hs0 : starEach [.Call (.Name "zip" p2) [e, e2] [] pos2] X.env = (false, eval (.Call (.Name "zip" p2) [e, e2] [] pos2) X.env) :: starEach [] X.env := by rfl)
    (hs : starEach [e, e2] X.env = (false, eval e X.env) :: starEach [e2] X.env := by rfl) (hpl : (backTo pos2 (starEach [e2] X.env)).any (·.1) = false := by rfl) :
    PE X (.Call (.Name "list" p) [.Call (.Name "zip" p2) [e, e2] [] pos2] [] pos) (tListZip X.K ta) := by
  refine ⟨fun pins s σ H Q I h => ?_⟩
  refine wpAny_Call_Name_kw (ld_blt I hg hm bt_list ?_)
  refine PyProof.Rows.callWith_type1 ?_ hs0 rfl
  rw [hs0]
  show wpAny _ _ (spliced ((false, eval (.Call (.Name "zip" p2) [e, e2] [] pos2) X.env) :: backTo pos (starEach [] X.env))) _ _ s
  refine Calls.spliced_cons ?_
  refine Call_ (ld_blt I hg2 hm2 PyProof.Rows.boot_zip (PyProof.Rows.callWith_type1 (thn (ha.run pos2 pins s σ H _ I h) fun us s1 ⟨vs, H1, I1, r1, q1⟩ => ?_) hs hpl))
  obtain ⟨a, b, xs, ys, ex, hqx, hqy, q⟩ := q1
  subst ex
  cases r1 with
  | cons r rr =>
    cases rr with
    | cons r' rr =>
      cases rr
      cases r
      cases r'
      obtain ⟨its, rv, k1, z1⟩ := I1.list hqx
      obtain ⟨its2, rv2, k2, z2⟩ := I1.list hqy
      have la : a < s1.heap.objs.size := k1.lt
      have lb : b < s1.heap.objs.size := k2.lt
      refine call_zip_2 k1.isList k2.isList fun h' hz hTI hTO i1 i2 hsz hk => Calls.spliced_nil ?_
      have D := PySem.W.ktu_apart s1.heap.objs.size a b la lb
      have sz' : s1.heap.objs.size + 5 = h'.objs.size := hsz.symm
      have off : ZOff (s1.heap.objs.size + 4) (s1.heap.objs.size + 2) (s1.heap.objs.size + 3) s1.heap.objs.size (s1.heap.objs.size + 1) a b h'.objs.size := by
        rw [hsz]
        exact ⟨Nat.lt_succ_self _, Nat.add_lt_add_left (by decide) _, Nat.add_lt_add_left (by decide) _, Nat.lt_add_of_pos_right (by decide), Nat.add_lt_add_left (by decide) _, Nat.lt_of_lt_of_le la (Nat.le_add_right _ _), Nat.lt_of_lt_of_le lb (Nat.le_add_right _ _)⟩
      have lx : its.length ≤ sizeLine := by rw [← rv.length]; exact z1
      refine zl_call (s := { s1 with heap := h' }) (I1.ok.hd hc) D off hz hTO hTI i1 i2 (k1.isList.at fun o e => hk _ o e) (k2.isList.at fun o e => hk _ o e) (Nat.le_trans (Nat.min_le_left _ _) (by rw [List.size_toArray]; exact lx)) fun h2 tk acc c as kk hS hl hG hacc => ?_
      have keep : ∀ b o, s1.heap.get? b = some o → h2.get? b = some o := fun b o e => by
        have lt := Heap.lt_size e
        exact kk b o (Nat.ne_of_lt (Nat.lt_of_lt_of_le lt (Nat.le_add_right _ _))) (Nat.ne_of_lt (Nat.lt_of_lt_of_le lt (Nat.le_add_right _ _))) (Nat.ne_of_lt lt) (Nat.ne_of_lt (Nat.lt_of_lt_of_le lt (Nat.le_add_right _ _))) (hk b o e)
      obtain ⟨H', m1, m2, m3, m4, m5, J⟩ := pairs_laid (tk := tk) I1 z1 rv rv2 (by show s1.heap.objs.size ≤ h'.objs.size; rw [hsz]; exact Nat.le_add_right _ _) keep hS (by rw [hl, List.size_toArray, List.size_toArray]) hG hacc
      exact ⟨.ref _, H', J, rfl, q H' _ as m1 m2 m3 m4 m5⟩
end
end DM

namespace DM
open PySem PySem.Spec PyProof.Rows L2
/-! ### for i, x in enumerate(a tuple) -/
set_option maxHeartbeats 1000000 in
theorem enum_made {v : Value} {o : Obj} {G : Heap → Prop} (B : Begins v o G) :
    Meets (Builtin.«enumerate.__new__» ⟨[.type "enumerate", v], []⟩) (fun _ R s => G s.heap ∧
      R (.ok (.ret (.ref (s.heap.push o).objs.size))) { s with heap := (s.heap.push o).push { cls := .type "enumerate", data := .fields #[.none, .bool false, .ref s.heap.objs.size, rawInt 0, .none, .none] } }) :=
  .of_wp fun prog w A R s want => by
    obtain ⟨hp, g, d, tk, os⟩ := s
    obtain ⟨there, want⟩ := want
    have sub := sub_enumerate
    have begun : ∀ {A' : Around} {E : Value → Shared → Prop} {Q : Value → Shared → Prop}, Q (.ref hp.objs.size) ⟨hp.push o, g, d, tk, os⟩ → wpAny (model prog w) A' (pyIter v) Q E ⟨hp, g, d, tk, os⟩ := fun q => B.iter prog w _ _ ⟨hp, g, d, tk, os⟩ _ there q
    wp_walk using begun
    refine wpAny_stack_any fun st => wpAny_pure ?_
    split
    · rename_i c _ _ _ _ _
      cases (c == Value.type "enumerate") <;> (wp_walk using begun; exact ⟨_, rfl, want⟩)
    · wp_walk using begun
      exact ⟨_, rfl, want⟩
theorem enum_call {prog : Program} {w : World} {A : Around} {E : Value → Shared → Prop} {s : Shared} {v : Value} {o : Obj} {G : Heap → Prop} {Q : Value → Shared → Prop} (B : Begins v o G) (there : G s.heap)
    (h : ∀ h', IsEnum h' (s.heap.objs.size + 1) s.heap.objs.size 0 .none → h'.get? s.heap.objs.size = some o → h'.objs.size = s.heap.objs.size + 2 → (∀ b o, s.heap.get? b = some o → h'.get? b = some o) → Q (.ref (s.heap.objs.size + 1)) { s with heap := h' }) :
    wpAny (model prog w) A (call (.type "enumerate") [v]) Q E s := by
  refine callType_new F.called_enumerate (by decide) (F.typeCall_enumerate_1 _) (F.newCall_enumerate_1 _) (fun obj => F.args_object_init_2 obj _) F.entry_enumerate_new (enum_made B) ⟨there, ?_⟩
  have more : (s.heap.push o).objs.size = s.heap.objs.size + 1 := Heap.size_push ..
  show _ ∧ _
  rw [more]
  have laid := Heap.get?_push_size (s.heap.push o) (o := { cls := .type "enumerate", data := .fields #[.none, .bool false, .ref s.heap.objs.size, rawInt 0, .none, .none] }) rfl
  rw [more] at laid
  exact ⟨⟨_, laid, rfl⟩, h _ laid (Heap.get?_push_of_some _ (Heap.get?_push_size _ B.free)) (by rw [Heap.size_push, more]) fun b o x => Heap.get?_push_of_some _ (Heap.get?_push_of_some _ x)⟩
/-- the tuple at a, each item in a new pair with its number -/
def IteT (K : PySem.W.Frag) (a : Addr) : It :=
  ⟨fun i H => ∃ (xs : List V) (x : V), SqT K H a xs ∧ xs[i]? = some x, fun i H v H' => ∃ T x, v = .ref T ∧ H T = none ∧ H' = upd H T (.tup [.int (i : Nat), x]) ∧ ∀ xs, SqT K H a xs → xs[i]? = some x, fun i H => ∃ xs : List V, SqT K H a xs ∧ xs.length = i⟩
theorem turn_enumT {P : Program} {w : World} {K : PySem.W.Frag} {elts : List Expr} {kk : Nat} {tpos : Pos} (a e it : Addr) (ha : a ≠ it) (hae : e ≠ a) :
    Turn P w K (.Tuple elts kk tpos) (IteT K a) [e, it] e (fun i h => (∃ old, IsEnum h e it ((i : Nat) : Int) old) ∧ h.IsTupleIter it a i ∧ e ≠ it) where
  mem := by simp
  obj := fun i h st b hb => by
    obtain ⟨⟨old, he⟩, ⟨o, ho, hc, hd⟩, _⟩ := st
    have e' : b = e ∨ b = it := by simpa using hb
    rcases e' with z | z
    · rw [z]; exact ⟨_, he, fun v q => nomatch q⟩
    · rw [z]; exact ⟨o, ho, fun v q => by rw [hd] at q; cases q⟩
  keep := fun i h h' st k => let ⟨⟨old, he⟩, hi, hne⟩ := st; ⟨⟨old, k e (by simp) _ he⟩, hi.at fun o q => k it (by simp) o q, hne⟩
  item := by
    intro X hP hw hK hc i pins s σ H E I hf st hg
    subst hP hw hK
    obtain ⟨⟨old, he⟩, hit, hne⟩ := st
    obtain ⟨xs, x, hq, hx⟩ := hg
    obtain ⟨its, rv, p, hz⟩ := I.tuple hq
    obtain ⟨u, hu, ru⟩ := rv.get hx
    have hel : e < s.heap.objs.size := Heap.lt_size he
    have hil : it < s.heap.objs.size := by obtain ⟨_, q, _⟩ := hit; exact Heap.lt_size q
    have lt : i < its.toArray.size := by
      rw [List.size_toArray]
      exact (List.getElem?_eq_some_iff.mp hu).1
    refine wpAny_pyNext_enum_itemD (Draws.tuple (A := X.A.in1) (I.ok.hd hc) it a ha its.toArray) he ⟨hit, p⟩ lt hne (fun z => ?_) fun u' h' tk hu' ho hit' hT hsz hk => ?_
    · have e' : e = it ∨ e = a := by simpa using z
      exact e'.elim hne hae
    have eu : u' = u := by
      have hu2 : its[i]? = some u' := by rw [← List.getElem?_toArray]; exact hu'
      rw [hu] at hu2
      exact (Option.some.inj hu2).symm
    subst eu
    refine ⟨_, rfl, wpAny_letOwnedTupleGo_enum (s := { s with heap := h', toks := tk + 1 }) ho fun h'' he' sb => ?_⟩
    have hT2 : h''.get? s.heap.objs.size = some { cls := .type "tuple", data := .seq #[.int i tk, u'] } := (sb.2 _ (Nat.ne_of_gt hel)).trans hT
    have new : ObjOk X.prog X.w (upd H s.heap.objs.size (.tup [.int (i : Nat), x])) h'' s.heap.objs.size (.tup [.int (i : Nat), x]) :=
      ⟨by show 2 ≤ sizeLine; decide, [.int i tk, u'], .cons ⟨_, rfl⟩ (.cons ru .nil), ⟨_, hT2, rfl, _, rfl⟩⟩
    have I1 : Inv X pins σ (upd H s.heap.objs.size (.tup [.int (i : Nat), x])) { s with heap := h'', toks := tk + 1 } :=
      I.turnedNew (ch := [e, it]) (fun b ob hb q => (sb.2 b (fun z => hb (by simp [z]))).trans (hk b ob (fun z => hb (by simp [z])) (fun z => hb (by simp [z])) q)) hf (Nat.le_refl _) new
    refine ⟨.ref s.heap.objs.size, _, I1, rfl, ⟨_, x, rfl, I.hok.fresh (Nat.le_refl _), rfl, fun ys hy => by rw [I.tuple_inj hy hq]; exact hx⟩, ⟨⟨u', ?_⟩, hit'.1.at fun o q => (sb.2 it (Ne.symm hne)).trans q, hne⟩, fun b hb => ?_⟩
    · have e1 : ((i + 1 : Nat) : Int) = (i : Int) + 1 := by omega
      rw [e1]; exact he'
    · have hb' : b < s.heap.objs.size := by
        have e' : b = e ∨ b = it := by simpa using hb
        rcases e' with z | z
        · rw [z]; exact hel
        · rw [z]; exact hil
      rw [upd_ne (Nat.ne_of_lt hb')]
      exact (hf b hb).1
  done := by
    intro X hP hw hK hc i pins s σ H E I hf st hg
    subst hP hw hK
    obtain ⟨⟨old, he⟩, hit, hne⟩ := st
    obtain ⟨xs, hq, hx⟩ := hg
    obtain ⟨its, rv, p, hz⟩ := I.tuple hq
    obtain ⟨f0, f1, f2, f3, f4, f5⟩ := hf it (by simp)
    have hl : i = its.toArray.size := by rw [List.size_toArray, ← rv.length]; exact hx.symm
    subst hl
    exact wpAny_pyNext_enum_endD (Draws.tuple (A := X.A.in1) (I.ok.hd hc) it a ha its.toArray) he ⟨hit, p⟩ fun h' eb => ⟨rfl, I.turned (t' := s.toks) (fun b o hb q => eb b o hb q) f0 f1 f3 f4 f5⟩
  self := fun A i s Q E st h => let ⟨⟨_, he⟩, _⟩ := st; wpAny_pyIter_enum he h
def iEnumT (K : PySem.W.Frag) (ta : TA) : TI := fun σ H R => ta σ H fun vs H1 => ∃ a xs, vs = [.ref a] ∧ SqT K H1 a xs ∧ R (IteT K a) H1
theorem pi_enumT {X : Cx} {e : Expr} {ta : TA} {p pos tpos : Pos} {elts : List Expr} {kk : Nat} (hg : Gl X "enumerate") (hm : X.mg "enumerate" = none) (ha : PA X [e] ta) (hs : starEach [e] X.env = [(false, eval e X.env)] := by rfl) :
    PI X (.Tuple elts kk tpos) (.Call (.Name "enumerate" p) [e] [] pos) (iEnumT X.K ta) := by
  refine ⟨fun pins s σ H R I h => ?_⟩
  refine Call_ (ld_blt I hg hm boot_enumerate (PyProof.Rows.callWith_type1 (thn (ha.run pos pins s σ H _ I h) fun us s1 ⟨vs, H1, I1, r1, q1⟩ => ?_) hs rfl))
  obtain ⟨a, xs, ex, hq, q⟩ := q1
  subst ex
  cases r1 with
  | cons r rr =>
    cases rr
    cases r
    obtain ⟨its, rv, p', hz⟩ := I1.tuple hq
    have al : a < s1.heap.objs.size := by obtain ⟨_, z, _⟩ := p'; exact Heap.lt_size z
    refine enum_call (begins_tuple a its.toArray) p' fun h' he hit hsz hk => wpAny_pyIter_enum he ?_
    have I2 : Inv X pins σ H1 { s1 with heap := h' } := I1.kept (t' := s1.toks) hk
    refine ⟨s1.heap.objs.size + 1, [s1.heap.objs.size + 1, s1.heap.objs.size], _, _, H1, rfl, I2, turn_enumT a (s1.heap.objs.size + 1) s1.heap.objs.size (Nat.ne_of_lt al) (Nat.ne_of_gt (Nat.lt_succ_of_lt al)), ⟨⟨.none, he⟩, ⟨_, hit, rfl, rfl⟩, Nat.succ_ne_self _⟩, fun b hb => ?_, q⟩
    have e' : b = s1.heap.objs.size + 1 ∨ b = s1.heap.objs.size := by simpa using hb
    have hle : s1.heap.objs.size ≤ b := by
      rcases e' with z | z
      · rw [z]; exact Nat.le_add_right _ _
      · rw [z]; exact Nat.le_refl _
    exact I1.fpOk hle (I1.hok.fresh hle)
theorem walk_enumT {K : PySem.W.Frag} {a : Addr} {xs : List V} : L2.Walk (IteT K a) xs.length (fun H => SqT K H a xs) (YPair (fun i => some (.int (i : Nat))) (fun i => xs[i]?)) := by
  refine ⟨fun i _ hi q => ⟨xs, xs[i], q, by simp [hi]⟩, fun _ q => ⟨xs, q, rfl⟩, fun i H v H' _ q y => ?_⟩
  obtain ⟨T, x, h1, h2, h3, h4⟩ := y
  exact ⟨T, .int (i : Nat), x, h1, h2, h3, rfl, h4 xs q⟩
end DM

namespace DM
open PySem PySem.Spec PyProof.Rows L2
/-! ### sorted(set of tuples of numbers) -/
def intsD (k : List Int) : PyData := .tuple (k.map .int)
theorem reads_items {P : Program} {w : World} {h : Heap} : ∀ {k : List Int} {vs : List Value}, ItemsAre (intKind P w) k vs → ReadsAll h vs (k.map .int) []
  | [], _, .nil => .nil
  | i :: k, _, .cons r t => by
    obtain ⟨tk, rfl⟩ := Value.isInt_shape r
    exact .cons (as := []) (bs := []) (.int i tk) (reads_items t)
theorem reads_isT {P : Program} {w : World} {h : Heap} {k : List Int} {b : Addr} (x : IsT P w h k b) : Reads h (.ref b) (intsD k) [] := by
  obtain ⟨o, items, n, ho, hc, hd, hi⟩ := x
  exact .tuple ho hc hd (reads_items hi)
theorem perm_map_from {α β : Type} {f : α → β} {vs ws : List β} (p : vs.Perm ws) : ∀ L : List α, ws = L.map f → ∃ M : List α, M.Perm L ∧ vs = M.map f := by
  induction p with
  | nil => exact fun L e => ⟨L, .refl _, e⟩
  | cons x _ ih =>
    intro L e
    cases L with
    | nil => cases e
    | cons a L =>
      rw [List.map_cons, List.cons.injEq] at e
      obtain ⟨M, pm, em⟩ := ih L e.2
      exact ⟨a :: M, pm.cons a, by rw [List.map_cons, em, e.1]⟩
  | swap x y l =>
    intro L e
    cases L with
    | nil => cases e
    | cons a L =>
      cases L with
      | nil => cases e
      | cons b L =>
        rw [List.map_cons, List.map_cons, List.cons.injEq, List.cons.injEq] at e
        exact ⟨b :: a :: L, .swap a b L, by rw [List.map_cons, List.map_cons, e.1, e.2.1, e.2.2]⟩
  | trans _ _ ih1 ih2 =>
    intro L e
    obtain ⟨M, pm, em⟩ := ih2 L e
    obtain ⟨M', pm', em'⟩ := ih1 M em
    exact ⟨M', pm'.trans pm, em'⟩
theorem each_refs {h : Heap} : ∀ {L : List (Addr × List Int)}, PySem.W.EachIs (fun v (p : Addr × List Int) => v = Value.ref p.1) (L.map fun p => Value.ref p.1) L
  | [] => .nil
  | _ :: _ => .cons rfl (each_refs (h := h))
theorem refs_each : ∀ {L : List (Addr × List Int)} {vs : List Value}, PySem.W.EachIs (fun v (p : Addr × List Int) => v = Value.ref p.1) vs L → vs = L.map fun p => Value.ref p.1
  | [], _, .nil => rfl
  | _ :: _, _, .cons e t => by rw [List.map_cons, e, refs_each t]
theorem each_reads_of {P : Program} {w : World} {h : Heap} {a : Addr} : ∀ {L : List (Addr × List Int)}, (∀ p ∈ L, IsT P w h p.2 p.1) → PySem.W.EachIs (fun v (p : Addr × List Int) => ∃ as, Reads h v (intsD p.2) as ∧ a ∉ as) (L.map fun p => Value.ref p.1) L
  | [], _ => .nil
  | p :: _, hL => .cons ⟨[], reads_isT (hL p List.mem_cons_self), by simp⟩ (each_reads_of fun q hq => hL q (List.mem_cons_of_mem _ hq))
section
variable {P : Program} {w : World} {A : Around} {E : Value → Shared → Prop} {s : Shared} {a : Addr} {L : List (Addr × List Int)} {es : Array (Int × Value)} {ep : Nat} {t : SetTable}
theorem set_sorted {Q : Value → Shared → Prop} (R : SetTR P w s.heap a L es ep t) (hh : A.handled = none) (ne : ∀ p ∈ L, p.2 ≠ []) (hu : A.units + 10 < cLine)
    (hQ : ∀ s' p (out : Array Value) (c : Nat) (M : List (Addr × List Int)), (∀ b o, s.heap.get? b = some o → s'.heap.get? b = some o) → s'.gens = s.gens → s'.os = s.os → s.heap.objs.size ≤ p →
      s'.heap.get? p = some (seqObj "list" out c) → out.toList = M.map (fun q => Value.ref q.1) → M.Perm L → M.Pairwise (fun q r => PySem.W.dataLt (intsD r.2) (intsD q.2) = false) → Q (.ref p) s') :
    wpAny (model P w) A (call (.builtin "sorted") [.ref a]) Q E s := by
  obtain ⟨o, ho, hex, hd⟩ := R.ob
  have hfew := R.few
  refine Calls.call_function_entry kind_sorted plain_sorted entry_sorted (args_sorted1 _) ?_
  unfold Builtin.«sorted»
  refine wpAny_bind (m := checkCount "sorted" 1 1 _) (wpAny_pure ?_)
  refine wpAny_bind (collect_set (A := A.in1) hh ⟨o, ho, hex.1, hd⟩ R.fits (by have := R.size; unfold scanBound; omega) R.tab.ris R.led fun s1 vs k1 hz g1 o1 pm => ?_)
  have hes : es.toList.map (·.2) = L.map fun q => Value.ref q.1 := by
    rw [R.rows]
    unfold rowsOf
    rw [List.map_map] <;> rfl
  obtain ⟨N, pN, rfl⟩ := perm_map_from pm L hes
  have hN : ∀ p ∈ N, p ∈ L := fun p hp => pN.mem_iff.mp hp
  have lN : N.length < 64 := by rw [pN.length_eq]; exact hfew
  refine wpAny_bind (wpAny_newList ?_ (by rw [List.length_map, sizeLine_eq]; omega))
  have hoL : (s1.heap.push (seqObj "list" (N.map fun q => Value.ref q.1).toArray 0)).get? s1.heap.objs.size = some (seqObj "list" (N.map fun q => Value.ref q.1).toArray 0) := Heap.get?_push_size _ rfl
  have tk : ∀ p ∈ N, IsT P w (s1.heap.push (seqObj "list" (N.map fun q => Value.ref q.1).toArray 0)) p.2 p.1 := fun p hp => isT_keep (R.tup p (hN p hp)) fun b u e => Heap.get?_push_of_some _ (k1 b u e)
  have al : PySem.W.AllAlike (N.map fun p => intsD p.2) := fun d hd d' hd' => by
    obtain ⟨p, _, rfl⟩ := List.mem_map.mp hd
    obtain ⟨p', _, rfl⟩ := List.mem_map.mp hd'
    show PySem.W.alike (.tuple _) (.tuple _) = true
    simp only [PySem.W.alike]
    exact PySem.W.alike_ints _ _
  have so : PySem.W.Sortable (N.map fun p => intsD p.2) := .inl fun d hd => by
    obtain ⟨p, hp, rfl⟩ := List.mem_map.mp hd
    have := ne p (hN p hp)
    cases e : p.2 with
    | nil => exact absurd e this
    | cons i k => exact ⟨.int i, k.map .int, by unfold intsD; rw [List.map_cons]⟩
  refine wpAny_bind (wpAny_holding (PySem.W.list_sort_data (s := { s1 with heap := s1.heap.push (seqObj "list" (N.map fun q => Value.ref q.1).toArray 0) }) (bs := N) (enc := fun p => intsD p.2) (R := fun v p => v = Value.ref p.1) hoL (each_refs (h := s.heap)) (each_reads_of tk) al so (by rw [sizeLine_eq]; omega) (fun p _ => ?_) fun out lo eo => ?_))
  · have z : (intsD p.2).depth ≤ 1 := by unfold intsD; simp only [PyData.depth, PySem.W.depth_ints]; omega
    show A.units + 1 + 1 + (intsD p.2).depth < cLine
    omega
  · obtain ⟨c, hc⟩ := sortedHeap_at (vs := N.map fun q => Value.ref q.1) (out := out.toArray) hoL
    have tot := PySem.W.sortLe_total (PyProof.Rows.listOrd PyProof.Rows.itemOrd) false fun b : Addr × List Int => PySem.W.keyToks (intsD b.2)
    have pw := PySem.W.sort_pairwise tot N
    have pm2 := List.mergeSort_perm N (PySem.W.dataLe false fun p : Addr × List Int => intsD p.2)
    refine wpAny_pure ⟨_, rfl, hQ _ s1.heap.objs.size out.toArray c _ (fun b u e => ?_) g1 o1 hz hc (by simpa using refs_each eo) (pm2.trans pN) (pw.imp fun {x y} z => ?_)⟩
    · have q := k1 b u e
      have hlt := Heap.lt_size q
      show (sortedHeap (s1.heap.push (seqObj "list" (N.map fun q => Value.ref q.1).toArray 0)) s1.heap.objs.size (N.map fun q => Value.ref q.1) out.toArray).get? b = some u
      rw [sortedHeap_old (Nat.ne_of_lt hlt) (by rw [size_push']; exact Nat.lt_succ_of_lt hlt)]
      exact Heap.get?_push_of_some _ q
    · have z' : (!PySem.W.dataLt (intsD y.2) (intsD x.2)) = true := z
      simpa using z'
end
def rSetSort (K : PySem.W.Frag) (P : Program) (w : World) : List V → Hp → VK → Prop := fun vs H Q => ∃ (a : Addr) (L : List (Addr × List Int)), vs = [V.ref a] ∧ H a = some (SetTO P w a L) ∧ (∀ p ∈ L, SqT K H p.1 (p.2.map V.int)) ∧ (∀ p ∈ L, p.2 ≠ []) ∧
  ∀ (M : List (Addr × List Int)) (p : Addr), M.Perm L → (M.map (·.2)).Nodup → M.Pairwise (fun q r => PySem.W.dataLt (intsD r.2) (intsD q.2) = false) → H p = none → Q (.ref p) (upd H p (.lst (M.map fun q => V.ref q.1)))
theorem cr_setSort {X : Cx} (hc : X.calm = true) (hu : X.A.units + 64 < cLine) : CallR X (.builtin "sorted") (rSetSort X.K X.prog X.w) := by
  intro pins s σ H vs us Q I r h
  obtain ⟨a, L, rfl, ha, hk, ne, q⟩ := h
  have R0 : SetT0 X.prog X.w s.heap a L := (I.hok a _ ha).1
  obtain ⟨es, ep, t, R⟩ := R0.full fun p hp => I.isT (hk p hp)
  rw [Vals.ref1 r]
  refine set_sorted R (I.ok.hd hc) ne (by omega) fun s' p out c M k g o hp hg hout pm pw => ?_
  have few : M.length < 64 := by rw [pm.length_eq]; exact R.few
  have len : (M.map fun q => V.ref q.1).length ≤ sizeLine := by rw [List.length_map, sizeLine_eq]; omega
  have new : H p = none := I.hok.fresh hp
  have hv : Vals (M.map fun q => V.ref q.1) out.toList := by rw [hout]; exact vals_of_refs M
  have J : Inv X pins σ (upd H p (.lst (M.map fun q => V.ref q.1))) { s with heap := s'.heap, gens := s'.gens, drawn := s'.drawn, toks := s'.toks } :=
    I.call (ch := []) (Un.laid k hp new) (I.hok.laid k hp ⟨len, out.toList, c, hv, hg⟩) (by rw [g]; exact I.bare) (fun _ z => nomatch z)
  have e : s' = { s with heap := s'.heap, gens := s'.gens, drawn := s'.drawn, toks := s'.toks } := by
    cases s'
    cases s
    cases o
    rfl
  rw [e]
  exact ⟨.ref p, _, J, rfl, q M p pm ((pm.map (·.2)).nodup_iff.mpr R.nd) pw new⟩
end DM

namespace DM
open PySem PySem.Spec PyProof.Rows L2 PpSet
/-! ### {tuple of numbers for target in iter if ..} -/
theorem setT_add {X : Cx} {pins : List (Addr × Obj)} {σ : L2.St} {H : Hp} {s : Shared} {E : Value → Shared → Prop} {D b : Addr} {L : List (Addr × List Int)} {k : List Int} {Q : Value → Shared → Prop} (hu : X.A.units + 1 < cLine) (I : Inv X pins σ H s) (hD : H D = some (SetTO X.prog X.w D L)) (hL : ∀ p ∈ L, SqT X.K H p.1 (p.2.map V.int)) (hb : SqT X.K H b (k.map V.int)) (few : L.length + 1 < 64)
    (h : ∀ s' M, (k ∈ L.map (·.2) → M = L) → (k ∉ L.map (·.2) → M.Perm ((b, k) :: L)) → Inv X pins σ (upd H D (SetTO X.prog X.w D M)) s' → Q .none s') : wpAny (model X.prog X.w) X.A (call (.builtin "set.add") [.ref D, .ref b]) Q E s := by
  have R0 : SetT0 X.prog X.w s.heap D L := (I.hok D _ hD).1
  obtain ⟨es, ep, t, R⟩ := R0.full fun p hp => I.isT (hL p hp)
  obtain ⟨o, ho, hex, hd⟩ := R.ob
  have ty : s.TypeIs (.ref D) "set" := ⟨o, ho, hex.1⟩
  have hx := I.isT hb
  refine wpAny_call_entry F.slot_set_add ty F.entry_set_add ?_ (F.args_set_add_2 _ _)
  unfold Builtin.«set.add» Builtin.Frozenset.oneOther
  simp only [List.isEmpty_nil, bind_assoc]
  unfold Builtin.Frozenset.addrOf setAdd
  refine wpAny_bind (wpAny_pure ?_)
  try dsimp only
  refine wpAny_bind (wpAny_pure ?_)
  try dsimp only
  refine wpAny_bind ?_
  refine wpAny_holding ?_
  refine wpAny_bind (wpAny_pyHash_tuple (by show X.A.units + 1 < cLine; exact hu) hx ?_)
  refine add_at (s := { s with toks := s.toks + (k.length + 1) }) R hx (by show X.A.units + 1 < cLine; exact hu) few fun _ h' M es' ep' t' sb R' c1 c2 => ?_
  show wpAny _ _ (ret Value.none) _ _ _
  obtain ⟨o', ho', _⟩ := R'.ob
  exact wpAny_pure ⟨_, rfl, h _ M c1 c2 (I.write (e := D) (t' := s.toks + (k.length + 1)) (by rw [hD]; trivial) (.inl rfl) (fun b u hb hu => (sb.2 b hb).trans hu) ⟨o', ho'⟩ (setTO_new R'.t0))⟩
section
variable {X : Cx}
/-- one more member, if it is none yet -/
def SetPut (L : List (Addr × List Int)) (b : Addr) (k : List Int) (M : List (Addr × List Int)) : Prop := (k ∈ L.map (·.2) → M = L) ∧ (k ∉ L.map (·.2) → M.Perm ((b, k) :: L))
def tSetC (P : Program) (w : World) (K : PySem.W.Frag) (wi : TI) (g : TG) (tt : TT) (te : TE) (vs : List Nat) : TE := fun σ H Q => wi σ H fun J H1 => ∀ D, H1 D = none → ∃ W : Nat → Nat → Hp → Prop, (∃ m, W 0 m (upd H1 D (SetTO P w D []))) ∧ ∀ i m H, W i m H →
  (J.stop i H ∧ Q (.ref D) H) ∨ (J.go i H ∧ ∃ Nx : Hp → Prop, (∀ H', Nx H' → ∃ m', m' < m ∧ W (i + 1) m' H') ∧ ∀ x H', J.yld i H x H' → g x (wipe σ vs) H' fun σ2 H2 => wipe σ2 vs = wipe σ vs ∧ tt σ2 H2 fun b H3 =>
    if b = true then te σ2 H3 fun y H4 => ∃ (L : List (Addr × List Int)) (k : List Int) (b : Addr), y = .ref b ∧ H4 D = some (SetTO P w D L) ∧ (∀ p ∈ L, SqT K H4 p.1 (p.2.map V.int)) ∧ SqT K H4 b (k.map V.int) ∧ L.length + 1 < 64 ∧ ∀ M, SetPut L b k M → Nx (upd H4 D (SetTO P w D M)) else Nx H3)
theorem setC_loop {elt tg iter : Expr} {ifs : List Expr} {scope : Scope} {pos : Pos} {g : TG} {tt : TT} {te : TE} {vs : List Nat} {σ : L2.St} {H3 : Hp} {s3 s4 : Shared} {fp : List Addr} {turns : Nat → Heap → Prop} {Jt : It} {ito D : Addr} {cx : Env} {W : Nat → Nat → Hp → Prop} {m0 : Nat} {Q : VK} {pins : List (Addr × Obj)} {Qf : Value → Shared → Prop} {use : Option (Value → Sem Unit)}
    (calm : X.calm = true) (hu : X.A.units + 1 < cLine) (I3 : Inv X pins σ H3 s3) (f3 : ∀ b ∈ fp, FpOk X pins H3 b ∧ b < s3.heap.objs.size) (I4 : Inv (X.blk s3 H3 scope cx fp) [] (wipe σ vs) H3 s4) (locC : cx.locals = s3.heap.objs.size) (Tn : Turn X.prog X.w X.K tg Jt fp ito turns) (at4 : turns 0 s4.heap)
    (aim : PG (X.blk s3 H3 scope cx fp) tg g) (tests : PTs (X.blk s3 H3 scope cx fp) ifs tt) (eltE : PE (X.blk s3 H3 scope cx fp) elt te) (w0 : W 0 m0 H3)
    (each : ∀ i m H, W i m H → (Jt.stop i H ∧ Q (.ref D) H) ∨ (Jt.go i H ∧ ∃ Nx : Hp → Prop, (∀ H', Nx H' → ∃ m', m' < m ∧ W (i + 1) m' H') ∧ ∀ x H', Jt.yld i H x H' → g x (wipe σ vs) H' fun σ2 H2 => wipe σ2 vs = wipe σ vs ∧ tt σ2 H2 fun b H3 =>
      if b = true then te σ2 H3 fun y H4 => ∃ (L : List (Addr × List Int)) (k : List Int) (b : Addr), y = .ref b ∧ H4 D = some (SetTO X.prog X.w D L) ∧ (∀ p ∈ L, SqT X.K H4 p.1 (p.2.map V.int)) ∧ SqT X.K H4 b (k.map V.int) ∧ L.length + 1 < 64 ∧ ∀ M, SetPut L b k M → Nx (upd H4 D (SetTO X.prog X.w D M)) else Nx H3))
    (after : ∀ (r : Shared) (m : Str → Option Value) (J : Hp), Inv X pins σ J r → Q (.ref D) J → r.heap.Ns s3.heap.objs.size m → FpOk X pins J s3.heap.objs.size → compPost (model X.prog X.w) X.A X.xe use Qf (.ref D) s3.heap.objs.size (.ok .next) r) :
    codeAny (model X.prog X.w) X.A (.compLoop (.SetComp elt [⟨tg, iter, ifs, 0⟩] scope pos) 0 (.ref ito) (.ref D) cx) (compPost (model X.prog X.w) X.A X.xe use Qf (.ref D) s3.heap.objs.size) s4 := by
  have ow : OwnOk (X.blk s3 H3 scope cx fp) fp := fun τ J r Ir nJ b hb => ⟨nJ b hb, (Ir.ok.exf b hb).1, Ir.ok.exfs b hb, .inl hb, fun x c e => (Ir.ok.exf b hb).2 x c e, fun p hp => absurd (show p ∈ ([] : List (Addr × Obj)) ++ [] from hp) (by simp)⟩
  refine compLoopS_any (fun n r => ∃ i J, Inv (X.blk s3 H3 scope cx fp) [] (wipe σ vs) J r ∧ turns i r.heap ∧ (∀ b ∈ fp, J b = none) ∧ W i n J) ?_ m0 ⟨0, H3, I4, at4, fun b hb => (f3 b hb).1.1, w0⟩
  rintro n r ⟨i, J, Ir, atr, nor, wr⟩
  rcases each i n J wr with ⟨halt, fine⟩ | ⟨go, Nx, next, act⟩
  · refine thnF (Tn.done (X.blk s3 H3 scope cx fp) rfl rfl rfl calm i [] r _ J (fun _ _ => False) Ir (ow _ _ _ Ir nor) atr halt) fun o r2 h2 => ?_
    obtain ⟨rfl, I6⟩ := h2
    have back : Inv X pins σ J r2 := I3.call' (ch := fp) I6.os I6.base I6.hok I6.bare fun b hb => ⟨(f3 b hb).1.2.2.2.1, (f3 b hb).1.2.1, (f3 b hb).1.2.2.2.2.1, (f3 b hb).1.2.2.2.2.2⟩
    have noC : J s3.heap.objs.size = none := by rw [← locC]; exact I6.free
    obtain ⟨m, hn, _⟩ := I6.loc
    exact after r2 m J back fine (by rw [← locC]; exact hn) (I3.fpOk (Nat.le_refl _) noC)
  · have one := comp_each (Ec := notedBy (model X.prog X.w) X.A cx fun e s' => compPost (model X.prog X.w) X.A X.xe use Qf (.ref D) s3.heap.objs.size (.error e) s') (Bx := X.blk s3 H3 scope cx fp) (vs := vs) (σ := σ) (Nx := Nx) (R := fun r => ∃ m, m < n ∧ ∃ i J, Inv (X.blk s3 H3 scope cx fp) [] (wipe σ vs) J r ∧ turns i r.heap ∧ (∀ b ∈ fp, J b = none) ∧ W i m J)
      (El := fun σ2 H3 Nx => te σ2 H3 fun y H4 => ∃ (L : List (Addr × List Int)) (k : List Int) (b : Addr), y = .ref b ∧ H4 D = some (SetTO X.prog X.w D L) ∧ (∀ p ∈ L, SqT X.K H4 p.1 (p.2.map V.int)) ∧ SqT X.K H4 b (k.map V.int) ∧ L.length + 1 < 64 ∧ ∀ M, SetPut L b k M → Nx (upd H4 D (SetTO X.prog X.w D M)))
      (AW := fun R' r => wpAny (model X.prog X.w) X.A (eval elt cx) (fun v r1 => wpAny (model X.prog X.w) X.A (call (.builtin "set.add") [.ref D, v]) (fun _ r2 => R' r2) (notedBy (model X.prog X.w) X.A cx fun e s' => compPost (model X.prog X.w) X.A X.xe use Qf (.ref D) s3.heap.objs.size (.error e) s') r1) (notedBy (model X.prog X.w) X.A cx fun e s' => compPost (model X.prog X.w) X.A X.xe use Qf (.ref D) s3.heap.objs.size (.error e) s') r)
      Tn calm rfl aim tests ow Ir atr nor go act (fun pins τ J r R' Ir2 el out => ?_) (fun r J Ir2 at2 no2 nx => ?_)
    · refine thn one fun o r2 h2 => ?_
      obtain ⟨v, rfl, h2⟩ := h2
      refine thn h2 fun _ r3 h3 => thn h3 fun _ r4 h4 => thn h4 fun ok r5 h5 => ?_
      cases ok with
      | false => exact h5
      | true => exact h5
    · refine thnF (eltE.run pins r τ J _ Ir2 el) fun v r1 h1 => ?_
      obtain ⟨y, J1, I1, ry, L, k, b, rfl, hD, hL, hb, few, nx⟩ := h1
      obtain rfl : v = Value.ref b := ry
      exact setT_add (X := X.blk s3 H3 scope cx fp) hu I1 hD hL hb few fun r2 M c1 c2 I2 => out r2 _ I2 (nx M ⟨c1, c2⟩)
    · obtain ⟨m, less, w'⟩ := next J nx
      exact ⟨m, less, i + 1, J, Ir2, at2, no2, w'⟩
theorem pe_setC {elt tg iter : Expr} {ifs : List Expr} {scope : Scope} {own : List (Str × Nat)} {pos : Pos} {wi : TI} {g : TG} {tt : TT} {te : TE} (calm : X.calm = true) (hu : X.A.units + 1 < cLine) (ndN : X.N.Nodup) (walks : PI X tg iter wi) (bl : BlkOk X.N X.env.scope scope own)
    (aim : ∀ (s : Shared) (H : Hp) (C : Addr) (cl : List (Str × Addr)) (fp : List Addr), PG (X.blk s H scope (compEnvC scope cl C X.env) fp) tg g) (tests : ∀ (s : Shared) (H : Hp) (C : Addr) (cl : List (Str × Addr)) (fp : List Addr), PTs (X.blk s H scope (compEnvC scope cl C X.env) fp) ifs tt)
    (eltE : ∀ (s : Shared) (H : Hp) (C : Addr) (cl : List (Str × Addr)) (fp : List Addr), PE (X.blk s H scope (compEnvC scope cl C X.env) fp) elt te)
    (plain : ∀ x, foldedSetIterable iter X.env x = pure x := by intro _; rfl) :
    PE X (.SetComp elt [⟨tg, iter, ifs, 0⟩] scope pos) (tSetC X.prog X.w X.K wi g tt te (own.map (·.2))) := by
  refine ⟨fun pins s σ H Q I want => ?_⟩
  rw [eval_SetComp]
  have frees : ∀ y ∈ scope.names, y.2 = .free → ∃ c, X.env.cells.lookup y.1 = some c := fun y hy e => (bl.free y hy e).elim (fun k => I.ok.has _ (.inl k)) fun k => I.ok.has _ (.inr k)
  refine wpAny_comprehension_free rfl plain (closure_ok frees) bl.kind (fun y hy e => by rw [bl.uniq y hy, e]) (thn (walks.run pins s σ H _ I want) fun xv s1 h1 => thn h1 fun itv s2 h2 => ?_)
  obtain ⟨ito, fp, turns, Jt, H2, rfl, I2, Tn, at2, f2, each⟩ := h2
  refine newSet_ok (newEnv_comp ?_)
  obtain ⟨W, ⟨m0, w0⟩, each⟩ := each s2.heap.objs.size (I2.hok.fresh (Nat.le_refl _))
  have fresh : (s2.heap.push { cls := .type "set", dict := none, data := .set #[] 0 (.fresh 0 0 (!X.w.params.followText "set-order")) }).get? s2.heap.objs.size = some { cls := .type "set", dict := none, data := .set #[] 0 (.fresh 0 0 (!X.w.params.followText "set-order")) } := Heap.get?_push_size _ rfl
  have I3 : Inv X pins σ (upd H2 s2.heap.objs.size (SetTO X.prog X.w s2.heap.objs.size [])) { s2 with heap := s2.heap.push { cls := .type "set", dict := none, data := .set #[] 0 (.fresh 0 0 (!X.w.params.followText "set-order")) }, toks := s2.toks } := I2.laid (fun b o e => Heap.get?_push_of_some _ e) (Nat.le_refl _) (setTO_new (setTR_fresh (P := X.prog) (w := X.w) fresh).t0)
  have f3 : ∀ b ∈ fp, FpOk X pins (upd H2 s2.heap.objs.size (SetTO X.prog X.w s2.heap.objs.size [])) b ∧ b < (s2.heap.push { cls := .type "set", dict := none, data := .set #[] 0 (.fresh 0 0 (!X.w.params.followText "set-order")) }).objs.size := fun b hb => by
    obtain ⟨o, e, _⟩ := Tn.obj _ _ at2 b hb
    have less := Heap.lt_size e
    exact ⟨⟨by rw [upd_ne (Nat.ne_of_lt less)]; exact (f2 b hb).1, (f2 b hb).2⟩, by rw [Heap.size_push]; exact Nat.lt_succ_of_lt less⟩
  have at3 : turns 0 (s2.heap.push { cls := .type "set", dict := none, data := .set #[] 0 (.fresh 0 0 (!X.w.params.followText "set-order")) }) := Tn.keep _ _ _ at2 fun b _ o e => Heap.get?_push_of_some _ e
  have I4 := block_start I3 bl ndN f3
  have at4 : turns 0 (pushCells ((s2.heap.push { cls := .type "set", dict := none, data := .set #[] 0 (.fresh 0 0 (!X.w.params.followText "set-order")) }).push { cls := .type "dict", data := .dict #[] }) scope.names) := Tn.keep _ _ _ at3 fun b _ o e => pushCells_keeps _ _ _ _ (Heap.get?_push_of_some _ e)
  have going := setC_loop (elt := elt) (iter := iter) (ifs := ifs) (pos := pos) (use := none) (Qf := EP X pins σ Q) calm hu I3 f3 I4 rfl Tn at4 (aim _ _ _ _ _) (tests _ _ _ _ _) (eltE _ _ _ _ _) w0 each fun r m J Ir fine hn fo => ⟨m, hn, fun h'' sb => ?_⟩
  · exact codeAny_compStart_set going (Tn.self X.A 0 _ _ _ at4 going)
  · obtain ⟨o0, o1, o2, o3, o4, o5⟩ := fo
    exact ⟨.ref _, J, Ir.turned (t' := r.toks) (fun b o hb e => (sb.2 b hb).trans e) o0 o1 o3 o4 o5, rfl, fine⟩
end
end DM

namespace DM
open PySem L2
/-! ### strokes, heaps, causes as they lie on the heap -/
abbrev S4 := (Int × Int) × (Int × Int)
def S4.ok (s : S4) : Prop := (-40 ≤ s.1.1 ∧ s.1.1 ≤ 40 ∧ -40 ≤ s.1.2 ∧ s.1.2 ≤ 40 ∧ -40 ≤ s.2.1 ∧ s.2.1 ≤ 40 ∧ -40 ≤ s.2.2 ∧ s.2.2 ≤ 40) ∧ ¬ (s.1.1 = s.2.1 ∧ s.1.2 = s.2.2)
/-- tuples stay -/
def KeepT (H H' : Hp) : Prop := ∀ (a : Addr) (xs : List V), H a = some (.tup xs) → H' a = some (.tup xs)
theorem KeepT.of {H H' : Hp} (e : Same H H') : KeepT H H' := fun a xs h => e _ _ h
theorem KeepT.refl {H : Hp} : KeepT H H := fun _ _ h => h
theorem KeepT.trans {H H1 H2 : Hp} (x : KeepT H H1) (y : KeepT H1 H2) : KeepT H H2 := fun a xs h => y a xs (x a xs h)
theorem KeepT.put {H : Hp} {p : Addr} {o : HO} (h : ∀ xs, H p ≠ some (.tup xs)) : KeepT H (upd H p o) := fun a xs e => by
  rw [upd_ne (show a ≠ p from fun z => h xs (by rw [← z]; exact e))]
  exact e
theorem KeepT.lst {H : Hp} {p : Addr} {xs : List V} {o : HO} (h : H p = some (.lst xs)) : KeepT H (upd H p o) := .put fun ys z => by rw [h] at z; cases z
theorem KeepT.new {H : Hp} {p : Addr} {o : HO} (h : H p = none) : KeepT H (upd H p o) := .put fun ys z => by rw [h] at z; cases z
theorem KeepT.but {H H' : Hp} {b l : Addr} (hB : BagAt H b l) (e : But b H H') : KeepT H H' := fun a xs h => e _ _ (bag_tup hB h) h
def StkV (H : Hp) (v : V) (s : S4) : Prop := ∃ p : Addr, v = .ref p ∧ Stk H p s.1.1 s.1.2 s.2.1 s.2.2
theorem StkV.keep {H H' : Hp} {v : V} {s : S4} (h : StkV H v s) (e : KeepT H H') : StkV H' v s := by
  obtain ⟨p, rfl, k⟩ := h
  exact ⟨p, rfl, e _ _ k.1, k.2⟩
theorem StkV.ok {H : Hp} {v : V} {s : S4} (h : StkV H v s) : s.ok := by
  obtain ⟨p, rfl, k⟩ := h
  exact k.2
/-- the square of the one place where two strokes meet -/
def metSq (s t : S4) : Option (Int × Int) := match meetL s.1.1 s.1.2 s.2.1 s.2.2 t.1.1 t.1.2 t.2.1 t.2.2 with
  | .pt a b c d => some (nearI a b, nearI c d)
  | _ => none
def SpV (H : Hp) (v : V) : Option (Int × Int) → Prop
  | none => v = .non
  | some p => PrV H v p
def spMetSq : Sp := fun vs H Q _ => ∃ (u v : V) (s t : S4), vs = [u, v] ∧ StkV H u s ∧ StkV H v t ∧ ∀ (r : V) (H' : Hp), Same H H' → SpV H' r (metSq s t) → Q r H'
/-- a list whose items are told by what they stand for -/
def LstOf {α : Type} (R : Hp → V → α → Prop) (H : Hp) (l : Addr) (cs : List α) : Prop := ∃ bs : List (V × α), H l = some (.lst (bs.map (·.1))) ∧ (∀ b ∈ bs, R H b.1 b.2) ∧ bs.map (·.2) = cs
theorem LstOf.keep {α : Type} {R : Hp → V → α → Prop} (hR : ∀ (H H' : Hp) (v : V) (c : α), R H v c → KeepT H H' → R H' v c) {H H' : Hp} {l : Addr} {cs : List α} (h : LstOf R H l cs) (e : KeepT H H') (hl : ∀ xs, H l = some (.lst xs) → H' l = some (.lst xs)) : LstOf R H' l cs := by
  obtain ⟨bs, h1, h2, h3⟩ := h
  exact ⟨bs, hl _ h1, fun b hb => hR _ _ _ _ (h2 b hb) e, h3⟩
theorem LstOf.len {α : Type} {R : Hp → V → α → Prop} {H : Hp} {l : Addr} {cs : List α} (h : LstOf R H l cs) : ∃ xs, H l = some (.lst xs) ∧ xs.length = cs.length := by
  obtain ⟨bs, h1, _, h3⟩ := h
  exact ⟨_, h1, by rw [← h3, List.length_map, List.length_map]⟩
def thV : Int ⊕ Str → V
  | .inl i => .int i
  | .inr z => .str z
def CzT (H : Hp) (v : V) (c : Cause) : Prop := ∃ a : Addr, v = .ref a ∧ H a = some (.tup [.str c.wd, .str c.nm, thV c.th])
def CzV (H : Hp) (v : V) (c : Cause) : Prop := ∃ (a p : Addr) (t : V), v = .ref a ∧ H a = some (.tup [.ref p, t]) ∧ H p = some (.tup [.int c.x, .int c.y]) ∧ CzT H t c
theorem CzT.keep {H H' : Hp} {v : V} {c : Cause} (h : CzT H v c) (e : KeepT H H') : CzT H' v c := by
  obtain ⟨a, rfl, k⟩ := h
  exact ⟨a, rfl, e _ _ k⟩
theorem CzT.keep' : ∀ (H H' : Hp) (v : V) (c : Cause), CzT H v c → KeepT H H' → CzT H' v c := fun _ _ _ _ h e => h.keep e
theorem CzV.keep' : ∀ (H H' : Hp) (v : V) (c : Cause), CzV H v c → KeepT H H' → CzV H' v c := by
  rintro H H' v c ⟨a, p, t, rfl, k1, k2, k3⟩ e
  exact ⟨a, p, t, rfl, e _ _ k1, e _ _ k2, k3.keep e⟩
theorem CzV.keep {H H' : Hp} {v : V} {c : Cause} (h : CzV H v c) (e : KeepT H H') : CzV H' v c := by
  obtain ⟨a, p, t, rfl, k1, k2, k3⟩ := h
  exact ⟨a, p, t, rfl, e _ _ k1, e _ _ k2, k3.keep e⟩
/-- a text of which a cause may be made -/
def NmOk (n : Str) : Prop := PyData.canLay0 (.str n) = true
/-- a heap: names, each with its stroke -/
def KvOk (H : Hp) (kv : Key × V) (p : Str × S4) : Prop := kv.1 = .inr p.1 ∧ StkV H kv.2 p.2
structure HeapAt (H : Hp) (d : Addr) (L : List (Str × S4)) : Prop where
  at' : ∃ bs : List ((Key × V) × (Str × S4)), H d = some (.dK (bs.map (·.1))) ∧ (∀ b ∈ bs, KvOk H b.1 b.2) ∧ bs.map (·.2) = L
  nd : (L.map (·.1)).Nodup
  few : L.length ≤ 32
  nm : ∀ p ∈ L, NmOk p.1
theorem HeapAt.keep {H H' : Hp} {d : Addr} {L : List (Str × S4)} (h : HeapAt H d L) (e : KeepT H H') (hd : ∀ kvs, H d = some (.dK kvs) → H' d = some (.dK kvs)) : HeapAt H' d L := by
  obtain ⟨bs, h1, h2, h3⟩ := h.at'
  exact ⟨⟨bs, hd _ h1, fun b hb => ⟨(h2 b hb).1, (h2 b hb).2.keep e⟩, h3⟩, h.nd, h.few, h.nm⟩
theorem HeapAt.same {H H' : Hp} {d : Addr} {L : List (Str × S4)} (h : HeapAt H d L) (e : Same H H') : HeapAt H' d L := h.keep (.of e) fun _ z => e _ _ z
theorem HeapAt.ok {H : Hp} {d : Addr} {L : List (Str × S4)} (h : HeapAt H d L) : ∀ p ∈ L, p.2.ok := fun p hp => by
  obtain ⟨bs, h1, h2, h3⟩ := h.at'
  rw [← h3] at hp
  obtain ⟨b, hb, rfl⟩ := List.mem_map.mp hp
  exact (h2 b hb).2.ok
def endsCz (p : Str × S4) : List Cause := [⟨p.2.1.1, p.2.1.2, "end", p.1, .inl 0⟩, ⟨p.2.2.1, p.2.2.2, "end", p.1, .inl 1⟩]
def endCz (L : List (Str × S4)) : List Cause := L.flatMap endsCz
def crossOf (a b : Str × S4) : Option Cause := (metSq a.2 b.2).map fun p => ⟨p.1, p.2, "cross", a.1, .inr b.1⟩
def crossCz : List (Str × S4) → List Cause
  | [] => []
  | a :: r => r.filterMap (crossOf a) ++ crossCz r
def spEndCz : Sp := fun vs H Q _ => ∃ (d : Addr) (L : List (Str × S4)), vs = [.ref d] ∧ HeapAt H d L ∧ ∀ (l : Addr) (H' : Hp), Same H H' → H l = none → LstOf CzV H' l (endCz L) → Q (.ref l) H'
section
variable {P : Program} {w : World} {K : PySem.W.Frag} {mg : Str → Option Value} {base : Heap} {f : Addr} {fd : FuncData}
abbrev s_met_square : Stmt := top 24
theorem sc_met_square : FnScope ["one", "other", "met"] ["one", "other"] (defScope s_met_square) := ⟨rfl, rfl, rfl, by decide +kernel, rfl, by decide +kernel, by decide +kernel⟩
theorem ok_met_square (c_p_meet : Cal P w K mg base 4 "meet" ["one", "other"] spMeet) (c_square_of : Cal P w K mg base 2 "square_of" ["place"] spSquare) (F : Fun K "met_square" "met_square" s_met_square f fd) : FnOk P w K mg base CX0 5 f fd ["one", "other"] spMetSq := by
  refine F.ok sc_met_square (fun vs H Q E h => ?_) (fun cdv A outer s H vs Q E hr h => ?_)
  · obtain ⟨u, v, s, t, rfl, _⟩ := h
    rfl
  obtain ⟨_, _, s, t, rfl, ⟨pa, rfl, hs⟩, ⟨pb, rfl, ht⟩, q⟩ := h
  refine ⟨_, (pss_cons (ps_set (i := 2) sc_met_square.nd rfl (Or.inl rfl) (pe_cal c_p_meet hr (pa_cons (pv 0) (pa_cons (pv 1) pa_nil))))
    (pss_cons (ps_if (PW.pt (pw_or (pt_cmpR op_isN (pv 2) pe_non (nomark _)) (pw_or1 (pt_cmpR op_eq (pe_ix ix_tup (pv 2) pe_int (fun _ _ => rfl)) pe_str (nomark _)))))
    (pss_one (ps_ret pe_non))
    pss_nil)
    (pss_one (ps_ret (pe_cal c_square_of hr (pa_cons (pe_ix ix_tup (pv 2) pe_int (fun _ _ => rfl)) pa_nil)))))), ?_⟩
  refine ⟨_, rfl, _, rfl, pa, pb, s.1.1, s.1.2, s.2.1, s.2.2, t.1.1, t.1.2, t.2.1, t.2.2, rfl, hs, ht, fun r H1 s1 hm => ?_⟩
  have mp := @met_part s.1.1 s.1.2 s.2.1 s.2.2 t.1.1 t.1.2 t.2.1 t.2.2 hs.2.1 ht.2.1
  unfold metSq at q
  generalize meetL s.1.1 s.1.2 s.2.1 s.2.2 t.1.1 t.1.2 t.2.1 t.2.2 = mt at *
  cases mt with
  | no =>
    obtain rfl : r = .non := hm
    refine ⟨_, rfl, rfl, _, rfl, iteDT rfl (iteT ?_)⟩
    exact q _ _ s1 rfl
  | along a1 b1 a2 b2 =>
    obtain ⟨p, p1, p2, rfl, hp, h1, h2⟩ := hm
    refine ⟨_, rfl, rfl, _, rfl, iteDF (by intro z; cases z) ?_⟩
    refine ⟨_, rfl, p, _, _, _, rfl, rfl, SqT.of hp, rfl, rfl, _, rfl, iteDT rfl ?_⟩
    exact q _ _ s1 rfl
  | pt ea eb ec ed =>
    obtain ⟨p, o, px, py, rfl, hp, ho, hx, hy⟩ := hm
    have pp := mp rfl
    refine ⟨_, rfl, rfl, _, rfl, iteDF (by intro z; cases z) ?_⟩
    refine ⟨_, rfl, p, _, _, _, rfl, rfl, SqT.of hp, rfl, rfl, _, rfl, iteDF (by intro z; exact absurd (V.str.inj z) (by decide)) ?_⟩
    refine ⟨_, rfl, p, _, _, _, rfl, rfl, SqT.of hp, rfl, o, px, py, ea, eb, ec, ed, rfl, ho, hx, hy, pp.1, pp.2, fun rs J5 t5 hrs => ?_⟩
    exact q _ _ (s1.trans t5) ⟨rs, rfl, hrs⟩
abbrev s_end_causes : Stmt := top 26
theorem sc_end_causes : FnScope ["heap", "found", "name", "stroke", "which", "spot"] ["heap"] (defScope s_end_causes) := ⟨rfl, rfl, rfl, by decide +kernel, rfl, by decide +kernel, by decide +kernel⟩
theorem ok_end_causes (B : Blt mg) (c_ends_of : Cal P w K mg base 1 "ends_of" ["stroke"] spEnds) (F : Fun K "end_causes" "end_causes" s_end_causes f fd) : FnOk P w K mg base CX0 2 f fd ["heap"] spEndCz := by
  refine F.ok sc_end_causes (fun vs H Q E h => ?_) (fun cdv A outer s H vs Q E hr h => ?_)
  · obtain ⟨d, L, rfl, _⟩ := h
    rfl
  obtain ⟨d, L, rfl, hH, q⟩ := h
  refine ⟨_, (pss_cons (ps_set (i := 1) sc_end_causes.nd rfl (Or.inl rfl) (pe_lst pa_nil))
    (pss_cons (ps_lock (ps_for PassesOwn.never rfl (pi_items (pv 0)) (pg_tup rfl (pgs_cons (pg_name (i := 2) sc_end_causes.nd rfl (Or.inl rfl)) (pgs_cons (pg_name (i := 3) sc_end_causes.nd rfl (Or.inl rfl)) pgs_nil)))
    (pss_one (ps_for PassesOwn.never rfl (pi_enumT rfl B.enumerate (pa_cons (pe_cal c_ends_of hr (pa_cons (pv 3) pa_nil)) pa_nil)) (pg_tup rfl (pgs_cons (pg_name (i := 4) sc_end_causes.nd rfl (Or.inl rfl)) (pgs_cons (pg_name (i := 5) sc_end_causes.nd rfl (Or.inl rfl)) pgs_nil)))
    (pss_one (ps_expr (pe_bm PySem.F.plainAttrs_list PySem.F.slot_list_append PySem.F.type_list_append mt_append (pv 1) (pa_cons (pe_tup (pa_cons (pv 5) (pa_cons (pe_tup (pa_cons pe_str (pa_cons (pv 2) (pa_cons (pv 4) pa_nil)))) pa_nil))) pa_nil))))))))
    (pss_one (ps_ret (pv 1))))), ?_⟩
  refine ⟨sz (by decide : 0 ≤ 100000), fun l nl => ?_⟩
  obtain ⟨bs, hd, hb, hL⟩ := hH.at'
  have dl : d ≠ l := ne_of_none hd nl
  have few := hH.few
  have lb : bs.length = L.length := by rw [← hL, List.length_map]
  refine ⟨d, .dK (bs.map (·.1)), (by rw [upd_ne dl]; exact hd), trivial, fun od => ?_⟩
  refine ⟨_, rfl, d, od, bs.map (·.1), rfl, upd_same, ?_⟩
  refine for_it walk_items (fun i σ H' => (∃ c2 c3 c4 c5, σ = [some (.ref d), some (.ref l), c2, c3, c4, c5]) ∧ H' d = some (.frz od (.dK (bs.map (·.1)))) ∧ (∀ a o, a ≠ d → H a = some o → H' a = some o) ∧ LstOf CzV H' l (endCz (L.take i))) ?_ ?_ ?_ ?_
  · refine ⟨⟨_, _, _, _, rfl⟩, upd_same, fun a o na e => ?_, [], ?_, (fun b hb => by cases hb), rfl⟩
    · rw [upd_ne na, upd_ne (ne_of_none e nl)]
      exact e
    · rw [upd_ne (Ne.symm dl), upd_same]
      rfl
  · rintro i σ H' _ ⟨_, h, _⟩
    exact h
  · rintro i x σ H1 H2 hi ⟨⟨c2, c3, c4, c5, rfl⟩, h1, k1, cz⟩ ⟨T, kx, vx, rfl, nT, rfl, ek, ev⟩
    rw [List.length_map] at hi
    have hbi : bs[i]? = some bs[i] := List.getElem?_eq_getElem hi
    have eL : L[i]? = some (bs[i]).2 := by rw [← hL, List.getElem?_map, hbi]; rfl
    have hki := hb _ (List.getElem_mem hi)
    dsimp only at ek ev
    rw [List.getElem?_map, hbi] at ek ev
    have ek' : kV (bs[i]).1.1 = kx := Option.some.inj ek
    have ev' : (bs[i]).1.2 = vx := Option.some.inj ev
    generalize (bs[i]).1 = kv at *
    generalize (bs[i]).2 = nS at *
    obtain ⟨nm, S⟩ := nS
    obtain ⟨key, val⟩ := kv
    obtain ⟨rfl, p, rfl, hp⟩ := hki
    subst ek'
    subst ev'
    refine ⟨T, _, rfl, SqT.of upd_same, rfl, _, _, rfl, _, _, rfl, rfl, ?_⟩
    dsimp only [gName, tNext, List.set]
    have hp1 : upd H1 T (.tup [V.str nm, .ref p]) p = some (.tup [.int S.1.1, .int S.1.2, .int S.2.1, .int S.2.2]) := by
      have pd : p ≠ d := ne_of hp.1 hd (by intro z; cases z)
      have := k1 _ _ pd hp.1
      rw [upd_ne (ne_of_none this nT)]
      exact this
    have g1 := same_new nT (.tup [V.str nm, .ref p])
    refine ⟨_, rfl, p, S.1.1, S.1.2, S.2.1, S.2.2, rfl, hp1, fun r e0 e1 H3 s3 hr0 he0 he1 => ?_⟩
    have g3 := g1.trans s3
    refine ⟨r, _, rfl, SqT.of hr0, ?_⟩
    refine for_it (walk_enumT (xs := [.ref e0, .ref e1])) (fun j σ H' => (∃ c4 c5, σ = [some (.ref d), some (.ref l), some (.str nm), some (.ref p), c4, c5]) ∧ H' d = some (.frz od (.dK (bs.map (·.1)))) ∧ (∀ a o, a ≠ d → H a = some o → H' a = some o) ∧ KeepT H3 H' ∧ LstOf CzV H' l (endCz (L.take i) ++ (endsCz (nm, S)).take j)) ?_ ?_ ?_ ?_
    · refine ⟨⟨_, _, rfl⟩, g3 _ _ h1, fun a o na e => g3 _ _ (k1 a o na e), .refl, ?_⟩
      rw [List.take_zero, List.append_nil]
      exact LstOf.keep CzV.keep' cz (.of g3) fun xs z => g3 _ _ z
    · rintro j σ H' _ ⟨_, _, _, kt, _⟩
      exact SqT.of (kt _ _ hr0)
    · rintro j x σ H4 H5 hj ⟨⟨c4, c5, rfl⟩, h4, k4, kt, bs4, hl4, hb4, e4⟩ ⟨T2, kx, vx, rfl, nT2, rfl, ek, ev⟩
      obtain rfl : V.int (j : Nat) = kx := Option.some.inj ek
      refine ⟨T2, _, rfl, SqT.of upd_same, rfl, _, _, rfl, _, _, rfl, rfl, ?_⟩
      dsimp only [gName, tNext, List.set]
      have g5 := same_new nT2 (.tup [V.int (j : Nat), vx])
      refine ⟨_, rfl, .inl ⟨rfl, _, SqL.of (g5 _ _ hl4)⟩, _, rfl, _, rfl, _, rfl, sz (by decide : 3 ≤ 100000), fun cz nc => ⟨sz (by decide : 2 ≤ 100000), fun pr np => ?_⟩⟩
      have g6 := same_new nc (.tup [.str "end", .str nm, .int (j : Nat)])
      have g7 := same_new np (.tup [vx, .ref cz])
      have gA := g5.trans (g6.trans g7)
      have lt : bs4.length < 100000 := by
        have : bs4.length = (endCz (L.take i) ++ (endsCz (nm, S)).take j).length := by rw [← e4, List.length_map]
        have l1 : (endCz (L.take i)).length ≤ 2 * L.length := by
          unfold endCz
          have : ∀ M : List (Str × S4), (M.flatMap endsCz).length = 2 * M.length := fun M => by
            induction M with
            | nil => rfl
            | cons a M ih => rw [List.flatMap_cons, List.length_append, ih, List.length_cons]; show 2 + _ = _; omega
          rw [this, List.length_take]
          omega
        rw [List.length_append, List.length_take] at this
        have l2 : (endsCz (nm, S)).length = 2 := rfl
        omega
      refine ⟨l, _, _, rfl, rfl, gA _ _ hl4, ?_, ?_⟩
      · rw [List.length_map]
        exact Nat.lt_of_lt_of_le lt (sz (Nat.le_refl _))
      have kl := KeepT.lst (o := .lst (bs4.map (·.1) ++ [.ref pr])) (gA _ _ hl4)
      refine ⟨⟨_, _, rfl⟩, ?_, fun a o na e => ?_, (kt.trans (.of gA)).trans kl, bs4 ++ [(.ref pr, ⟨if j = 0 then S.1.1 else S.2.1, if j = 0 then S.1.2 else S.2.2, "end", nm, .inl j⟩)], ?_, fun b hbm => ?_, ?_⟩
      · rw [upd_ne dl]
        exact gA _ _ h4
      · rw [upd_ne (ne_of_none e nl)]
        exact gA _ _ (k4 a o na e)
      · rw [upd_same, List.map_append]
        rfl
      · rcases List.mem_append.mp hbm with z | z
        · exact ((hb4 b z).keep (.of gA)).keep kl
        · cases List.mem_singleton.mp z
          match j, hj with
          | 0, _ =>
            obtain rfl : V.ref e0 = vx := Option.some.inj ev
            exact ⟨pr, e0, .ref cz, rfl, kl _ _ upd_same, kl _ _ (gA _ _ (kt _ _ he0)), cz, rfl, kl _ _ (g7 _ _ upd_same)⟩
          | 1, _ =>
            obtain rfl : V.ref e1 = vx := Option.some.inj ev
            exact ⟨pr, e1, .ref cz, rfl, kl _ _ upd_same, kl _ _ (gA _ _ (kt _ _ he1)), cz, rfl, kl _ _ (g7 _ _ upd_same)⟩
      · rw [List.map_append, e4]
        match j, hj with
        | 0, _ => rw [List.take_zero, List.append_nil]; rfl
        | 1, _ => rw [List.append_assoc]; rfl
    · rintro σ H4 ⟨⟨c4, c5, rfl⟩, h4, k4, kt, cz4⟩
      refine ⟨⟨_, _, _, _, rfl⟩, h4, k4, ?_⟩
      rw [take_snoc eL]
      unfold endCz at cz4 ⊢
      rw [List.flatMap_append, List.flatMap_singleton]
      exact cz4
  · rintro σ H1 ⟨⟨c2, c3, c4, c5, rfl⟩, h1, k1, cz⟩
    refine ⟨h1, ?_⟩
    rw [List.length_map, lb, List.take_length] at cz
    have kt : KeepT H1 (upd H1 d (.dK (bs.map (·.1)))) := .put fun xs z => by rw [h1] at z; cases z
    refine ⟨_, rfl, q l _ (fun a o e => ?_) nl (LstOf.keep CzV.keep' cz kt fun xs z => by rw [upd_ne (Ne.symm dl)]; exact z)⟩
    by_cases ad : a = d
    · subst ad
      rw [hd] at e
      cases e
      exact upd_same
    · rw [upd_ne ad]
      exact k1 a o ad e
end
end DM

namespace DM
open PySem L2
theorem cut_at (xs : List V) (k : Nat) : cutV xs (some (k : Int)) none = xs.drop k := by
  unfold cutV
  rw [HT.sIx_nat, HT.sIx_none]
  rcases Nat.le_total k xs.length with h | h
  · rw [Nat.min_eq_left h, List.take_of_length_le]
    rw [List.length_drop]
    omega
  · rw [Nat.min_eq_right h, List.drop_of_length_le h, List.drop_of_length_le (Nat.le_refl _)]
    exact List.take_nil
theorem cut_to (xs : List V) (k : Nat) : cutV xs none (some (k : Int)) = xs.take k := by
  unfold cutV
  rw [HT.sIx_nat, HT.sIx_none, Nat.sub_zero, List.drop_zero]
  rcases Nat.le_total k xs.length with h | h
  · rw [Nat.min_eq_left h]
  · rw [Nat.min_eq_right h, List.take_of_length_le (Nat.le_refl _), List.take_of_length_le h]
theorem valV_in {κ : Type} [DecidableEq κ] : ∀ {kvs : List (κ × V)} {k : κ} {v : V}, (kvs.map (·.1)).Nodup → (k, v) ∈ kvs → valV kvs k = some v
  | p :: r, k, v, nd, h => by
    rw [List.map_cons, List.nodup_cons] at nd
    rcases List.mem_cons.mp h with e | e
    · subst e
      exact valV_pos rfl
    · rw [valV_neg (fun z => nd.1 (by rw [z]; exact List.mem_map.mpr ⟨_, e, rfl⟩))]
      exact valV_in nd.2 e
/-- what stands under a name -/
theorem HeapAt.get {H : Hp} {d : Addr} {L : List (Str × S4)} (h : HeapAt H d L) {p : Str × S4} (hp : p ∈ L) : ∃ v, DGet H d (.str p.1) (some v) ∧ StkV H v p.2 := by
  obtain ⟨bs, h1, h2, h3⟩ := h.at'
  have nd : ((bs.map (·.1)).map (·.1)).Nodup := by
    have e : (bs.map (·.1)).map (·.1) = (L.map (·.1)).map (fun n => (Sum.inr n : Key)) := by
      rw [← h3, List.map_map, List.map_map, List.map_map]
      exact List.map_congr_left fun b hb => (h2 b hb).1
    rw [e]
    exact List.pairwise_map.mpr (h.nd.imp fun {a b} z e => z (Sum.inr.inj e))
  rw [← h3] at hp
  obtain ⟨b, hb, rfl⟩ := List.mem_map.mp hp
  have hk := h2 b hb
  refine ⟨b.1.2, .inl ⟨_, .inr b.2.1, .inl h1, rfl, ?_⟩, hk.2⟩
  refine (valV_in nd ?_).symm
  rw [← hk.1]
  exact List.mem_map.mpr ⟨b, hb, rfl⟩
theorem cross_len : ∀ M : List (Str × S4), (crossCz M).length ≤ M.length * M.length
  | [] => Nat.le_refl _
  | a :: r => by
    have ih := cross_len r
    have h := List.length_filterMap_le (crossOf a) r
    unfold crossCz
    rw [List.length_append, List.length_cons]
    have e : (r.length + 1) * (r.length + 1) = r.length * r.length + r.length + r.length + 1 := by
      rw [Nat.add_mul, Nat.mul_add]; omega
    omega
theorem end_len : ∀ M : List (Str × S4), (endCz M).length = 2 * M.length
  | [] => rfl
  | a :: M => by
    show ((a :: M).flatMap endsCz).length = _
    rw [List.flatMap_cons, List.length_append, List.length_cons]
    have := end_len M
    unfold endCz at this
    show 2 + _ = _
    omega
def spCrossCz : Sp := fun vs H Q _ => ∃ (d : Addr) (L : List (Str × S4)), vs = [.ref d] ∧ HeapAt H d L ∧ ∀ (l : Addr) (H' : Hp) (M : List (Str × S4)), Same H H' → H l = none → M.Perm L → PyProof.Rows.sortedS (M.map (·.1)) = true → LstOf CzV H' l (crossCz M) → Q (.ref l) H'
section
variable {P : Program} {w : World} {K : PySem.W.Frag} {mg : Str → Option Value} {base : Heap} {f : Addr} {fd : FuncData}
abbrev s_cross_causes : Stmt := top 27
theorem sc_cross_causes : FnScope ["heap", "found", "names", "at", "name", "other", "spot"] ["heap"] (defScope s_cross_causes) := ⟨rfl, rfl, rfl, by decide +kernel, rfl, by decide +kernel, by decide +kernel⟩
theorem ok_cross_causes (B : Blt mg) (c_met_square : Cal P w K mg base 5 "met_square" ["one", "other"] spMetSq) (F : Fun K "cross_causes" "cross_causes" s_cross_causes f fd) : FnOk P w K mg base CX0 6 f fd ["heap"] spCrossCz := by
  refine F.ok sc_cross_causes (fun vs H Q E h => ?_) (fun cdv A outer s H vs Q E hr h => ?_)
  · obtain ⟨d, L, rfl, _⟩ := h
    rfl
  obtain ⟨d, L, rfl, hH, q⟩ := h
  refine ⟨_, (pss_cons (ps_set (i := 1) sc_cross_causes.nd rfl (Or.inl rfl) (pe_lst pa_nil))
    (pss_cons (ps_set (i := 2) sc_cross_causes.nd rfl (Or.inl rfl) (pe_callB (call_sortedD rfl) rfl B.sorted bt_sorted (pa_cons (pv 0) pa_nil)))
    (pss_cons (ps_for PassesOwn.never rfl (pi_enum rfl B.enumerate (pa_cons (pv 2) pa_nil)) (pg_tup rfl (pgs_cons (pg_name (i := 3) sc_cross_causes.nd rfl (Or.inl rfl)) (pgs_cons (pg_name (i := 4) sc_cross_causes.nd rfl (Or.inl rfl)) pgs_nil)))
    (pss_one (ps_for PassesOwn.never rfl (pi_list (pe_slice sl_list (pv 2) (po_some (pe_op op_add (pv 3) pe_int)) po_none)) (pg_name (i := 5) sc_cross_causes.nd rfl (Or.inl rfl))
    (pss_cons (ps_set (i := 6) sc_cross_causes.nd rfl (Or.inl rfl) (pe_cal c_met_square hr (pa_cons (pe_dget (hu_of hr) (pv 0) (pv 4) (fun _ _ => rfl)) (pa_cons (pe_dget (hu_of hr) (pv 0) (pv 5) (fun _ _ => rfl)) pa_nil))))
    (pss_one (ps_if (pt_cmpR op_notN (pv 6) pe_non (nomark _))
    (pss_one (ps_expr (pe_bm PySem.F.plainAttrs_list PySem.F.slot_list_append PySem.F.type_list_append mt_append (pv 1) (pa_cons (pe_tup (pa_cons (pv 6) (pa_cons (pe_tup (pa_cons pe_str (pa_cons (pv 4) (pa_cons (pv 5) pa_nil)))) pa_nil))) pa_nil))))
    pss_nil))))))
    (pss_one (ps_ret (pv 1)))))), ?_⟩
  refine ⟨sz (by decide : 0 ≤ 100000), fun l nl => ?_⟩
  obtain ⟨bs, hd, hb, hL⟩ := id hH.at'
  have few := hH.few
  have g0 := same_new nl (.lst [])
  have keys : (bs.map (·.1)).map (·.1) = (L.map (·.1)).map (fun n => (Sum.inr n : Key)) := by
    rw [← hL, List.map_map, List.map_map, List.map_map]
    exact List.map_congr_left fun b hb' => (hb b hb').1
  refine ⟨_, rfl, d, _, L.map (·.1), rfl, .inl (g0 _ _ hd), keys, (by rw [List.length_map]; omega), fun ys pn pm so npn => ?_⟩
  obtain ⟨M, pM, rfl⟩ := perm_map_from pm L rfl
  have lM : M.length = L.length := pM.length_eq
  have inM : ∀ p ∈ M, p ∈ L := fun p hp => pM.mem_iff.mp hp
  have ln : l ≠ pn := fun z => by rw [← z, upd_same] at npn; cases npn
  have g1 := g0.trans (same_new npn (.lst ((M.map (·.1)).map V.str)))
  refine ⟨_, rfl, pn, _, rfl, SqL.of upd_same, ?_⟩
  have start : upd (upd H l (.lst [])) pn (.lst ((M.map (·.1)).map V.str)) l = some (.lst []) := by rw [upd_ne ln, upd_same]
  generalize hH1 : upd (upd H l (.lst [])) pn (.lst ((M.map (·.1)).map V.str)) = H1 at *
  have hpn : H1 pn = some (.lst ((M.map (·.1)).map V.str)) := by rw [← hH1, upd_same]
  have heap1 := hH.same g1
  have kpt : ∀ {H' : Hp}, But l H1 H' → KeepT H1 H' := fun {H'} e a xs h => e _ _ (ne_of h start (by intro z; cases z)) h
  have lens : ((M.map (·.1)).map V.str).length = M.length := by rw [List.length_map, List.length_map]
  refine for_it (walk_enum (xs := (M.map (·.1)).map V.str)) (fun i σ H' => (∃ c3 c4 c5 c6, σ = [some (.ref d), some (.ref l), some (.ref pn), c3, c4, c5, c6]) ∧ But l H1 H' ∧ ∃ done, LstOf CzV H' l done ∧ done ++ crossCz (M.drop i) = crossCz M) ?_ ?_ ?_ ?_
  · exact ⟨⟨_, _, _, _, rfl⟩, But.refl, [], ⟨[], start, (fun b hb => by cases hb), rfl⟩, rfl⟩
  · rintro i σ H' _ ⟨_, bt, _⟩
    exact SqL.of (bt _ _ (Ne.symm ln) hpn)
  · rintro i x σ H2 H3 hi ⟨⟨c3, c4, c5, c6, rfl⟩, bt, done, cz, ed⟩ ⟨T, kx, vx, rfl, nT, rfl, ek, ev⟩
    rw [lens] at hi
    have hMi : M[i]? = some M[i] := List.getElem?_eq_getElem hi
    have ev' : V.str (M[i]).1 = vx := by
      have ev2 : ((M.map (·.1)).map V.str)[i]? = some vx := ev
      rw [List.getElem?_map, List.getElem?_map, hMi] at ev2
      exact Option.some.inj ev2
    have ed' : M.drop i = M[i] :: M.drop (i + 1) := List.drop_eq_getElem_cons hi
    have inA := inM _ (List.getElem_mem hi)
    generalize M[i] = a at *
    subst ev'
    obtain rfl : V.int (i : Nat) = kx := Option.some.inj ek
    refine ⟨T, _, rfl, SqT.of upd_same, rfl, _, _, rfl, _, _, rfl, rfl, ?_⟩
    dsimp only [gName, tNext, List.set]
    have gT := same_new nT (.tup [V.int (i : Nat), .str a.1])
    refine ⟨_, rfl, _, rfl, _, _, rfl, rfl, _, rfl, pn, _, rfl, SqL.of (gT _ _ (bt _ _ (Ne.symm ln) hpn)), fun p2 n2 => ?_⟩
    have g2 := gT.trans (same_new n2 (.lst (cutV ((M.map (·.1)).map V.str) (some ((i : Int) + 1)) none)))
    have cut : cutV ((M.map (·.1)).map V.str) (some ((i : Int) + 1)) none = ((M.drop (i + 1)).map (·.1)).map V.str := by
      have e : ((i : Int) + 1) = ((i + 1 : Nat) : Int) := by omega
      rw [e, cut_at, List.map_drop, List.map_drop]
    have hp2 : upd (upd H2 T (.tup [V.int (i : Nat), .str a.1])) p2 (.lst (cutV ((M.map (·.1)).map V.str) (some ((i : Int) + 1)) none)) p2 = some (.lst (((M.drop (i + 1)).map (·.1)).map V.str)) := by rw [upd_same, cut]
    generalize upd (upd H2 T (.tup [V.int (i : Nat), .str a.1])) p2 (.lst (cutV ((M.map (·.1)).map V.str) (some ((i : Int) + 1)) none)) = H4 at *
    obtain ⟨xs0, hl2⟩ : ∃ xs, H2 l = some (.lst xs) := let ⟨bs, h, _⟩ := cz; ⟨_, h⟩
    have lp2 : l ≠ p2 := fun z => by
      rw [z] at hl2
      have := gT _ _ hl2
      rw [n2] at this
      cases this
    have cz4 : LstOf CzV H4 l done := cz.keep CzV.keep' (.of g2) fun xs z => g2 _ _ z
    have bt4 : But l H1 H4 := bt.trans (.of g2)
    refine ⟨p2, rfl, ⟨_, SqL.of hp2⟩, ?_⟩
    refine for_list (K := K) (a := p2) (xs := ((M.drop (i + 1)).map (·.1)).map V.str) (fun j σ H' => (∃ c5 c6, σ = [some (.ref d), some (.ref l), some (.ref pn), some (.int (i : Nat)), some (.str a.1), c5, c6]) ∧ But l H4 H' ∧ LstOf CzV H' l (done ++ ((M.drop (i + 1)).take j).filterMap (crossOf a))) ?_ ?_ ?_ ?_
    · refine ⟨⟨_, _, rfl⟩, But.refl, ?_⟩
      rw [List.take_zero, List.filterMap_nil, List.append_nil]
      exact cz4
    · rintro j σ H' _ ⟨_, e, _⟩
      exact SqL.of (e _ _ (Ne.symm lp2) hp2)
    · rintro j x σ H5 hx ⟨⟨c5, c6, rfl⟩, bt5, cz5⟩
      obtain ⟨b, hb2, rfl⟩ : ∃ b, (M.drop (i + 1))[j]? = some b ∧ x = V.str b.1 := by
        rw [List.getElem?_map, List.getElem?_map] at hx
        cases e : (M.drop (i + 1))[j]? with
        | none => rw [e] at hx; cases hx
        | some b => rw [e] at hx; exact ⟨b, rfl, (Option.some.inj hx).symm⟩
      have inB : b ∈ L := inM _ (List.mem_of_mem_drop (List.mem_of_getElem? hb2))
      have bt15 := bt4.trans bt5
      have heap5 : HeapAt H5 d L := heap1.keep (kpt bt15) fun kvs z => bt15 _ _ (ne_of z start (by intro z; cases z)) z
      obtain ⟨va, ga, sa⟩ := heap5.get inA
      obtain ⟨vb, gb, sb⟩ := heap5.get inB
      dsimp only [gName, tNext, List.set]
      refine ⟨_, rfl, _, rfl, d, va, rfl, ga, _, rfl, _, rfl, d, vb, rfl, gb, va, vb, a.2, b.2, rfl, sa, sb, fun r H6 s6 hr6 => ?_⟩
      have bt6 : But l H4 H6 := bt5.trans (.of s6)
      have cz6 := cz5.keep CzV.keep' (.of s6) fun xs z => s6 _ _ z
      have tk := take_snoc hb2
      refine ⟨_, rfl, rfl, _, rfl, ?_⟩
      cases em : metSq a.2 b.2 with
      | none =>
        rw [em] at hr6
        obtain rfl : r = .non := hr6
        refine iteF ?_
        refine ⟨⟨_, _, rfl⟩, bt6, ?_⟩
        rw [tk, List.filterMap_append]
        have : ([b] : List (Str × S4)).filterMap (crossOf a) = [] := by
          unfold crossOf
          rw [List.filterMap_cons, em]
          rfl
        rw [this, List.append_nil]
        exact cz6
      | some sq =>
        rw [em] at hr6
        obtain ⟨rp, rfl, hrp⟩ := hr6
        refine iteT ?_
        obtain ⟨bs6, hl6, hb6, e6⟩ := cz6
        refine ⟨_, rfl, .inl ⟨rfl, _, SqL.of hl6⟩, _, rfl, _, rfl, _, rfl, sz (by decide : 3 ≤ 100000), fun cs nc => ⟨sz (by decide : 2 ≤ 100000), fun pr np => ?_⟩⟩
        have g7 := same_new nc (.tup [.str "cross", .str a.1, .str b.1])
        have g8 := same_new np (.tup [.ref rp, .ref cs])
        have gA := g7.trans g8
        have lt : bs6.length < 100000 := by
          have e1 : bs6.length = (done ++ ((M.drop (i + 1)).take j).filterMap (crossOf a)).length := by rw [← e6, List.length_map]
          have e2 := cross_len M
          rw [← ed, List.length_append] at e2
          have e3 := List.length_filterMap_le (crossOf a) ((M.drop (i + 1)).take j)
          rw [List.length_take, List.length_drop] at e3
          rw [List.length_append] at e1
          have e4 : M.length * M.length ≤ 32 * 32 := Nat.mul_le_mul (by omega) (by omega)
          omega
        refine ⟨l, _, _, rfl, rfl, gA _ _ hl6, ?_, ?_⟩
        · rw [List.length_map]
          exact Nat.lt_of_lt_of_le lt (sz (Nat.le_refl _))
        have kl := KeepT.lst (o := .lst (bs6.map (·.1) ++ [.ref pr])) (gA _ _ hl6)
        refine ⟨⟨_, _, rfl⟩, (bt6.trans (.of gA)).trans But.upd, bs6 ++ [(.ref pr, ⟨sq.1, sq.2, "cross", a.1, .inr b.1⟩)], ?_, fun b' hbm => ?_, ?_⟩
        · rw [upd_same, List.map_append]
          rfl
        · rcases List.mem_append.mp hbm with z | z
          · exact ((hb6 b' z).keep (.of gA)).keep kl
          · cases List.mem_singleton.mp z
            exact ⟨pr, rp, .ref cs, rfl, kl _ _ upd_same, kl _ _ (gA _ _ hrp), cs, rfl, kl _ _ (g8 _ _ upd_same)⟩
        · rw [List.map_append, e6, tk, List.filterMap_append, List.append_assoc]
          have : ([b] : List (Str × S4)).filterMap (crossOf a) = [⟨sq.1, sq.2, "cross", a.1, .inr b.1⟩] := by
            unfold crossOf
            rw [List.filterMap_cons, em]
            rfl
          rw [this]
          rfl
    · rintro σ H5 ⟨⟨c5, c6, rfl⟩, bt5, cz5⟩
      refine ⟨⟨_, _, _, _, rfl⟩, bt4.trans bt5, _, cz5, ?_⟩
      have ln2 : (((M.drop (i + 1)).map (·.1)).map V.str).length = (M.drop (i + 1)).length := by rw [List.length_map, List.length_map]
      rw [ln2, List.take_length, List.append_assoc, ← ed, ed']
      rfl
  · rintro σ H2 ⟨⟨c3, c4, c5, c6, rfl⟩, bt, done, cz, ed⟩
    rw [lens, List.drop_length] at ed
    have e : done = crossCz M := by rw [← ed]; exact (List.append_nil _).symm
    subst e
    refine ⟨_, rfl, q l H2 M (fun a o h => ?_) nl pM so cz⟩
    exact bt _ _ (ne_of_none h nl) (g1 _ _ h)
end
end DM

namespace DM
open PySem L2
def CzOk (c : Cause) : Prop := c.fit ∧ ((c.wd = "end" ∧ ∃ i, c.th = .inl i) ∨ (c.wd = "cross" ∧ ∃ z, c.th = .inr z))
theorem CzOk.ord {c c' : Cause} (h : CzOk c) (h' : CzOk c') : c.ord c' := fun e => by
  rcases h.2 with ⟨w, i, t⟩ | ⟨w, z, t⟩
  · rcases h'.2 with ⟨w', i', t'⟩ | ⟨w', z', t'⟩
    · exact .inl ⟨i, i', t, t'⟩
    · rw [w, w'] at e
      exact absurd e (by decide)
  · rcases h'.2 with ⟨w', i', t'⟩ | ⟨w', z', t'⟩
    · rw [w, w'] at e
      exact absurd e (by decide)
    · exact .inr ⟨z, z', t, t'⟩
theorem fit_end {n : Str} {x y i : Int} (h : NmOk n) : CzOk ⟨x, y, "end", n, .inl i⟩ := by
  refine ⟨?_, .inl ⟨rfl, i, rfl⟩⟩
  have h' : PyData.canLay0 (.str n) = true := h
  show PyData.canLayAll0 [.str "end", .str n, .int i] = true
  have e : PyData.canLay0 (.str "end") = true := by decide +kernel
  simp only [PyData.canLayAll0, h', e, Bool.true_and, Bool.and_true]
  rfl
theorem fit_cross {n m : Str} {x y : Int} (h : NmOk n) (h2 : NmOk m) : CzOk ⟨x, y, "cross", n, .inr m⟩ := by
  refine ⟨?_, .inr ⟨rfl, m, rfl⟩⟩
  have h' : PyData.canLay0 (.str n) = true := h
  have h2' : PyData.canLay0 (.str m) = true := h2
  show PyData.canLayAll0 [.str "cross", .str n, .str m] = true
  simp only [PyData.canLayAll0, h', h2', Bool.true_and, Bool.and_true]
  decide +kernel
theorem end_ok {L : List (Str × S4)} (h : ∀ p ∈ L, NmOk p.1) : ∀ c ∈ endCz L, CzOk c := fun c hc => by
  obtain ⟨p, hp, hc⟩ := List.mem_flatMap.mp hc
  simp only [endsCz, List.mem_cons, List.not_mem_nil, or_false] at hc
  rcases hc with rfl | rfl
  · exact fit_end (h p hp)
  · exact fit_end (h p hp)
theorem cross_ok : ∀ {M : List (Str × S4)}, (∀ p ∈ M, NmOk p.1) → ∀ c ∈ crossCz M, CzOk c
  | [], _, c, hc => by cases hc
  | a :: r, h, c, hc => by
    unfold crossCz at hc
    rcases List.mem_append.mp hc with z | z
    · obtain ⟨b, hb, e⟩ := List.mem_filterMap.mp z
      unfold crossOf at e
      obtain ⟨p, _, rfl⟩ := Option.map_eq_some_iff.mp e
      exact fit_cross (h a List.mem_cons_self) (h b (List.mem_cons_of_mem _ hb))
    · exact cross_ok (fun p hp => h p (List.mem_cons_of_mem _ hp)) c z
theorem dp_czT {K : PySem.W.Frag} {H : Hp} {v : V} {c : Cause} (h : CzT H v c) : Dp K H v (.tuple c.tail) := by
  obtain ⟨a, rfl, k⟩ := h
  refine .tup (SqT.of k) (.cons (.str _) (.cons (.str _) (.cons ?_ .nil)))
  cases c.th with
  | inl i => exact .int i
  | inr z => exact .str z
theorem dp_czV {K : PySem.W.Frag} {H : Hp} {v : V} {c : Cause} (h : CzV H v c) : Dp K H v c.dat := by
  obtain ⟨a, p, t, rfl, k1, k2, k3⟩ := h
  exact .tup (SqT.of k1) (.cons (dp_pair k2) (.cons (dp_czT k3) .nil))
/-- all causes of a heap, in the order in which they are told -/
structure AllCz (L : List (Str × S4)) (cs : List Cause) : Prop where
  all : ∃ M : List (Str × S4), M.Perm L ∧ PyProof.Rows.sortedS (M.map (·.1)) = true ∧ cs.Perm (endCz L ++ crossCz M)
  rise : cs.Pairwise (fun x y => PyProof.Rows.lexLt PyProof.Rows.itemOrd y.toks x.toks = false)
def spCauses : Sp := fun vs H Q _ => ∃ (d : Addr) (L : List (Str × S4)), vs = [.ref d] ∧ HeapAt H d L ∧ ∀ (l : Addr) (H' : Hp) (cs : List Cause), Same H H' → H l = none → AllCz L cs → LstOf CzV H' l cs → Q (.ref l) H'
theorem AllCz.len {L : List (Str × S4)} {cs : List Cause} (h : AllCz L cs) : cs.length ≤ 2 * L.length + L.length * L.length := by
  obtain ⟨M, pM, _, pc⟩ := h.all
  have := cross_len M
  rw [pM.length_eq] at this
  rw [pc.length_eq, List.length_append, end_len]
  omega
theorem AllCz.ok {L : List (Str × S4)} {cs : List Cause} (h : AllCz L cs) (hn : ∀ p ∈ L, NmOk p.1) : ∀ c ∈ cs, CzOk c := fun c hc => by
  obtain ⟨M, pM, _, pc⟩ := h.all
  rcases List.mem_append.mp (pc.mem_iff.mp hc) with z | z
  · exact end_ok hn c z
  · exact cross_ok (fun p hp => hn p (pM.mem_iff.mp hp)) c z
def atSpot (x y : Int) (c : Cause) : Bool := decide (c.x = x ∧ c.y = y)
def spWhy : Sp := fun vs H Q _ => ∃ (d ps : Addr) (x y : Int) (L : List (Str × S4)), vs = [.ref d, .ref ps] ∧ HeapAt H d L ∧ H ps = some (.tup [.int x, .int y]) ∧ ∀ (l : Addr) (H' : Hp) (cs : List Cause), Same H H' → H l = none → AllCz L cs → LstOf CzT H' l (cs.filter (atSpot x y)) → Q (.ref l) H'
/-- pairs in their order -/
def RiseP (S : List (Int × Int)) : Prop := S.Pairwise fun p q => p.1 < q.1 ∨ (p.1 = q.1 ∧ p.2 < q.2)
def spHot : Sp := fun vs H Q _ => ∃ (d : Addr) (L : List (Str × S4)), vs = [.ref d] ∧ HeapAt H d L ∧ L.length ≤ 8 ∧ ∀ (l : Addr) (H' : Hp) (cs : List Cause) (xs : List V) (S : List (Int × Int)), Same H H' → H l = none → AllCz L cs → H' l = some (.lst xs) → Prs H' xs S → RiseP S → (∀ p : Int × Int, p ∈ S ↔ ∃ c ∈ cs, (c.x, c.y) = p) → Q (.ref l) H'
section
variable {P : Program} {w : World} {K : PySem.W.Frag} {mg : Str → Option Value} {base : Heap} {f : Addr} {fd : FuncData}
abbrev s_p_causes : Stmt := top 25
theorem sc_p_causes : FnScope ["heap"] ["heap"] (defScope s_p_causes) := ⟨rfl, rfl, rfl, by decide +kernel, rfl, by decide +kernel, by decide +kernel⟩
theorem ok_p_causes (B : Blt mg) (c_end_causes : Cal P w K mg base 2 "end_causes" ["heap"] spEndCz) (c_cross_causes : Cal P w K mg base 6 "cross_causes" ["heap"] spCrossCz) (F : Fun K "causes" "causes" s_p_causes f fd) : FnOk P w K mg base CX0 7 f fd ["heap"] spCauses := by
  refine F.ok sc_p_causes (fun vs H Q E h => ?_) (fun cdv A outer s H vs Q E hr h => ?_)
  · obtain ⟨d, L, rfl, _⟩ := h
    rfl
  obtain ⟨d, L, rfl, hH, q⟩ := h
  refine ⟨_, (pss_one (ps_ret (pe_callB (cr_sortCz hr.units) rfl B.sorted bt_sorted (pa_cons (pe_op op_cat (pe_cal c_end_causes hr (pa_cons (pv 0) pa_nil)) (pe_cal c_cross_causes hr (pa_cons (pv 0) pa_nil))) pa_nil)))), ?_⟩
  refine ⟨_, rfl, d, L, rfl, hH, fun l1 H1 s1 n1 z1 => ?_⟩
  refine ⟨_, rfl, d, L, rfl, hH.same s1, fun l2 H2 M s2 n2 pM so z2 => ?_⟩
  have z1 : LstOf CzV H2 l1 (endCz L) := z1.keep CzV.keep' (.of s2) fun xs z => s2 _ _ z
  obtain ⟨bs1, a1, b1, e1⟩ := z1
  obtain ⟨bs2, a2, b2, e2⟩ := z2
  have few := hH.few
  have len1 : bs1.length = 2 * L.length := by rw [← end_len L, ← e1, List.length_map]
  have len2 : bs2.length ≤ L.length * L.length := by
    have := cross_len M
    rw [← e2, List.length_map, pM.length_eq] at this
    exact this
  have mul : L.length * L.length ≤ 32 * 32 := Nat.mul_le_mul few few
  refine ⟨l1, l2, _, _, rfl, rfl, a1, a2, ?_, fun l3 n3 => ?_⟩
  · rw [List.length_map, List.length_map]
    exact sz (by omega)
  have g3 := same_new n3 (.lst (bs1.map (·.1) ++ bs2.map (·.1)))
  have okM : ∀ p ∈ M, NmOk p.1 := fun p hp => hH.nm p (pM.mem_iff.mp hp)
  have ok : ∀ b ∈ bs1 ++ bs2, CzV (upd H2 l3 (.lst (bs1.map (·.1) ++ bs2.map (·.1)))) b.1 b.2 ∧ CzOk b.2 := fun b hb => by
    rcases List.mem_append.mp hb with z | z
    · exact ⟨(b1 b z).keep (.of g3), end_ok hH.nm _ (by rw [← e1]; exact List.mem_map.mpr ⟨b, z, rfl⟩)⟩
    · exact ⟨(b2 b z).keep (.of g3), cross_ok okM _ (by rw [← e2]; exact List.mem_map.mpr ⟨b, z, rfl⟩)⟩
  refine ⟨l3, bs1 ++ bs2, rfl, SqL.of (by rw [upd_same, List.map_append]), fun b hb => ⟨dp_czV (ok b hb).1, (ok b hb).2.1⟩, fun b hb b' hb' => (ok b hb).2.ord (ok b' hb').2, fun cs p pm pw np => ?_⟩
  have g4 := same_new np (.lst (cs.map (·.1)))
  refine q p _ (cs.map (·.2)) (s1.trans (s2.trans (g3.trans g4))) (s1.free (s2.free (g3.free np))) ⟨⟨M, pM, so, ?_⟩, ?_⟩ ⟨cs, upd_same, fun b hb => (ok b (pm.mem_iff.mp hb)).1.keep (.of g4), rfl⟩
  · have := pm.map (·.2)
    rw [List.map_append, e1, e2] at this
    exact this
  · exact List.pairwise_map.mpr pw
end
end DM

namespace DM
open PySem L2
/-- the spots that a set has got from the first causes -/
structure GotP (cs : List Cause) (L : List (Addr × List Int)) : Prop where
  sub : ∀ p ∈ L, ∃ c ∈ cs, p.2 = [c.x, c.y]
  all : ∀ c ∈ cs, [c.x, c.y] ∈ L.map (·.2)
  len : L.length ≤ cs.length
theorem GotP.put {cs : List Cause} {L M : List (Addr × List Int)} {b : Addr} {c : Cause} (g : GotP cs L) (h : SetPut L b [c.x, c.y] M) : GotP (cs ++ [c]) M := by
  by_cases m : [c.x, c.y] ∈ L.map (·.2)
  · rw [h.1 m]
    refine ⟨fun p hp => ?_, fun e he => ?_, by rw [List.length_append]; have := g.len; omega⟩
    · obtain ⟨e, he, ee⟩ := g.sub p hp
      exact ⟨e, List.mem_append_left _ he, ee⟩
    · rcases List.mem_append.mp he with z | z
      · exact g.all e z
      · rw [List.mem_singleton.mp z]
        exact m
  · have pm := h.2 m
    refine ⟨fun p hp => ?_, fun e he => ?_, by rw [pm.length_eq, List.length_append, List.length_cons]; have := g.len; simp only [List.length_cons, List.length_nil]; omega⟩
    · rcases List.mem_cons.mp (pm.mem_iff.mp hp) with z | z
      · exact ⟨c, List.mem_append_right _ (List.mem_singleton.mpr rfl), by rw [z]⟩
      · obtain ⟨e, he, ee⟩ := g.sub p z
        exact ⟨e, List.mem_append_left _ he, ee⟩
    · rw [(pm.map (·.2)).mem_iff, List.map_cons]
      rcases List.mem_append.mp he with z | z
      · exact List.mem_cons_of_mem _ (g.all e z)
      · rw [List.mem_singleton.mp z]
        exact List.mem_cons_self
/-- what the sorted members are -/
theorem hot_list {K : PySem.W.Frag} {H : Hp} {cs : List Cause} {L M : List (Addr × List Int)} (g : GotP cs L) (pm : M.Perm L) (nd : (M.map (·.2)).Nodup) (pw : M.Pairwise (fun q r => PySem.W.dataLt (intsD r.2) (intsD q.2) = false)) (hL : ∀ p ∈ L, H p.1 = some (.tup (p.2.map V.int))) :
    ∃ S : List (Int × Int), Prs H (M.map fun q => V.ref q.1) S ∧ RiseP S ∧ ∀ p : Int × Int, p ∈ S ↔ ∃ c ∈ cs, (c.x, c.y) = p := by
  let pr : Addr × List Int → Int × Int := fun q => (q.2.getD 0 0, q.2.getD 1 0)
  have two : ∀ q ∈ M, q.2 = [(pr q).1, (pr q).2] := fun q hq => by
    obtain ⟨c, _, e⟩ := g.sub q (pm.mem_iff.mp hq)
    show q.2 = [q.2.getD 0 0, q.2.getD 1 0]
    rw [e]
    rfl
  have prs : ∀ N : List (Addr × List Int), (∀ q ∈ N, q ∈ M) → Prs H (N.map fun q => V.ref q.1) (N.map pr) := fun N => by
    induction N with
    | nil => intro _; exact .nil
    | cons q N ih =>
      intro h
      refine .cons ⟨q.1, rfl, ?_⟩ (ih fun r hr => h r (List.mem_cons_of_mem _ hr))
      have e := hL q (pm.mem_iff.mp (h q List.mem_cons_self))
      rw [two q (h q List.mem_cons_self)] at e
      exact e
  refine ⟨M.map pr, prs M (fun _ h => h), ?_, fun p => ?_⟩
  · refine List.pairwise_map.mpr ?_
    have nd' := List.pairwise_map.mp nd
    refine List.Pairwise.imp_of_mem (fun {q r} hq hr z => ?_) (pw.and nd')
    obtain ⟨z1, z2⟩ := z
    have e1 := two q hq
    have e2 := two r hr
    have lt : PySem.W.dataLt (intsD r.2) (intsD q.2) = decide ((pr r).1 < (pr q).1 ∨ ((pr r).1 = (pr q).1 ∧ (pr r).2 < (pr q).2)) := by
      rw [e1, e2]
      exact PySem.W.dataLt_ii _ _ _ _
    rw [lt] at z1
    have n1 := of_decide_eq_false z1
    have ne : ¬ ((pr q).1 = (pr r).1 ∧ (pr q).2 = (pr r).2) := fun h => z2 (by rw [e1, e2, h.1, h.2])
    omega
  · constructor
    · intro hp
      obtain ⟨q, hq, rfl⟩ := List.mem_map.mp hp
      obtain ⟨c, hc, e⟩ := g.sub q (pm.mem_iff.mp hq)
      refine ⟨c, hc, ?_⟩
      show (c.x, c.y) = (q.2.getD 0 0, q.2.getD 1 0)
      rw [e]
      rfl
    · rintro ⟨c, hc, rfl⟩
      obtain ⟨q, hq, e⟩ := List.mem_map.mp (g.all c hc)
      refine List.mem_map.mpr ⟨q, pm.mem_iff.mpr hq, ?_⟩
      show (q.2.getD 0 0, q.2.getD 1 0) = (c.x, c.y)
      rw [e]
      rfl
theorem GotP.tup {cs : List Cause} {L : List (Addr × List Int)} {K : PySem.W.Frag} {H : Hp} (h : ∀ p ∈ L, H p.1 = some (.tup (p.2.map V.int))) : ∀ p ∈ L, SqT K H p.1 (p.2.map V.int) := fun p hp => SqT.of (h p hp)
section
variable {P : Program} {w : World} {K : PySem.W.Frag} {mg : Str → Option Value} {base : Heap} {f : Addr} {fd : FuncData}
end
end DM

namespace DM
open PySem L2
theorem StkV.keep' : ∀ (H H' : Hp) (v : V) (s : S4), StkV H v s → KeepT H H' → StkV H' v s := fun _ _ _ _ h e => h.keep e
theorem LstOf.stks {H : Hp} {l : Addr} {T : List S4} (h : LstOf StkV H l T) : ∃ xs, H l = some (.lst xs) ∧ xs.length = T.length ∧ Stks H xs := by
  obtain ⟨bs, h1, h2, h3⟩ := h
  refine ⟨_, h1, by rw [← h3, List.length_map, List.length_map], fun v hv => ?_⟩
  obtain ⟨b, hb, rfl⟩ := List.mem_map.mp hv
  obtain ⟨p, e, k⟩ := h2 b hb
  exact ⟨p, _, _, _, _, e, k⟩
theorem LstOf.snoc {α : Type} {R : Hp → V → α → Prop} (hR : ∀ (H H' : Hp) (v : V) (c : α), R H v c → KeepT H H' → R H' v c) {H H' : Hp} {l : Addr} {cs : List α} {v : V} {c : α} (h : LstOf R H l cs) (e : KeepT H H') (hl : ∀ xs, H l = some (.lst xs) → H' l = some (.lst (xs ++ [v]))) (hv : R H' v c) : LstOf R H' l (cs ++ [c]) := by
  obtain ⟨bs, h1, h2, h3⟩ := h
  refine ⟨bs ++ [(v, c)], ?_, fun b hb => ?_, ?_⟩
  · rw [hl _ h1, List.map_append]
    rfl
  · rcases List.mem_append.mp hb with z | z
    · exact hR _ _ _ _ (h2 b z) e
    · cases List.mem_singleton.mp z
      exact hv
  · rw [List.map_append, h3]
    rfl
def spMany : Sp := fun vs H Q _ => ∃ (b l : Addr) (m : Nat), vs = [.ref b, .int (m : Nat)] ∧ BagAt H b l ∧ 1 ≤ m ∧ m ≤ 32 ∧ ∀ (pl : Addr) (H' : Hp) (T : List S4), BagAt H' b l → But b H H' → H pl = none → pl ≠ b → pl ≠ l → LstOf StkV H' pl T → T.length = m → Q (.ref pl) H'
def spMany0 : Sp := fun vs H Q _ => ∃ (b l : Addr) (m : Nat), vs = [.ref b, .int (m : Nat)] ∧ BagAt H b l ∧ m ≤ 32 ∧ ∀ (pl : Addr) (H' : Hp) (T : List S4), BagAt H' b l → But b H H' → H pl = none → pl ≠ b → pl ≠ l → LstOf StkV H' pl T → T.length = m → Q (.ref pl) H'
theorem many0_of (vs : List V) (H : Hp) (Q : VK) (E : XK) (h : spMany vs H Q E) : spMany0 vs H Q E := by
  obtain ⟨b, l, m, rfl, hB, _, m1, q⟩ := h
  exact ⟨b, l, m, rfl, hB, m1, q⟩
def NAMES : List Str := ["b", "a", "ab", "z", "ba", "aaaaaa", "zz", "m", "abc", "q", "bb", "c", "mmm", "e", "zzzzzz", "g"]
def spNames : Sp := fun vs H Q _ => ∃ (b l : Addr), vs = [.ref b] ∧ BagAt H b l ∧ ∀ (pn : Addr) (H' : Hp) (ys : List Str), BagAt H' b l → But b H H' → H pn = none → pn ≠ b → H' pn = some (.lst (ys.map V.str)) → ys.Nodup → ys.length = 16 → (∀ n ∈ ys, NmOk n) → Q (.ref pn) H'
theorem names_ok : ∀ n ∈ NAMES, NmOk n := by
  have : NAMES.all (fun n => PyData.canLay0 (.str n)) = true := by decide +kernel
  exact fun n hn => List.all_eq_true.mp this n hn
theorem names_nd : NAMES.Nodup := by decide +kernel
section
variable {P : Program} {w : World} {K : PySem.W.Frag} {mg : Str → Option Value} {base : Heap} {f : Addr} {fd : FuncData}
abbrev s_names : Stmt := top 52
theorem sc_names : FnScope ["_law_bag_here", "_law_some", "_law_turn"] ["_law_bag_here"] (defScope s_names) := ⟨rfl, rfl, rfl, by decide +kernel, rfl, by decide +kernel, by decide +kernel⟩
theorem ok_names (c_pull : Cal P w K mg base 1 "_law_pull" ["_law_bag_here", "_law_amount"] spPull) (F : Fun K "_law_names" "_law_names" s_names f fd) : FnOk P w K mg base CX0 2 f fd ["_law_bag_here"] spNames := by
  refine F.ok sc_names (fun vs H Q E h => ?_) (fun cdv A outer s H vs Q E hr h => ?_)
  · obtain ⟨b, l, rfl, _⟩ := h
    rfl
  obtain ⟨b, l, rfl, hB, q⟩ := h
  refine ⟨_, (pss_cons (ps_set (i := 1) sc_names.nd rfl (Or.inl rfl) (pe_lst (pa_cons pe_str (pa_cons pe_str (pa_cons pe_str (pa_cons pe_str (pa_cons pe_str (pa_cons pe_str (pa_cons pe_str (pa_cons pe_str (pa_cons pe_str (pa_cons pe_str (pa_cons pe_str (pa_cons pe_str (pa_cons pe_str (pa_cons pe_str (pa_cons pe_str (pa_cons pe_str pa_nil))))))))))))))))))
    (pss_cons (ps_set (i := 2) sc_names.nd rfl (Or.inl rfl) (pe_cal c_pull hr (pa_cons (pv 0) (pa_cons pe_int pa_nil))))
    (pss_one (ps_ret (pe_op op_cat (pe_slice sl_list (pv 1) (po_some (pv 2)) po_none) (pe_slice sl_list (pv 1) po_none (po_some (pv 2)))))))), ?_⟩
  refine ⟨sz (by decide : 16 ≤ 100000), fun p1 n1 => ?_⟩
  have g1 := same_new n1 (.lst (NAMES.map V.str))
  have hp1 : upd H p1 (.lst (NAMES.map V.str)) p1 = some (.lst (NAMES.map V.str)) := upd_same
  refine ⟨_, rfl, b, _, _, rfl, hB.same g1, by decide, by decide, fun r H2 hB2 bt2 r0 r1 => ?_⟩
  have p1b := (hB.new n1).1
  have hp2 := bt2 _ _ p1b hp1
  refine ⟨_, rfl, _, rfl, _, rfl, p1, _, rfl, SqL.of hp2, fun p3 n3 => ?_⟩
  have g3 := same_new n3 (.lst (cutV (NAMES.map V.str) (some r) none))
  refine ⟨_, rfl, _, rfl, _, rfl, p1, _, rfl, SqL.of (g3 _ _ hp2), fun p4 n4 => ?_⟩
  have g4 := same_new n4 (.lst (cutV (NAMES.map V.str) none (some r)))
  refine ⟨p3, p4, _, _, rfl, rfl, g4 _ _ upd_same, upd_same, ?_, fun p5 n5 => ?_⟩
  · have h1 := cutV_length (NAMES.map V.str) (some r) none
    have h2 := cutV_length (NAMES.map V.str) none (some r)
    have h3 : (NAMES.map V.str).length = 16 := rfl
    exact sz (by omega)
  obtain ⟨k, rfl⟩ : ∃ k : Nat, r = (k : Int) := ⟨r.toNat, by omega⟩
  have c1 : cutV (NAMES.map V.str) (some (k : Int)) none = (NAMES.drop k).map V.str := by rw [cut_at, List.map_drop]
  have c2 : cutV (NAMES.map V.str) none (some (k : Int)) = (NAMES.take k).map V.str := by
    unfold cutV
    rw [HT.sIx_nat, HT.sIx_none]
    have h3 : (NAMES.map V.str).length = 16 := rfl
    rw [Nat.min_eq_left (by omega), Nat.sub_zero, List.map_take]
    rfl
  have g5 := same_new n5 (.lst (cutV (NAMES.map V.str) (some (k : Int)) none ++ cutV (NAMES.map V.str) none (some (k : Int))))
  have gA := g3.trans (g4.trans g5)
  have pm : (NAMES.drop k ++ NAMES.take k).Perm NAMES := by
    have := List.perm_append_comm (l₁ := NAMES.drop k) (l₂ := NAMES.take k)
    rw [List.take_append_drop] at this
    exact this
  have bt : But b H H2 := (But.of g1).trans bt2
  refine q p5 _ (NAMES.drop k ++ NAMES.take k) (hB2.same gA) (bt.trans (But.of gA)) ?_ ?_ ?_ (pm.nodup_iff.mpr names_nd) pm.length_eq fun n hn => names_ok n (pm.mem_iff.mp hn)
  · have z : H2 p5 = none := (g3.trans g4).free n5
    cases e : H p5 with
    | none => rfl
    | some o =>
      have pb : p5 ≠ b := fun y => by
        obtain ⟨_, hb⟩ := hB2.hasB
        rw [y, hb] at z
        cases z
      rw [bt _ _ pb e] at z
      cases z
  · exact fun y => by
      obtain ⟨_, hb⟩ := (hB2.same (g3.trans g4)).hasB
      rw [y, hb] at n5
      cases n5
  · rw [upd_same, c1, c2, List.map_append]
abbrev s_posts : Stmt := top 50
theorem sc_posts : FnScope ["_law_bag_here", "_law_many", "_law_far", "_law_up", "_law_x", "_law_y", "_law_found", "_law_k", "_law_at", "_law_side", "_law_low_here"] ["_law_bag_here", "_law_many"] (defScope s_posts) := ⟨rfl, rfl, rfl, by decide +kernel, rfl, by decide +kernel, by decide +kernel⟩
theorem ok_posts (B : Blt mg) (c_pull : Cal P w K mg base 1 "_law_pull" ["_law_bag_here", "_law_amount"] spPull) (F : Fun K "_law_posts" "_law_posts" s_posts f fd) : FnOk P w K mg base CX0 2 f fd ["_law_bag_here", "_law_many"] spMany := by
  refine F.ok sc_posts (fun vs H Q E h => ?_) (fun cdv A outer s H vs Q E hr h => ?_)
  · obtain ⟨b, l, m, rfl, _⟩ := h
    rfl
  obtain ⟨b, l, m, rfl, hB, m0, m1, q⟩ := h
  refine ⟨_, (pss_cons (ps_par (i := 2) (j := 3) (by rfl) sc_posts.nd rfl rfl (by decide) rfl rfl (pa_cons (pe_op op_add pe_int (pe_cal c_pull hr (pa_cons (pv 0) (pa_cons pe_int pa_nil)))) (pa_cons (pe_op op_sub pe_int (pe_op op_mul pe_int (pe_cal c_pull hr (pa_cons (pv 0) (pa_cons pe_int pa_nil))))) pa_nil)) (by rfl))
    (pss_cons (ps_par (i := 4) (j := 5) (by rfl) sc_posts.nd rfl rfl (by decide) rfl rfl (pa_cons (pe_op op_sub (pe_cal c_pull hr (pa_cons (pv 0) (pa_cons (pe_op op_sub pe_int (pv 2)) pa_nil))) pe_int) (pa_cons (pe_op op_sub (pe_cal c_pull hr (pa_cons (pv 0) (pa_cons pe_int pa_nil))) pe_int) pa_nil)) (by rfl))
    (pss_cons (ps_set (i := 6) sc_posts.nd rfl (Or.inl rfl) (pe_lst (pa_cons (pe_tup (pa_cons (pv 4) (pa_cons (pv 5) (pa_cons (pe_op op_add (pv 4) (pv 2)) (pa_cons (pe_op op_add (pv 5) (pv 3)) pa_nil))))) pa_nil)))
    (pss_cons (ps_for PassesOwn.never rfl (pi_range1 rfl B.range (pa_cons (pe_op op_sub (pv 1) pe_int) pa_nil)) (pg_name (i := 7) sc_posts.nd rfl (Or.inl rfl))
    (pss_cons (ps_par (i := 8) (j := 9) (by rfl) sc_posts.nd rfl rfl (by decide) rfl rfl (pa_cons (pe_op op_add (pe_op op_add (pv 4) pe_int) (pe_cal c_pull hr (pa_cons (pv 0) (pa_cons (pe_op op_sub (pv 2) pe_int) pa_nil)))) (pa_cons (pe_cal c_pull hr (pa_cons (pv 0) (pa_cons pe_int pa_nil))) pa_nil)) (by rfl))
    (pss_cons (ps_set (i := 10) sc_posts.nd rfl (Or.inl rfl) (pe_op op_add (pv 5) (pe_op op_mul (pv 3) (pv 9))))
    (pss_one (ps_expr (pe_bm PySem.F.plainAttrs_list PySem.F.slot_list_append PySem.F.type_list_append mt_append (pv 6) (pa_cons (pe_tup (pa_cons (pv 8) (pa_cons (pv 10) (pa_cons (pv 8) (pa_cons (pe_op op_add (pv 10) (pe_ix ix_list (pe_lst (pa_cons (pe_un un_neg pe_int) (pa_cons pe_int pa_nil))) (pe_cal c_pull hr (pa_cons (pv 0) (pa_cons pe_int pa_nil))) (fun _ _ => rfl))) pa_nil))))) pa_nil)))))))
    (pss_one (ps_ret (pv 6))))))), ?_⟩
  refine seq_with (fun σ' H' => ∃ far up : Int, σ' = [some (.ref b), some (.int (m : Nat)), some (.int far), some (.int up), none, none, none, none, none, none, none] ∧ BagAt H' b l ∧ But b H H' ∧ 8 ≤ far ∧ far ≤ 32 ∧ (up = 1 ∨ up = -1)) (fun R hR => ?_) ?_
  · refine ⟨_, rfl, b, _, _, rfl, hB, by decide, by decide, fun r1 H1 hB1 bt1 a0 a1 => ⟨_, _, rfl, rfl, _, rfl, b, _, _, rfl, hB1, by decide, by decide, fun r2 H2 hB2 bt2 b0 b1 => ?_⟩⟩
    refine ⟨_, _, rfl, rfl, .inl ⟨by decide, by decide⟩, _, _, rfl, rfl, _, _, rfl, hR _ _ ⟨_, _, rfl, hB2, bt1.trans bt2, by omega, by omega, by omega⟩⟩
  rintro σ H1 ⟨far, up, rfl, hB1, bt1, f0, f1, hup⟩
  refine seq_with (fun σ' H' => ∃ x y : Int, σ' = [some (.ref b), some (.int (m : Nat)), some (.int far), some (.int up), some (.int x), some (.int y), none, none, none, none, none] ∧ BagAt H' b l ∧ But b H H' ∧ -40 ≤ x ∧ x + far ≤ 40 ∧ -32 ≤ y ∧ y ≤ 32) (fun R hR => ?_) ?_
  · refine ⟨_, rfl, _, rfl, _, _, rfl, rfl, b, _, _, rfl, hB1, by omega, by omega, fun r1 H2 hB2 bt2 a0 a1 => ⟨_, _, rfl, rfl, _, rfl, b, _, _, rfl, hB2, by decide, by decide, fun r2 H3 hB3 bt3 b0 b1 => ?_⟩⟩
    refine ⟨_, _, rfl, rfl, _, _, rfl, hR _ _ ⟨_, _, rfl, hB3, bt1.trans (bt2.trans bt3), by omega, by omega, by omega, by omega⟩⟩
  rintro σ H2 ⟨x, y, rfl, hB2, bt2, x0, x1, y0, y1⟩
  refine seq_with (fun σ' H' => ∃ (pl : Addr) (T : List S4), σ' = [some (.ref b), some (.int (m : Nat)), some (.int far), some (.int up), some (.int x), some (.int y), some (.ref pl), none, none, none, none] ∧ BagAt H' b l ∧ But b H H' ∧ H2 pl = none ∧ LstOf StkV H' pl T ∧ T.length = 1) (fun R hR => ?_) ?_
  · refine ⟨_, rfl, _, rfl, _, rfl, _, rfl, _, _, rfl, rfl, _, rfl, _, rfl, _, _, rfl, rfl, sz (by decide : 4 ≤ 100000), fun p1 n1 => ⟨sz (by decide : 1 ≤ 100000), fun p2 n2 => ?_⟩⟩
    have g1 := same_new n1 (.tup [.int x, .int y, .int (x + far), .int (y + up)])
    have g2 := same_new n2 (.lst [.ref p1])
    refine hR _ _ ⟨p2, [((x, y), (x + far, y + up))], rfl, hB2.same (g1.trans g2), bt2.trans (But.of (g1.trans g2)), g1.free n2, ⟨[(.ref p1, ((x, y), (x + far, y + up)))], upd_same, fun c hc => ?_, rfl⟩, rfl⟩
    cases List.mem_singleton.mp hc
    exact ⟨p1, rfl, g2 _ _ upd_same, by show _ ∧ _; dsimp only; omega, by dsimp only; omega⟩
  rintro σ H3 ⟨pl, T, rfl, hB3, bt3, npl, cz, lT⟩
  have plb : pl ≠ b := (hB2.new npl).1
  have pll : pl ≠ l := (hB2.new npl).2
  refine ⟨_, rfl, _, _, rfl, rfl, _, rfl, by omega, by omega, ?_⟩
  refine for_range (lo := 0) (n := ((m : Int) - 1).toNat) (fun i σ H' => (∃ c7 c8 c9 c10, σ = [some (.ref b), some (.int (m : Nat)), some (.int far), some (.int up), some (.int x), some (.int y), some (.ref pl), c7, c8, c9, c10]) ∧ BagAt H' b l ∧ (∀ a o, a ≠ b → a ≠ pl → H a = some o → H' a = some o) ∧ ∃ T, LstOf StkV H' pl T ∧ T.length = i + 1) ?_ ?_ ?_
  · exact ⟨⟨_, _, _, _, rfl⟩, hB3, fun a o na _ e => bt3 _ _ na e, T, cz, by omega⟩
  · rintro i σ H4 hi ⟨⟨c7, c8, c9, c10, rfl⟩, hB4, k4, T4, cz4, l4⟩
    dsimp only [gName, tNext, List.set]
    refine seq_with (fun σ' H' => ∃ (c7 : Option V) (at' side : Int), σ' = [some (.ref b), some (.int (m : Nat)), some (.int far), some (.int up), some (.int x), some (.int y), some (.ref pl), c7, some (.int at'), some (.int side), c10] ∧ BagAt H' b l ∧ But b H4 H' ∧ x + 1 ≤ at' ∧ at' ≤ x + far ∧ 0 ≤ side ∧ side < 2) (fun R hR => ?_) ?_
    · refine ⟨_, rfl, _, _, rfl, rfl, _, rfl, _, rfl, _, _, rfl, rfl, b, _, _, rfl, hB4, by omega, by omega, fun r1 H5 hB5 bt5 a0 a1 => ⟨_, _, rfl, rfl, _, rfl, b, _, _, rfl, hB5, by decide, by decide, fun r2 H6 hB6 bt6 b0 b1 => ?_⟩⟩
      exact ⟨_, _, rfl, hR _ _ ⟨_, _, _, rfl, hB6, bt5.trans bt6, by omega, by omega, b0, b1⟩⟩
    rintro σ H5 ⟨c7', at', side, rfl, hB5, bt5, t0, t1, s0, s1⟩
    have low : -33 ≤ y + up * side ∧ y + up * side ≤ 33 := by
      have hs : side = 0 ∨ side = 1 := by omega
      rcases hs with rfl | rfl <;> rcases hup with rfl | rfl <;> omega
    refine seq_with (fun σ' H' => H5 = H' ∧ ∃ lw : Int, σ' = [some (.ref b), some (.int (m : Nat)), some (.int far), some (.int up), some (.int x), some (.int y), some (.ref pl), c7', some (.int at'), some (.int side), some (.int lw)] ∧ -33 ≤ lw ∧ lw ≤ 33) (fun R hR => ⟨_, rfl, _, rfl, _, rfl, _, _, rfl, rfl, .inl ⟨by omega, by omega⟩, _, _, rfl, rfl, hR _ _ ⟨rfl, _, rfl, low⟩⟩) ?_
    clear low
    rintro _ _ ⟨rfl, lw, rfl, low⟩
    have cz5 := cz4.keep StkV.keep' (KeepT.but hB4 bt5) fun xs z => bt5 _ _ plb z
    obtain ⟨xs5, hl5, lx5, _⟩ := cz5.stks
    refine ⟨_, rfl, .inl ⟨rfl, _, SqL.of hl5⟩, _, rfl, _, rfl, _, rfl, _, rfl, _, rfl, sz (by decide : 2 ≤ 100000), fun p6 n6 => ?_⟩
    have g6 := same_new n6 (.lst [.int (-5), .int 5])
    refine ⟨_, rfl, b, _, _, rfl, hB5.same g6, by decide, by decide, fun r H7 hB7 bt7 r0 r1 => ?_⟩
    have hp6 : H7 p6 = some (.lst [.int (-5), .int 5]) := bt7 _ _ (hB5.new n6).1 upd_same
    obtain ⟨z, hz, zz⟩ : ∃ z : Int, atI [V.int (-5), V.int 5] r = some (V.int z) ∧ (z = -5 ∨ z = 5) := by
      have hr2 : r = 0 ∨ r = 1 := by omega
      rcases hr2 with rfl | rfl
      · exact ⟨-5, rfl, .inl rfl⟩
      · exact ⟨5, rfl, .inr rfl⟩
    refine ⟨p6, _, _, _, rfl, rfl, SqL.of hp6, hz, _, _, rfl, rfl, sz (by decide : 4 ≤ 100000), fun p8 n8 => ?_⟩
    have g8 := same_new n8 (.tup [.int at', .int lw, .int at', .int (lw + z)])
    have btA : But b H5 (upd H7 p8 (.tup [.int at', .int lw, .int at', .int (lw + z)])) := ((But.of g6).trans bt7).trans (But.of g8)
    have hl8 := btA _ _ plb hl5
    refine ⟨pl, _, _, rfl, rfl, hl8, ?_, ?_⟩
    · exact Nat.lt_of_lt_of_le (by omega : xs5.length < 100000) (sz (Nat.le_refl _))
    have kl := KeepT.lst (o := .lst (xs5 ++ [.ref p8])) hl8
    refine ⟨⟨_, _, _, _, rfl⟩, (hB7.same g8).put plb pll, fun a o na np e => ?_, T4 ++ [((at', lw), (at', lw + z))], cz5.snoc StkV.keep' ((KeepT.but hB5 btA).trans kl) (fun xs e => ?_) ⟨p8, rfl, kl _ _ upd_same, ?_, ?_⟩, by rw [List.length_append, l4]; rfl⟩
    · rw [upd_ne np]
      exact btA _ _ na (bt5 _ _ na (k4 a o na np e))
    · rw [hl5] at e
      cases e
      exact upd_same
    · dsimp only
      omega
    · dsimp only
      omega
  · rintro σ H4 ⟨⟨c7, c8, c9, c10, rfl⟩, hB4, k4, T4, cz4, l4⟩
    have new : H pl = none := by
      cases e : H pl with
      | none => rfl
      | some o =>
        rw [bt2 _ _ plb e] at npl
        cases npl
    exact ⟨_, rfl, q pl H4 T4 hB4 (fun a o na e => k4 a o na (ne_of_none e new) e) new plb pll cz4 (by omega)⟩
end
end DM

namespace DM
open PySem L2
section
variable {P : Program} {w : World} {K : PySem.W.Frag} {mg : Str → Option Value} {base : Heap} {f : Addr} {fd : FuncData}
abbrev s_strokes : Stmt := top 51
theorem sc_strokes : FnScope ["_law_bag_here", "_law_many", "_law_base_here", "_law_wide", "_law_found"] ["_law_bag_here", "_law_many"] (defScope s_strokes) := ⟨rfl, rfl, rfl, by decide +kernel, rfl, by decide +kernel, by decide +kernel⟩
theorem zk_strokes (B : Blt mg) (c_pull : Cal P w K mg base 1 "_law_pull" ["_law_bag_here", "_law_amount"] spPull) (c_of : Cal P w K mg base 2 "_law_of" ["_law_bag_here", "_law_things"] spOf) (c_base : Cal P w K mg base 3 "_law_base" ["_law_bag_here"] spBase) (c_beside : Cal P w K mg base 4 "_law_beside" ["_law_bag_here", "_law_base_here", "_law_wide", "_law_some"] spBeside) (c_posts : Cal P w K mg base 2 "_law_posts" ["_law_bag_here", "_law_many"] spMany)
    (F : Fun K "_law_strokes" "_law_strokes" s_strokes f fd) : FnOk P w K mg base CX0 5 f fd ["_law_bag_here", "_law_many"] spMany0 := by
  refine F.ok sc_strokes (fun vs H Q E h => ?_) (fun cdv A outer s H vs Q E hr h => ?_)
  · obtain ⟨b, l, m, rfl, _⟩ := h
    rfl
  obtain ⟨b, l, m, rfl, hB, m1, q⟩ := h
  refine ⟨_, (pss_cons (ps_par (i := 2) (j := 3) (by rfl) sc_strokes.nd rfl rfl (by decide) rfl rfl (pa_cons (pe_cal c_base hr (pa_cons (pv 0) pa_nil)) (pa_cons (pe_cal c_of hr (pa_cons (pv 0) (pa_cons (pe_lst (pa_cons pe_int (pa_cons pe_int (pa_cons pe_int (pa_cons pe_int (pa_cons pe_int (pa_cons pe_int pa_nil))))))) pa_nil))) pa_nil)) (by rfl))
    (pss_cons (ps_set (i := 4) sc_strokes.nd rfl (Or.inl rfl) (pe_lst pa_nil))
    (pss_cons (ps_if (PW.pt (pw_and (pt_cmpR op_gt (pv 1) pe_int (nomark _)) (pw_and1 (pt_cmpR op_eq (pe_cal c_pull hr (pa_cons (pv 0) (pa_cons pe_int pa_nil))) pe_int (nomark _)))))
    (pss_cons (ps_set (i := 4) sc_strokes.nd rfl (Or.inl rfl) (pe_cal c_posts hr (pa_cons (pv 0) (pa_cons (pe_op op_add pe_int (pe_cal c_pull hr (pa_cons (pv 0) (pa_cons (pe_op op_sub (pv 1) pe_int) pa_nil)))) pa_nil))))
    (pss_one (ps_set (i := 2) sc_strokes.nd rfl (Or.inl rfl) (pe_slice sl_tup (pe_ix ix_list (pv 4) pe_int (fun _ _ => rfl)) po_none (po_some pe_int)))))
    pss_nil)
    (pss_cons (ps_while PassesOwn.never (pt_cmpR op_lt (pe_callB call_len_seq rfl B.len bt_len (pa_cons (pv 4) pa_nil)) (pv 1) (nomark _))
    (pss_one (ps_expr (pe_bm PySem.F.plainAttrs_list PySem.F.slot_list_append PySem.F.type_list_append mt_append (pv 4) (pa_cons (pe_cal c_beside hr (pa_cons (pv 0) (pa_cons (pv 2) (pa_cons (pv 3) (pa_cons (pv 4) pa_nil))))) pa_nil)))))
    (pss_one (ps_ret (pv 4))))))), ?_⟩
  refine seq_with (fun σ' H' => ∃ (pb : Addr) (x y wd : Int), σ' = [some (.ref b), some (.int (m : Nat)), some (.ref pb), some (.int wd), none] ∧ BagAt H' b l ∧ But b H H' ∧ H' pb = some (.tup [.int x, .int y]) ∧ 0 < wd ∧ wd ≤ 1000) (fun R hR => ?_) ?_
  · refine ⟨_, rfl, b, _, rfl, hB, fun pb H1 x y hB1 bt1 hp1 => ?_⟩
    refine ⟨_, rfl, sz (by decide : 6 ≤ 100000), fun p2 n2 => ?_⟩
    have g2 := same_new n2 (.lst [.int 2, .int 4, .int 7, .int 7, .int 12, .int 40])
    refine ⟨b, _, p2, _, rfl, hB1.same g2, upd_same, (hB1.new n2).1, by show 0 < 6; decide, by show 6 ≤ 1000; decide, fun v H3 hB3 bt3 hv => ?_⟩
    obtain ⟨wd, rfl, w0, w1⟩ : ∃ m : Int, v = .int m ∧ 0 < m ∧ m ≤ 1000 := by
      simp only [List.mem_cons, List.not_mem_nil, or_false] at hv
      rcases hv with rfl | rfl | rfl | rfl | rfl | rfl <;> exact ⟨_, rfl, by decide, by decide⟩
    exact ⟨_, _, rfl, hR _ _ ⟨pb, x, y, wd, rfl, hB3, bt1.trans ((But.of g2).trans bt3), bt3 _ _ (bag_tup (hB1.same g2) (g2 _ _ hp1)) (g2 _ _ hp1), w0, w1⟩⟩
  rintro σ H1 ⟨pb, x, y, wd, rfl, hB1, bt1, hpb, w0, w1⟩
  refine ⟨sz (by decide : 0 ≤ 100000), fun p2 n2 => ?_⟩
  have g2 := same_new n2 (.lst [])
  dsimp only [gName, tNext, List.set]
  refine seq_with (fun σ' H' => ∃ (pb pl : Addr) (x y : Int) (T : List S4), σ' = [some (.ref b), some (.int (m : Nat)), some (.ref pb), some (.int wd), some (.ref pl)] ∧ BagAt H' b l ∧ But b H H' ∧ H' pb = some (.tup [.int x, .int y]) ∧ H pl = none ∧ pl ≠ b ∧ pl ≠ l ∧ LstOf StkV H' pl T ∧ T.length ≤ m) (fun R hR => ?_) ?_
  · have new : ∀ {J : Hp} {p : Addr}, BagAt J b l → But b H J → J p = none → H p = none := fun {J p} hb bt z => by
      cases e : H p with
      | none => rfl
      | some o =>
        rw [bt _ _ (fun y => by
          obtain ⟨_, h⟩ := hb.hasB
          rw [y, h] at z
          cases z) e] at z
        cases z
    have dflt : ∀ H2, BagAt H2 b l → But b (upd H1 p2 (.lst [])) H2 → R [some (.ref b), some (.int (m : Nat)), some (.ref pb), some (.int wd), some (.ref p2)] H2 := fun H2 hB2 bt2 => by
      have np := (hB1.new n2).1
      exact hR _ _ ⟨pb, p2, x, y, [], rfl, hB2, bt1.trans ((But.of g2).trans bt2), bt2 _ _ (bag_tup (hB1.same g2) (g2 _ _ hpb)) (g2 _ _ hpb), new hB1 bt1 n2, np, (hB1.new n2).2, ⟨[], bt2 _ _ np upd_same, (fun c hc => by cases hc), rfl⟩, Nat.zero_le _⟩
    refine ⟨_, rfl, _, _, rfl, rfl, _, rfl, ?_⟩
    by_cases c : (m : Int) > 1
    · refine iteDT c ?_
      refine ⟨_, rfl, b, _, _, rfl, hB1.same g2, by decide, by decide, fun r H3 hB3 bt3 r0 r1 => ?_⟩
      refine ⟨rfl, _, rfl, ?_⟩
      by_cases e0 : r = 0
      · refine iteDT (congrArg V.int e0) ?_
        dsimp only [tNext]
        refine ⟨_, rfl, _, rfl, _, rfl, _, _, rfl, rfl, b, _, _, rfl, hB3, by omega, by omega, fun k H4 hB4 bt4 k0 k1 => ?_⟩
        obtain ⟨j, rfl⟩ : ∃ j : Nat, k = (j : Int) := ⟨k.toNat, by omega⟩
        refine ⟨_, _, rfl, rfl, b, _, 2 + j, ?_, hB4, by omega, by omega, fun pl H5 T hB5 bt5 npl plb pll cz lT => ?_⟩
        · have : ((2 + j : Nat) : Int) = 2 + (j : Int) := by omega
          rw [this]
          rfl
        have btA := bt1.trans ((But.of g2).trans (bt3.trans (bt4.trans bt5)))
        obtain ⟨bs, h1, h2, h3⟩ := id cz
        cases bs with
        | nil =>
          rw [← h3] at lT
          simp only [List.map_nil, List.length_nil] at lT
          omega
        | cons b0 bs =>
          obtain ⟨p0, ep, kp⟩ := h2 b0 List.mem_cons_self
          refine ⟨_, rfl, pl, _, _, _, rfl, rfl, SqL.of h1, at_of (j := 0) rfl rfl, _, rfl, p0, _, ep, SqT.of kp.1, (fun z => absurd z.2 (by show ¬ (2 = 4); decide)), fun p6 n6 => ?_⟩
          have g6 := same_new n6 (.tup [.int b0.2.1.1, .int b0.2.1.2])
          refine hR _ _ ⟨p6, pl, b0.2.1.1, b0.2.1.2, T, rfl, hB5.same g6, btA.trans (But.of g6), upd_same, new hB4 (bt1.trans ((But.of g2).trans (bt3.trans bt4))) npl, plb, pll, cz.keep StkV.keep' (.of g6) fun xs z => g6 _ _ z, by omega⟩
      · refine iteDF (fun z => e0 (V.int.inj z)) ?_
        exact dflt H3 hB3 bt3
    · refine iteDF c (iteF ?_)
      exact dflt _ (hB1.same g2) But.refl
  rintro σ H2 ⟨pb, pl, x, y, T, rfl, hB2, bt2, hpb, npl, plb, pll, cz, lT⟩
  refine seq_with (fun σ' H' => σ' = [some (.ref b), some (.int (m : Nat)), some (.ref pb), some (.int wd), some (.ref pl)] ∧ BagAt H' b l ∧ (∀ a o, a ≠ b → a ≠ pl → H a = some o → H' a = some o) ∧ ∃ T, LstOf StkV H' pl T ∧ T.length = m) (fun R hR => ?_) ?_
  refine while_own (fun σ' H' => σ' = [some (.ref b), some (.int (m : Nat)), some (.ref pb), some (.int wd), some (.ref pl)] ∧ BagAt H' b l ∧ (∀ a o, a ≠ b → a ≠ pl → H a = some o → H' a = some o) ∧ H' pb = some (.tup [.int x, .int y]) ∧ ∃ T, LstOf StkV H' pl T ∧ T.length ≤ m) (fun _ H' => m - (match H' pl with | some (.lst xs) => xs.length | _ => 0)) ?_ ?_
  · exact ⟨rfl, hB2, fun a o na _ e => bt2 _ _ na e, hpb, T, cz, lT⟩
  · rintro σ H3 N hN hN2 ⟨rfl, hB3, k3, hpb3, T3, cz3, l3⟩
    obtain ⟨xs, hxs, lx, sx⟩ := cz3.stks
    refine ⟨_, rfl, pl, xs, rfl, .inl (SqL.of hxs), _, rfl, _, _, rfl, rfl, _, rfl, ?_⟩
    by_cases c : (xs.length : Int) < (m : Int)
    · refine iteDT c ?_
      refine ⟨N, hN2, ?_⟩
      refine ⟨_, rfl, .inl ⟨rfl, _, SqL.of hxs⟩, _, rfl, _, rfl, _, rfl, _, rfl, b, _, pb, pl, x, y, wd, xs, rfl, hB3, hpb3, w0, w1, hxs, plb, by omega, sx, fun p H4 x1 y1 x2 y2 hB4 bt4 hs => ?_⟩
      have hxs4 := bt4 _ _ plb hxs
      refine ⟨pl, _, _, rfl, rfl, hxs4, Nat.lt_of_lt_of_le (by omega : xs.length < 100000) (sz (Nat.le_refl _)), ?_⟩
      have kl := KeepT.lst (o := .lst (xs ++ [.ref p])) hxs4
      refine hN _ _ ⟨rfl, hB4.put plb pll, fun a o na np e => ?_, kl _ _ (bt4 _ _ (bag_tup hB3 hpb3) hpb3), T3 ++ [((x1, y1), (x2, y2))], cz3.snoc StkV.keep' ((KeepT.but hB3 bt4).trans kl) (fun ys e => ?_) ⟨p, rfl, kl _ _ hs.1, hs.2⟩, ?_⟩ ?_
      · rw [upd_ne np]
        exact bt4 _ _ na (k3 a o na np e)
      · rw [hxs] at e
        cases e
        exact upd_same
      · rw [List.length_append]
        show T3.length + 1 ≤ m
        omega
      · show m - (match upd H4 pl (.lst (xs ++ [.ref p])) pl with | some (.lst xs) => xs.length | _ => 0) < m - (match H3 pl with | some (.lst xs) => xs.length | _ => 0)
        rw [upd_same, hxs]
        show m - (xs ++ [V.ref p]).length < m - xs.length
        rw [List.length_append]
        show m - (xs.length + 1) < m - xs.length
        omega
    · refine iteDF c ?_
      exact hR _ _ ⟨rfl, hB3, k3, T3, cz3, by omega⟩
  · rintro σ H3 ⟨rfl, hB3, k3, T3, cz3, l3⟩
    exact ⟨_, rfl, q pl H3 T3 hB3 (fun a o na e => k3 a o na (ne_of_none e npl) e) npl plb pll cz3 l3⟩
theorem ok_strokes (B : Blt mg) (c_pull : Cal P w K mg base 1 "_law_pull" ["_law_bag_here", "_law_amount"] spPull) (c_of : Cal P w K mg base 2 "_law_of" ["_law_bag_here", "_law_things"] spOf) (c_base : Cal P w K mg base 3 "_law_base" ["_law_bag_here"] spBase) (c_beside : Cal P w K mg base 4 "_law_beside" ["_law_bag_here", "_law_base_here", "_law_wide", "_law_some"] spBeside) (c_posts : Cal P w K mg base 2 "_law_posts" ["_law_bag_here", "_law_many"] spMany)
    (F : Fun K "_law_strokes" "_law_strokes" s_strokes f fd) : FnOk P w K mg base CX0 5 f fd ["_law_bag_here", "_law_many"] spMany := by exact fn_weak (zk_strokes B c_pull c_of c_base c_beside c_posts F) many0_of
end
end DM

namespace DM
open PySem
/-! ### how many causes a spot has: the same however a heap is told -/
def rv (s : S4) : S4 := (s.2, s.1)
theorem rv_ok {s : S4} (h : s.ok) : (rv s).ok := ⟨⟨h.1.2.2.2.2.1, h.1.2.2.2.2.2.1, h.1.2.2.2.2.2.2.1, h.1.2.2.2.2.2.2.2, h.1.1, h.1.2.1, h.1.2.2.1, h.1.2.2.2.1⟩, fun z => h.2 ⟨z.1.symm, z.2.symm⟩⟩
theorem metSq_swap {s t : S4} (hs : s.ok) (ht : t.ok) : metSq t s = metSq s t := by
  unfold metSq
  rw [meet_swap hs.2 ht.2]
theorem metSq_rev (s t : S4) : metSq (rv s) t = metSq s t := by
  unfold metSq rv
  rw [meet_rev]
theorem metSq_rev2 {s t : S4} (hs : s.ok) (ht : t.ok) : metSq s (rv t) = metSq s t := by
  rw [metSq_swap (rv_ok ht) hs, metSq_rev, metSq_swap hs ht]
def endN (T : List S4) (p : Int × Int) : Nat := (T.flatMap fun s => [s.1, s.2]).countP fun q => decide (q = p)
def crossN : List S4 → (Int × Int) → Nat
  | [], _ => 0
  | s :: r, p => (r.countP fun t => decide (metSq s t = some p)) + crossN r p
theorem crossN_cons (s : S4) (r : List S4) (p : Int × Int) : crossN (s :: r) p = (r.countP fun t => decide (metSq s t = some p)) + crossN r p := rfl
def atP (p : Int × Int) (c : Cause) : Bool := atSpot p.1 p.2 c
theorem atP_eq (p : Int × Int) (c : Cause) : atP p c = decide ((c.x, c.y) = p) := by
  unfold atP atSpot
  apply decide_eq_decide.mpr
  exact ⟨fun h => Prod.ext h.1 h.2, fun h => ⟨congrArg Prod.fst h, congrArg Prod.snd h⟩⟩
theorem end_cnt (p : Int × Int) : ∀ L : List (Str × S4), (endCz L).countP (atP p) = endN (L.map (·.2)) p
  | [] => rfl
  | a :: L => by
    have ih := end_cnt p L
    unfold endCz endN at ih ⊢
    rw [List.flatMap_cons, List.countP_append, List.map_cons, List.flatMap_cons, List.countP_append, ih]
    congr 1
    unfold endsCz
    rw [List.countP_cons, List.countP_cons, List.countP_nil, List.countP_cons, List.countP_cons, List.countP_nil, atP_eq, atP_eq]
theorem crossOf_at (p : Int × Int) (a b : Str × S4) : ((crossOf a b).map (atP p)).getD false = decide (metSq a.2 b.2 = some p) := by
  unfold crossOf
  cases e : metSq a.2 b.2 with
  | none =>
    rw [decide_eq_false (by intro z; cases z)]
    rfl
  | some q =>
    show atP p ⟨q.1, q.2, "cross", a.1, .inr b.1⟩ = _
    rw [atP_eq]
    apply decide_eq_decide.mpr
    exact ⟨fun h => congrArg some h, fun h => Option.some.inj h⟩
theorem countP_fm {α β : Type} (f : α → Option β) (q : β → Bool) : ∀ l : List α, (l.filterMap f).countP q = l.countP fun a => ((f a).map q).getD false
  | [] => rfl
  | a :: l => by
    rw [List.filterMap_cons, List.countP_cons, ← countP_fm f q l]
    cases f a with
    | none => rfl
    | some b => rw [List.countP_cons]; rfl
theorem cross_cnt (p : Int × Int) : ∀ M : List (Str × S4), (crossCz M).countP (atP p) = crossN (M.map (·.2)) p
  | [] => rfl
  | a :: r => by
    unfold crossCz
    rw [List.countP_append, cross_cnt p r, countP_fm, List.map_cons, crossN_cons, List.countP_map]
    congr 1
    congr 1
    funext b
    exact crossOf_at p a b
theorem crossN_perm {p : Int × Int} {T T' : List S4} (pm : T.Perm T') : (∀ s ∈ T, s.ok) → crossN T p = crossN T' p := by
  induction pm with
  | nil => intro _; rfl
  | cons x q ih =>
    intro h
    rw [crossN_cons, crossN_cons, q.countP_eq, ih fun s hs => h s (List.mem_cons_of_mem _ hs)]
  | swap x y l =>
    intro h
    have hy := h y List.mem_cons_self
    have hx := h x (List.mem_cons_of_mem _ List.mem_cons_self)
    rw [crossN_cons, crossN_cons, crossN_cons, crossN_cons, List.countP_cons, List.countP_cons, metSq_swap hx hy]
    omega
  | trans q1 q2 ih1 ih2 =>
    intro h
    rw [ih1 h, ih2 fun s hs => h s (q1.mem_iff.mpr hs)]
theorem endN_perm {p : Int × Int} {T T' : List S4} (pm : T.Perm T') : endN T p = endN T' p := (pm.flatMap_right _).countP_eq _
/-- some turned about -/
inductive Tnd : List S4 → List S4 → Prop
  | nil : Tnd [] []
  | same {s : S4} {T T' : List S4} : Tnd T T' → Tnd (s :: T) (s :: T')
  | turn {s : S4} {T T' : List S4} : Tnd T T' → Tnd (s :: T) (rv s :: T')
theorem Tnd.len {T T' : List S4} (h : Tnd T T') : T'.length = T.length := by
  induction h with
  | nil => rfl
  | same _ ih => rw [List.length_cons, List.length_cons, ih]
  | turn _ ih => rw [List.length_cons, List.length_cons, ih]
theorem Tnd.snoc {T T' : List S4} {s s' : S4} (h : Tnd T T') (e : s' = s ∨ s' = rv s) : Tnd (T ++ [s]) (T' ++ [s']) := by
  induction h with
  | nil =>
    rcases e with rfl | rfl
    · exact .same .nil
    · exact .turn .nil
  | same _ ih => exact .same ih
  | turn _ ih => exact .turn ih
theorem Tnd.ok {T T' : List S4} (h : Tnd T T') (ok : ∀ s ∈ T, s.ok) : ∀ s ∈ T', s.ok := by
  induction h with
  | nil => exact ok
  | same _ ih =>
    intro s hs
    rcases List.mem_cons.mp hs with z | z
    · rw [z]; exact ok _ List.mem_cons_self
    · exact ih (fun t ht => ok t (List.mem_cons_of_mem _ ht)) s z
  | turn _ ih =>
    intro s hs
    rcases List.mem_cons.mp hs with z | z
    · rw [z]; exact rv_ok (ok _ List.mem_cons_self)
    · exact ih (fun t ht => ok t (List.mem_cons_of_mem _ ht)) s z
theorem Tnd.ends {p : Int × Int} {T T' : List S4} (h : Tnd T T') : endN T' p = endN T p := by
  unfold endN
  induction h with
  | nil => rfl
  | same _ ih => rw [List.flatMap_cons, List.flatMap_cons, List.countP_append, List.countP_append, ih]
  | turn _ ih =>
    rw [List.flatMap_cons, List.flatMap_cons, List.countP_append, List.countP_append, ih]
    unfold rv
    rw [List.countP_cons, List.countP_cons, List.countP_cons, List.countP_cons, List.countP_nil]
    dsimp only
    omega
theorem Tnd.one {p : Int × Int} {s : S4} (hs : s.ok) {T T' : List S4} (h : Tnd T T') : (∀ t ∈ T, t.ok) → (T'.countP fun t => decide (metSq s t = some p)) = T.countP fun t => decide (metSq s t = some p) := by
  induction h with
  | nil => intro _; rfl
  | same _ ih =>
    intro ok
    rw [List.countP_cons, List.countP_cons, ih fun t ht => ok t (List.mem_cons_of_mem _ ht)]
  | turn _ ih =>
    intro ok
    rw [List.countP_cons, List.countP_cons, ih (fun t ht => ok t (List.mem_cons_of_mem _ ht)), metSq_rev2 hs (ok _ List.mem_cons_self)]
theorem Tnd.cross {p : Int × Int} {T T' : List S4} (h : Tnd T T') : (∀ t ∈ T, t.ok) → crossN T' p = crossN T p := by
  induction h with
  | nil => intro _; rfl
  | same q ih =>
    intro ok
    have ok' := fun t ht => ok t (List.mem_cons_of_mem _ ht)
    rw [crossN_cons, crossN_cons, q.one (ok _ List.mem_cons_self) ok', ih ok']
  | turn q ih =>
    intro ok
    have ok' := fun t ht => ok t (List.mem_cons_of_mem _ ht)
    rw [crossN_cons, crossN_cons, q.one (rv_ok (ok _ List.mem_cons_self)) ok', ih ok']
    congr 1
    congr 1
    funext t
    rw [metSq_rev]
/-- how many causes -/
def cntN (T : List S4) (p : Int × Int) : Nat := endN T p + crossN T p
theorem AllCz.cnt {L : List (Str × S4)} {cs : List Cause} (h : AllCz L cs) (ok : ∀ q ∈ L, q.2.ok) (p : Int × Int) : cs.countP (atP p) = cntN (L.map (·.2)) p := by
  obtain ⟨M, pM, _, pc⟩ := h.all
  rw [pc.countP_eq, List.countP_append, end_cnt, cross_cnt]
  unfold cntN
  rw [crossN_perm (pM.map (·.2)) fun s hs => ?_]
  obtain ⟨q, hq, rfl⟩ := List.mem_map.mp hs
  exact ok q (pM.mem_iff.mp hq)
theorem hot_cnt {cs : List Cause} {p : Int × Int} : (∃ c ∈ cs, (c.x, c.y) = p) ↔ 0 < cs.countP (atP p) := by
  rw [List.countP_pos_iff]
  constructor
  · rintro ⟨c, hc, e⟩
    exact ⟨c, hc, by rw [atP_eq]; exact decide_eq_true e⟩
  · rintro ⟨c, hc, e⟩
    rw [atP_eq] at e
    exact ⟨c, hc, of_decide_eq_true e⟩
theorem rise_one {S S' : List (Int × Int)} (h : RiseP S) (h' : RiseP S') (e : ∀ p, p ∈ S ↔ p ∈ S') : S = S' := by
  have nd : ∀ {S : List (Int × Int)}, RiseP S → S.Nodup := fun {S} h => h.imp fun {a b} z y => by subst y; omega
  refine sorted_perm (R := fun p q : Int × Int => p.1 < q.1 ∨ (p.1 = q.1 ∧ p.2 < q.2)) (fun a b x y => by omega) ?_ h h'
  exact (List.perm_ext_iff_of_nodup (nd h) (nd h')).mpr e
theorem rise_nd {S : List (Int × Int)} (h : RiseP S) : S.Nodup := h.imp fun {a b} z y => by subst y; omega
/-! sums -/
theorem sum_add {α : Type} (f g : α → Nat) : ∀ S : List α, (S.map fun p => f p + g p).sum = (S.map f).sum + (S.map g).sum
  | [] => rfl
  | a :: S => by
    rw [List.map_cons, List.map_cons, List.map_cons, List.sum_cons, List.sum_cons, List.sum_cons, sum_add f g S]
    omega
theorem sum_none {q : Int × Int} : ∀ {S : List (Int × Int)}, q ∉ S → (S.map fun p => if q = p then 1 else 0).sum = 0
  | [], _ => rfl
  | a :: S, h => by
    rw [List.map_cons, List.sum_cons, sum_none fun z => h (List.mem_cons_of_mem _ z), if_neg fun z => h (by rw [z]; exact List.mem_cons_self)]
theorem sum_one {q : Int × Int} : ∀ {S : List (Int × Int)}, S.Nodup → q ∈ S → (S.map fun p => if q = p then 1 else 0).sum = 1
  | a :: S, nd, h => by
    rw [List.map_cons, List.sum_cons]
    have nd' := List.nodup_cons.mp nd
    by_cases e : q = a
    · subst e
      rw [if_pos rfl, sum_none nd'.1]
    · rw [if_neg e, sum_one nd'.2 ((List.mem_cons.mp h).resolve_left e)]
theorem sum_cnt {S : List (Int × Int)} (nd : S.Nodup) : ∀ {cs : List Cause}, (∀ c ∈ cs, (c.x, c.y) ∈ S) → (S.map fun p => cs.countP (atP p)).sum = cs.length
  | [], _ => by
    have : ∀ S : List (Int × Int), (S.map fun p => ([] : List Cause).countP (atP p)).sum = 0 := fun S => by
      induction S with
      | nil => rfl
      | cons a S ih => rw [List.map_cons, List.sum_cons, ih]; rfl
    exact this S
  | c :: cs, h => by
    have ih := sum_cnt nd fun d hd => h d (List.mem_cons_of_mem _ hd)
    have e : (fun p => (c :: cs).countP (atP p)) = fun p => cs.countP (atP p) + if (c.x, c.y) = p then 1 else 0 := by
      funext p
      rw [List.countP_cons, atP_eq]
      congr 1
      by_cases z : (c.x, c.y) = p
      · rw [if_pos z, decide_eq_true z]; rfl
      · rw [if_neg z, decide_eq_false z]; rfl
    rw [e, sum_add, ih, sum_one nd (h c List.mem_cons_self), List.length_cons]
theorem sum_cast : ∀ l : List Nat, (l.map fun n : Nat => (n : Int)).sum = ((l.sum : Nat) : Int)
  | [] => rfl
  | a :: l => by
    rw [List.map_cons, List.sum_cons, List.sum_cons, sum_cast l]
    omega
end DM

namespace DM
open PySem L2
def rLenK (K : PySem.W.Frag) : List V → Hp → VK → Prop := fun xs H Q => ∃ p ys, xs = [.ref p] ∧ (SqL K H p ys ∨ SqT K H p ys) ∧ Q (.int ys.length) H
theorem call_lenK {X : Cx} : CallR X (.builtin "len") (rLenK X.K) := call_len_seq
/-! ### dict(list(zip(names, strokes))) -/
def kvOf (ys : List Str) (bs : List (V × S4)) : List (Key × V) := (ys.zip bs).map fun q => (.inr q.1, q.2.1)
theorem paired_by {α β : Type} {F : α → β → Prop} : ∀ {xs : List α} {zs : List β}, xs.length = zs.length → (∀ (j : Nat) (x : α) (z : β), xs[j]? = some x → zs[j]? = some z → F x z) → Paired F xs zs
  | [], [], _, _ => .nil
  | [], _ :: _, h, _ => by cases h
  | _ :: _, [], h, _ => by cases h
  | x :: xs, z :: zs, h, hF => .cons (hF 0 x z rfl rfl) (paired_by (Nat.succ.inj h) fun j => hF (j + 1))
theorem zipped {K : PySem.W.Frag} {H : Hp} {ts : List Addr} {ys : List Str} {bs : List (V × S4)} (pa : PairsAt H ts ((ys.map V.str).zip (bs.map (·.1)))) : Paired (fun p kv => SqT K H p [kV kv.1, kv.2]) ts (kvOf ys bs) := by
  have e : (ys.map V.str).zip (bs.map (·.1)) = (ys.zip bs).map fun q => (V.str q.1, q.2.1) := by rw [List.zip_map]; rfl
  rw [e] at pa
  refine paired_by (by rw [pa.1]; unfold kvOf; rw [List.length_map, List.length_map]) fun j t kv h1 h2 => ?_
  unfold kvOf at h2
  rw [List.getElem?_map] at h2
  cases e2 : (ys.zip bs)[j]? with
  | none => rw [e2] at h2; cases h2
  | some q =>
    rw [e2] at h2
    cases h2
    exact SqT.of (pa.2 j t (V.str q.1, q.2.1) h1 (by rw [List.getElem?_map, e2]; rfl))
theorem zip_fst_sub {α β : Type} : ∀ (xs : List α) (zs : List β), ((xs.zip zs).map (·.1)).Sublist xs
  | [], _ => by rw [List.zip_nil_left]; exact List.Sublist.refl _
  | x :: xs, [] => by rw [List.zip_nil_right]; exact List.nil_sublist _
  | x :: xs, z :: zs => by
    rw [List.zip_cons_cons, List.map_cons]
    exact (zip_fst_sub xs zs).cons_cons x
theorem merge_new : ∀ (more acc : List (Key × V)), ((acc ++ more).map (·.1)).Nodup → mergeK acc more = acc ++ more
  | [], acc, _ => (List.append_nil _).symm
  | p :: more, acc, nd => by
    have e : putK acc p.1 p.2 = acc ++ [p] := by
      refine putK_new _ ?_
      rw [List.map_append, List.map_cons, List.nodup_append] at nd
      have : ∀ kvs : List (Key × V), (∀ q ∈ kvs, q.1 ≠ p.1) → valV kvs p.1 = none := fun kvs => by
        induction kvs with
        | nil => intro _; rfl
        | cons q kvs ih => intro h; rw [valV_neg (h q List.mem_cons_self)]; exact ih fun r hr => h r (List.mem_cons_of_mem _ hr)
      exact this acc fun q hq z => nd.2.2 q.1 (List.mem_map.mpr ⟨q, hq, rfl⟩) p.1 List.mem_cons_self z
    show mergeK (putK acc p.1 p.2) more = _
    rw [e, merge_new more (acc ++ [p]) (by rw [List.append_assoc]; exact nd), List.append_assoc]
    rfl
theorem kv_keys (ys : List Str) (bs : List (V × S4)) (nd : ys.Nodup) : ((kvOf ys bs).map (·.1)).Nodup := by
  have e : (kvOf ys bs).map (·.1) = ((ys.zip bs).map (·.1)).map (fun n => (Sum.inr n : Key)) := by
    unfold kvOf
    rw [List.map_map, List.map_map]
    rfl
  rw [e]
  exact List.pairwise_map.mpr ((nd.sublist (zip_fst_sub ys bs)).imp fun {a b} z y => z (Sum.inr.inj y))
theorem heaped {H : Hp} {d : Addr} {ys : List Str} {bs : List (V × S4)} (hb : ∀ b ∈ bs, StkV H b.1 b.2) (nd : ys.Nodup) (l16 : ys.length = 16) (nm : ∀ n ∈ ys, NmOk n) (hd : H d = none) : HeapAt (upd H d (.dK (mergeK [] (kvOf ys bs)))) d (ys.zip (bs.map (·.2))) := by
  have em : mergeK [] (kvOf ys bs) = kvOf ys bs := merge_new (kvOf ys bs) [] (kv_keys ys bs nd)
  rw [em]
  have kt : KeepT H (upd H d (.dK (kvOf ys bs))) := .new hd
  refine ⟨⟨(ys.zip bs).map fun q => ((.inr q.1, q.2.1), (q.1, q.2.2)), ?_, fun b hbm => ?_, ?_⟩, nd.sublist (zip_fst_sub ys _), ?_, fun p hp => ?_⟩
  · rw [upd_same, List.map_map]
    rfl
  · obtain ⟨q, hq, rfl⟩ := List.mem_map.mp hbm
    exact ⟨rfl, (hb q.2 (List.of_mem_zip hq).2).keep kt⟩
  · rw [List.map_map, List.zip_map_right]
    rfl
  · rw [List.length_zip]
    omega
  · exact nm p.1 (List.of_mem_zip (show (p.1, p.2) ∈ _ from hp)).1
/-! ### lists of causes and of pairs as data -/
theorem dp_bs {K : PySem.W.Frag} {H : Hp} : ∀ {bs : List (V × PyData)}, (∀ b ∈ bs, Dp K H b.1 b.2) → DpAll K H (bs.map (·.1)) (bs.map (·.2))
  | [], _ => .nil
  | b :: bs, h => .cons (h b List.mem_cons_self) (dp_bs fun c hc => h c (List.mem_cons_of_mem _ hc))
theorem czT_data {K : PySem.W.Frag} {H : Hp} {l : Addr} {cs : List Cause} (h : LstOf CzT H l cs) (ok : ∀ c ∈ cs, CzOk c) : ∃ d, Dp K H (.ref l) d ∧ SeqAt.shaped d = true ∧ PyData.eqv d (.list []) = cs.isEmpty := by
  obtain ⟨bs, h1, h2, h3⟩ := h
  have all : ∀ ds : List (V × Cause), (∀ b ∈ ds, CzT H b.1 b.2 ∧ CzOk b.2) → DpAll K H (ds.map (·.1)) (ds.map fun b => PyData.tuple b.2.tail) ∧ PyData.canLayAll0 (ds.map fun b => PyData.tuple b.2.tail) = true ∧ PyData.depthAll (ds.map fun b => PyData.tuple b.2.tail) ≤ 1 := fun ds => by
    induction ds with
    | nil => intro _; exact ⟨.nil, rfl, Nat.zero_le _⟩
    | cons b ds ih =>
      intro hb
      obtain ⟨i1, i2, i3⟩ := ih fun c hc => hb c (List.mem_cons_of_mem _ hc)
      have b0 := hb b List.mem_cons_self
      have f : PyData.canLayAll0 b.2.tail = true := b0.2.1
      have dz : PyData.depthAll b.2.tail = 0 := by
        obtain ⟨_, c⟩ := b
        obtain ⟨x, y, wd, n, th⟩ := c
        cases th <;> rfl
      refine ⟨.cons (dp_czT b0.1) i1, ?_, ?_⟩
      · rw [List.map_cons]
        simp only [PyData.canLayAll0, PyData.canLay0, f, i2, Bool.and_true]
      · rw [List.map_cons]
        simp only [PyData.depthAll, PyData.depth, dz]
        omega
  obtain ⟨a1, a2, a3⟩ := all bs fun b hb => ⟨h2 b hb, ok b.2 (by rw [← h3]; exact List.mem_map.mpr ⟨b, hb, rfl⟩)⟩
  refine ⟨.list (bs.map fun b => PyData.tuple b.2.tail), .lst (SqL.of h1) a1, ?_, ?_⟩
  · unfold SeqAt.shaped
    simp only [PyData.canLay0, PyData.depth, a2, Bool.true_and]
    exact decide_eq_true (by omega)
  · rw [← h3]
    cases bs with
    | nil => rfl
    | cons b bs => rfl
theorem prD_alike (S : List (Int × Int)) : PySem.W.AllAlike (S.map prD) := fun d hd d' hd' => by
  obtain ⟨p, _, rfl⟩ := List.mem_map.mp hd
  obtain ⟨q, _, rfl⟩ := List.mem_map.mp hd'
  unfold prD
  simp [PySem.W.alike, PySem.W.alikeAll]
theorem prD_sortable (S : List (Int × Int)) : PySem.W.Sortable (S.map prD) := .inl fun d hd => by
  obtain ⟨p, _, rfl⟩ := List.mem_map.mp hd
  exact ⟨_, _, rfl⟩
/-- what is sorted already stays -/
theorem sorted_same {S : List (Int × Int)} (h : RiseP S) {cs : List (V × PyData)} {xs : List V} (hl : xs.length = S.length) (pm : cs.Perm (xs.zip (S.map prD))) (pw : cs.Pairwise (fun x y => PySem.W.dataLt y.2 x.2 = false)) : cs.map (·.2) = S.map prD := by
  have e : (xs.zip (S.map prD)).map (·.2) = S.map prD := List.map_snd_zip (by rw [List.length_map]; omega)
  have p2 := pm.map (·.2)
  rw [e] at p2
  obtain ⟨N, pN, eN⟩ := perm_map_from p2 S rfl
  have pw2 : (cs.map (·.2)).Pairwise (fun x y => PySem.W.dataLt y x = false) := List.pairwise_map.mpr pw
  rw [eN] at pw2
  have pw3 := List.pairwise_map.mp pw2
  have nd : N.Nodup := pN.nodup_iff.mpr (rise_nd h)
  have rN : RiseP N := by
    refine (pw3.and nd).imp fun {a b} z => ?_
    have lt : PySem.W.dataLt (prD b) (prD a) = decide (b.1 < a.1 ∨ (b.1 = a.1 ∧ b.2 < a.2)) := PySem.W.dataLt_ii _ _ _ _
    rw [lt] at z
    have n1 := of_decide_eq_false z.1
    have n2 : ¬ (a.1 = b.1 ∧ a.2 = b.2) := fun y => z.2 (Prod.ext y.1 y.2)
    omega
  rw [eN, rise_one rN h fun p => pN.mem_iff]
end DM

namespace DM
/-! ### i -> 5 i + 1 comes everywhere, by any power of two -/
def fiv : Nat → Nat
  | 0 => 0
  | k + 1 => 5 * fiv k + 1
theorem fiv_add (a : Nat) : ∀ b, fiv (a + b) = fiv a + (4 * fiv a + 1) * fiv b
  | 0 => by simp [fiv]
  | b + 1 => by
    have ih := fiv_add a b
    show 5 * fiv (a + b) + 1 = fiv a + (4 * fiv a + 1) * (5 * fiv b + 1)
    rw [ih]
    grind
theorem fiv_odd : ∀ k, fiv k % 2 = k % 2
  | 0 => rfl
  | k + 1 => by
    have ih := fiv_odd k
    show (5 * fiv k + 1) % 2 = (k + 1) % 2
    omega
theorem odd_cop (n x : Nat) : Nat.Coprime (2 ^ n) (2 * x + 1) := by
  refine Nat.Coprime.pow_left n ?_
  unfold Nat.Coprime
  have h : (2 * x + 1) % 2 = 1 := by omega
  rw [Nat.gcd_rec, h]
  decide
theorem fiv_dvd : ∀ (n k : Nat), 2 ^ n ∣ fiv k → 2 ^ n ∣ k
  | 0, k, _ => by rw [Nat.pow_zero]; exact Nat.one_dvd k
  | n + 1, k, h => by
    have e2 : 2 ∣ fiv k := Nat.dvd_trans ⟨2 ^ n, by rw [Nat.pow_succ, Nat.mul_comm]⟩ h
    have p := fiv_odd k
    obtain ⟨j, rfl⟩ : ∃ j, k = j + j := ⟨k / 2, by omega⟩
    have e : fiv (j + j) = 2 * (fiv j * (2 * fiv j + 1)) := by rw [fiv_add]; grind
    rw [e, Nat.pow_succ, Nat.mul_comm (2 ^ n) 2] at h
    have h1 := Nat.dvd_of_mul_dvd_mul_left (by decide) h
    have h2 := fiv_dvd n j ((odd_cop n (fiv j)).dvd_of_dvd_mul_right h1)
    rw [Nat.pow_succ]
    obtain ⟨c, hc⟩ := h2
    exact ⟨c, by rw [hc]; grind⟩
theorem lcgI_fiv (m i : Nat) : ∀ k, L2.lcgI m i k % (m + 1) = (i + (4 * i + 1) * fiv k) % (m + 1)
  | 0 => by simp [L2.lcgI, fiv]
  | k + 1 => by
    have ih := lcgI_fiv m i k
    show (L2.lcgI m i k * 5 + 1) % (m + 1) % (m + 1) = (i + (4 * i + 1) * (5 * fiv k + 1)) % (m + 1)
    have e : i + (4 * i + 1) * (5 * fiv k + 1) = (i + (4 * i + 1) * fiv k) * 5 + 1 := by grind
    rw [Nat.mod_mod, e, Nat.add_mod, Nat.mul_mod, ih, ← Nat.mul_mod, ← Nat.add_mod]
theorem lcgI_in {m i : Nat} (hi : i ≤ m) : ∀ k, L2.lcgI m i k ≤ m
  | 0 => hi
  | k + 1 => Nat.le_of_lt_succ (Nat.mod_lt _ (Nat.succ_pos _))
/-- a mask of a set's table -/
def Msk (m : Nat) : Prop := ∃ n, 3 ≤ n ∧ m + 1 = 2 ^ n
theorem lcgI_ne {n m i a b : Nat} (hm : m + 1 = 2 ^ n) (ab : a < b) (hb : b ≤ m) : L2.lcgI m i a % (m + 1) ≠ L2.lcgI m i b % (m + 1) := fun h => by
  rw [lcgI_fiv, lcgI_fiv] at h
  obtain ⟨c, rfl⟩ : ∃ c, b = a + c := ⟨b - a, by omega⟩
  have e : i + (4 * i + 1) * fiv (a + c) = (i + (4 * i + 1) * fiv a) + (2 * (2 * i) + 1) * ((2 * (2 * fiv a) + 1) * fiv c) := by rw [fiv_add]; grind
  rw [e] at h
  have d : 2 ^ n ∣ (2 * (2 * i) + 1) * ((2 * (2 * fiv a) + 1) * fiv c) := by
    rw [← hm]
    have := Nat.sub_mod_eq_zero_of_mod_eq h.symm
    rw [Nat.add_sub_cancel_left] at this
    exact Nat.dvd_of_mod_eq_zero this
  have d2 := (odd_cop n _).dvd_of_dvd_mul_left ((odd_cop n _).dvd_of_dvd_mul_left d)
  have d3 := fiv_dvd n c d2
  have := Nat.le_of_dvd (by omega) d3
  omega
theorem lcgI_hits {m : Nat} (hm : Msk m) {i j : Nat} (hi : i ≤ m) (hj : j ≤ m) : ∃ k, k ≤ m ∧ L2.lcgI m i k = j := by
  obtain ⟨n, _, hn⟩ := hm
  rcases Classical.em (∃ k, k ≤ m ∧ L2.lcgI m i k = j) with c | c
  · exact c
  exfalso
  have nd : ((List.range (m + 1)).map (L2.lcgI m i)).Nodup := by
    refine List.pairwise_map.mpr ?_
    refine List.Pairwise.imp_of_mem (fun {a b} _ hb h z => ?_) List.pairwise_lt_range
    exact lcgI_ne hn h (Nat.le_of_lt_succ (List.mem_range.mp hb)) (by rw [z])
  have := L2.nat_nodup_len (j :: (List.range (m + 1)).map (L2.lcgI m i)) (List.range (m + 1)) (List.nodup_cons.mpr ⟨fun z => ?_, nd⟩) fun x hx => ?_
  · rw [List.length_cons, List.length_map] at this
    omega
  · obtain ⟨k, hk, e⟩ := List.mem_map.mp z
    exact c ⟨k, Nat.le_of_lt_succ (List.mem_range.mp hk), e⟩
  · rcases List.mem_cons.mp hx with rfl | z
    · exact List.mem_range.mpr (Nat.lt_succ_of_le hj)
    · obtain ⟨k, hk, rfl⟩ := List.mem_map.mp z
      exact List.mem_range.mpr (Nat.lt_succ_of_le (lcgI_in hi k))
end DM
namespace DM
open PySem L2
/-! ### tables of sets, by any mask -/
theorem run_hits {m : Nat} (hm : Msk m) (h : Int) {j : Nat} (hj : j ≤ m) : ∃ n, n ≤ m + 12 ∧ runI m (SetTable.bits h) n = j := by
  obtain ⟨k, hk, e⟩ := lcgI_hits hm (runI_le m (SetTable.bits h) 12) hj
  exact ⟨12 + k, by omega, (runI_tail (bits_lt h) k).trans e⟩
theorem way_in (m : Nat) (h : Int) (k : Nat) : way m h k ≤ m := by
  have r := runEnd_bd (m := m) (i := SetTable.bits h % (m + 1)) (Nat.le_of_lt_succ (Nat.mod_lt _ (Nat.succ_pos _)))
  have q := nth_in (m := m) k (runAt m (SetTable.bits h % (m + 1)) (SetTable.bits h)) (by unfold runAt; dsimp only; omega)
  exact Nat.le_trans (Nat.le_add_right _ _) q
theorem way_hits {m : Nat} (hm : Msk m) (h : Int) {j : Nat} (hj : j ≤ m) : ∃ k, k < 10 * SetTable.turns m ∧ way m h k = j := by
  obtain ⟨n, hn, e⟩ := run_hits hm h hj
  obtain ⟨k, hk, e2⟩ := run_nth m (SetTable.bits h) n
  exact ⟨k, by unfold SetTable.turns; omega, (congrArg SetTable.Probe.j e2).trans e⟩
/-- each slot in use is found again by its hash -/
structure TabG (t : SetTable) (hs : List Int) : Prop where
  up : Ris t.place.toList
  nod : t.dummies = #[]
  same : t.place.toList.length = hs.length
  msk : Msk t.mask
  low : ∀ x ∈ t.place.toList, x ≤ t.mask
  road : ∀ (i : Nat) (h : Int) (j : Nat), hs[i]? = some h → t.place.toList[i]? = some j → ∃ k, way t.mask h k = j ∧ ∀ c, c < k → way t.mask h c ∈ t.place.toList
theorem TabG.free {t : SetTable} {hs : List Int} (T : TabG t hs) (few : hs.length ≤ t.mask) (h : Int) : ∃ K, K < 10 * SetTable.turns t.mask ∧ way t.mask h K ∉ t.place.toList ∧ ∀ c, c < K → way t.mask h c ∈ t.place.toList := by
  obtain ⟨j, hj, out⟩ := st_missing t.place.toList (t.mask + 1) (by have := T.same; omega)
  obtain ⟨k, hk, e⟩ := way_hits T.msk h (Nat.le_of_lt_succ hj)
  obtain ⟨K, le, no, least⟩ := st_least (p := fun c => way t.mask h c ∉ t.place.toList) k (fun z => out (e ▸ z))
  exact ⟨K, Nat.lt_of_le_of_lt le hk, no, fun c hc => Classical.not_not.mp (least c hc)⟩
theorem TabG.ahead {t : SetTable} {hs : List Int} (T : TabG t hs) {h : Int} {K i : Nat} (no : way t.mask h K ∉ t.place.toList) (hi : hs[i]? = some h) : ∃ c, c < K ∧ t.place.toList[i]? = some (way t.mask h c) := by
  have il : i < t.place.toList.length := by rw [T.same]; exact (List.getElem?_eq_some_iff.mp hi).1
  have hj := List.getElem?_eq_getElem il
  obtain ⟨k, e, all⟩ := T.road i h _ hi hj
  refine ⟨k, ?_, by rw [hj, e]⟩
  rcases Nat.lt_trichotomy k K with c | c | c
  · exact c
  · exact absurd (by rw [← c, e]; exact List.getElem_mem il) no
  · exact absurd (all K c) no
theorem msk_odd {m : Nat} (h : Msk m) : m % 2 = 1 := by
  obtain ⟨n, hn, e⟩ := h
  obtain ⟨k, rfl⟩ : ∃ k, n = k + 1 := ⟨n - 1, by omega⟩
  rw [Nat.pow_succ] at e
  omega
theorem TabG.odd {t : SetTable} {hs : List Int} (T : TabG t hs) : ¬ t.gaveWay = true := by
  unfold SetTable.gaveWay
  rw [msk_odd T.msk]
  decide
/-- one more -/
theorem TabG.more {t : SetTable} {hs : List Int} (T : TabG t hs) {h : Int} {K p : Nat} (no : way t.mask h K ∉ t.place.toList) (all : ∀ c, c < K → way t.mask h c ∈ t.place.toList) (hp : p = SetTable.below t.place (way t.mask h K)) :
    p ≤ hs.length ∧ TabG (t.put (way t.mask h K)).1 (hs.take p ++ h :: hs.drop p) := by
  have cut := below_cut T.up (way t.mask h K)
  have pl : p ≤ t.place.toList.length := by rw [hp]; exact cut.1
  have ph : p ≤ hs.length := by rw [← T.same]; exact pl
  have ep : (t.put (way t.mask h K)).1.place.toList = t.place.toList.take p ++ way t.mask h K :: t.place.toList.drop p := by rw [hp]; exact put_place t _
  have em : ∀ x, x ∈ (t.put (way t.mask h K)).1.place.toList ↔ x = way t.mask h K ∨ x ∈ t.place.toList := fun x => by rw [ep]; exact mem_ins
  refine ⟨ph, ?_, put_dm T.nod _, ?_, T.msk, fun x hx => ?_, fun i h' j h1 h2 => ?_⟩
  · exact ris_insert T.up fun e => no (List.mem_of_getElem? (by rw [Array.getElem?_toList]; exact e))
  · rw [ep, len_ins _ pl, len_ins _ ph, T.same]
  · rcases (em x).mp hx with z | z
    · rw [z]; exact way_in _ _ _
    · exact T.low x z
  · rw [tins_get hs ph] at h1
    rw [ep, tins_get _ pl] at h2
    show ∃ k, way t.mask h' k = j ∧ ∀ c, c < k → way t.mask h' c ∈ (t.put (way t.mask h K)).1.place.toList
    by_cases a : i < p
    · rw [if_pos a] at h1 h2
      obtain ⟨k, e, z⟩ := T.road i h' j h1 h2
      exact ⟨k, e, fun c hc => (em _).mpr (.inr (z c hc))⟩
    rw [if_neg a] at h1 h2
    by_cases b : i = p
    · rw [if_pos b] at h1 h2
      cases h1
      cases h2
      exact ⟨K, rfl, fun c hc => (em _).mpr (.inr (all c hc))⟩
    · rw [if_neg b] at h1 h2
      obtain ⟨k, e, z⟩ := T.road (i - 1) h' j h1 h2
      exact ⟨k, e, fun c hc => (em _).mpr (.inr (z c hc))⟩
/-! ### laid anew -/
theorem free_hit {m : Nat} (hm : Msk m) (owner : Array (Option Nat)) (h : Int) {j : Nat} (hj : j ≤ m) (no : oAt owner j = none) :
    ∃ K, SetTable.layClean.free m owner (SetTable.turns m) (SetTable.bits h % (m + 1)) (SetTable.bits h) = some (way m h K) ∧ oAt owner (way m h K) = none ∧ ∀ c, c < K → oAt owner (way m h c) ≠ none := by
  obtain ⟨n, hn, e⟩ := run_hits hm h hj
  have hit : way m h (off m (SetTable.bits h % (m + 1)) (SetTable.bits h) n) = j := by
    have z := congrArg SetTable.Probe.j (nth_off m n (SetTable.bits h % (m + 1)) (SetTable.bits h))
    rw [itL_run] at z
    exact z.trans e
  obtain ⟨K, le, z, least⟩ := st_least (p := fun c => oAt owner (way m h c) = none) (off m (SetTable.bits h % (m + 1)) (SetTable.bits h) n) (by rw [hit]; exact no)
  refine ⟨K, free_spec m owner _ n _ _ K (by unfold SetTable.turns; omega) le (fun c hc => ?_) (by rw [show oAt owner (nth m _ K).j = none from z]; rfl), z, least⟩
  have q := least c hc
  cases w : oAt owner (way m h c) with
  | none => exact absurd w q
  | some x => rfl
theorem own_more {m : Nat} (hm : Msk m) {done : List Int} {owner : Array (Option Nat)} (W : Own m done owner) (few : done.length ≤ m) (h : Int) :
    ∃ j, SetTable.layClean.free m owner (SetTable.turns m) (SetTable.bits h % (m + 1)) (SetTable.bits h) = some j ∧ Own m (done ++ [h]) (owner.setIfInBounds j (some done.length)) := by
  obtain ⟨ps, lp, full⟩ := W.ps
  obtain ⟨j0, l0, out⟩ := st_missing ps (m + 1) (by omega)
  have e0 : oAt owner j0 = none := Classical.not_not.mp fun z => out (full j0 (Nat.le_of_lt_succ l0) z)
  obtain ⟨K, found, free, used⟩ := free_hit hm owner h (Nat.le_of_lt_succ l0) e0
  have inb : way m h K < owner.size := by rw [W.sz]; exact Nat.lt_succ_of_le (way_in m h K)
  refine ⟨way m h K, found, ?_⟩
  have new := oAt_set_self (owner := owner) (some done.length) inb
  have old : ∀ {i : Nat}, oAt owner i ≠ none → oAt (owner.setIfInBounds (way m h K) (some done.length)) i = oAt owner i := fun {i} z => oAt_set_ne _ fun e => z (by rw [e]; exact free)
  have got : ∀ {i : Nat}, oAt owner i ≠ none → oAt (owner.setIfInBounds (way m h K) (some done.length)) i ≠ none := fun {i} z => by rw [old z]; exact z
  refine { sz := by rw [Array.size_setIfInBounds, W.sz], at_ := fun j k hj e => ?_, all := fun k hk => ?_, ps := ⟨way m h K :: ps, by rw [List.length_cons, lp, List.length_append]; rfl, fun j hj e => ?_⟩ }
  · by_cases c : j = way m h K
    · subst c
      rw [new] at e
      cases e
      exact ⟨h, K, by rw [List.getElem?_append_right (Nat.le_refl _), Nat.sub_self]; rfl, rfl, fun c hc => got (used c hc)⟩
    · rw [oAt_set_ne _ c] at e
      obtain ⟨h', K', a, b, d⟩ := W.at_ j k hj e
      exact ⟨h', K', by rw [List.getElem?_append_left (List.getElem?_eq_some_iff.mp a).1]; exact a, b, fun c hc => got (d c hc)⟩
  · by_cases c : k < done.length
    · obtain ⟨j, hj, e⟩ := W.all k c
      exact ⟨j, hj, by rw [old (by rw [e]; exact fun z => nomatch z)]; exact e⟩
    · have : k = done.length := by rw [List.length_append] at hk; simp only [List.length_cons, List.length_nil] at hk; omega
      exact ⟨way m h K, way_in m h K, by rw [new, this]⟩
  · by_cases c : j = way m h K
    · rw [c]; exact List.mem_cons_self
    · rw [oAt_set_ne _ c] at e
      exact List.mem_cons_of_mem _ (full j hj e)
theorem fold_own {m : Nat} (hm : Msk m) : ∀ (rest done : List Int) (owner : Array (Option Nat)), Own m done owner → done.length + rest.length ≤ m → ∃ o', rest.foldl (stepF m) (some (owner, done.length)) = some (o', (done ++ rest).length) ∧ Own m (done ++ rest) o'
  | [], done, owner, W, _ => by rw [List.append_nil]; exact ⟨owner, rfl, W⟩
  | h :: rest, done, owner, W, few => by
    have few' : done.length + (rest.length + 1) ≤ m := few
    obtain ⟨j, e, W1⟩ := own_more hm W (by omega) h
    have l1 : (done ++ [h]).length = done.length + 1 := by simp
    obtain ⟨o', f, W2⟩ := fold_own hm rest (done ++ [h]) _ W1 (by omega)
    rw [List.append_assoc] at f W2
    refine ⟨o', ?_, W2⟩
    rw [List.foldl_cons, stepF_some e, ← l1]
    exact f
theorem lay_all {m : Nat} (hm : Msk m) {hs : Array Int} (few : hs.size ≤ m) : ∃ owner, SetTable.layClean m hs = some owner ∧ Own m hs.toList owner := by
  obtain ⟨o', f, W⟩ := fold_own hm hs.toList [] _ (Own.init m) (by simpa using few)
  refine ⟨o', ?_, by simpa using W⟩
  rw [layClean_eq, show (0 : Nat) = ([] : List Int).length from rfl, f]
  rfl
theorem relaid_all (t : SetTable) {hs : Array Int} {wanted M : Nat} (hw : SetTable.sizeAbove wanted - 1 = M) (hM : Msk M) (few : hs.size ≤ M) :
    ∃ t' order, t.relaid hs wanted = some (t', order) ∧ order.toList.Perm (List.range hs.size) ∧ TabG t' (order.toList.map fun i => hs.getD i 0) ∧ t'.mask = M ∧ t'.led = t.led ∧ t'.plain = t.plain := by
  obtain ⟨owner, e, W⟩ := lay_all hM few
  have rel : t.relaid hs wanted = some (tabOf t M owner, ((liveOf M owner).map (·.2)).toArray) := by
    rw [relaid_eq, hw, e]
    rfl
  have live : ∀ {j k : Nat}, (j, k) ∈ liveOf M owner ↔ j ≤ M ∧ oAt owner j = some k := fun {j k} => mem_live W.sz
  obtain ⟨r1, r2⟩ := ris_live (fun j => owner.getD j none) (List.range (M + 1)) List.pairwise_lt_range
  have r1 : Ris ((liveOf M owner).map (·.1)) := r1
  have nums : ∀ k, k < hs.size → k ∈ (liveOf M owner).map (·.2) := fun k hk => by
    obtain ⟨j, a, b⟩ := W.all k (by simpa using hk)
    exact List.mem_map.mpr ⟨(j, k), live.mpr ⟨a, b⟩, rfl⟩
  have cnt : (liveOf M owner).length = hs.size := by
    obtain ⟨ps, lp, full⟩ := W.ps
    refine Nat.le_antisymm ?_ ?_
    · have nd : ((liveOf M owner).map (·.1)).Nodup := List.Pairwise.imp (fun h => Nat.ne_of_lt h) r1
      have z := nat_nodup_len ((liveOf M owner).map (·.1)) ps nd fun x hx => by
        obtain ⟨⟨y, k⟩, hq, rfl⟩ := List.mem_map.mp hx
        have := live.mp hq
        exact full y this.1 (by rw [this.2]; exact fun z => nomatch z)
      rw [List.length_map, lp] at z
      simpa using z
    · have z := nat_nodup_len (List.range hs.size) ((liveOf M owner).map (·.2)) List.nodup_range fun k hk => nums k (List.mem_range.mp hk)
      rw [List.length_map, List.length_range] at z
      exact z
  refine ⟨_, _, rel, ?_, ?_, rfl, rfl, rfl⟩
  · exact perm_range hs.size ((liveOf M owner).map (·.2)) (by rw [List.length_map, cnt]) nums
  · refine { up := r1, nod := rfl, same := ?_, msk := hM, low := fun x hx => ?_, road := fun i h j h1 h2 => ?_ }
    · show ((liveOf M owner).map (·.1)).length = (((liveOf M owner).map (·.2)).map fun i => hs.getD i 0).length
      simp only [List.length_map]
    · obtain ⟨⟨y, k⟩, hq, rfl⟩ := List.mem_map.mp (show x ∈ (liveOf M owner).map (·.1) from hx)
      exact (live.mp hq).1
    · have h1 : (((liveOf M owner).map (·.2)).map fun i => hs.getD i 0)[i]? = some h := h1
      have h2 : ((liveOf M owner).map (·.1))[i]? = some j := h2
      rw [List.getElem?_map, List.getElem?_map] at h1
      rw [List.getElem?_map] at h2
      cases q : (liveOf M owner)[i]? with
      | none => rw [q] at h2; cases h2
      | some yk =>
        obtain ⟨y, k⟩ := yk
        rw [q] at h1 h2
        cases h2
        have h1 : hs.getD k 0 = h := Option.some.inj h1
        have at' := live.mp (List.mem_of_getElem? q)
        obtain ⟨h0, K, a, b, c⟩ := W.at_ y k at'.1 at'.2
        have e0 : hs.getD k 0 = h0 := by rw [Array.getD_eq_getD_getElem?, ← Array.getElem?_toList, a]; rfl
        have : h = h0 := h1.symm.trans e0
        subst this
        refine ⟨K, b, fun c' hc' => ?_⟩
        show way M h c' ∈ (liveOf M owner).map (·.1)
        cases z : oAt owner (way M h c') with
        | none => exact absurd z (c c' hc')
        | some k2 => exact List.mem_map.mpr ⟨(way M h c', k2), live.mpr ⟨way_in M h c', z⟩, rfl⟩
end DM
namespace DM
open PySem PySem.Spec PyProof.Rows L2
/-! ### members of sets: numbers, and tuples of such -/
mutual
def nkNum : NestedKey → Bool
  | .num _ => true
  | .tup ks => nkNums ks
  | .none => false
  | .text _ => false
def nkNums : List NestedKey → Bool
  | [] => true
  | k :: ks => nkNum k && nkNums ks
end
/-- the tuple at a is the member k -/
def KeyG (h : Heap) (k : NestedKey) (a : Addr) : Prop := NestedIs h k (.ref a) ∧ k.depth ≤ 8 ∧ nkNum k = true
theorem KeyG.keep {h h' : Heap} {k : NestedKey} {a : Addr} (x : KeyG h k a) (e : ∀ b o vs n, h.get? b = some o → o.data = .seq vs n → h'.get? b = some o) : KeyG h' k a := ⟨NestedIs.at e k _ x.1, x.2⟩
section
variable {P : Program} {w : World}
def HashV (P : Program) (w : World) (n : Nat) (s : Shared) (v : Value) : Prop := ∀ (A : Around) (E : Value → Shared → Prop) (Q : Bool → Shared → Prop), Q true s → wpAny (model P w) A (hashByValue n v) Q E s
def NoCls (P : Program) (w : World) (n : Nat) (s : Shared) (v : Value) : Prop := ∀ (A : Around) (E : Value → Shared → Prop) (Q : Bool → Shared → Prop), Q false s → wpAny (model P w) A (ofAClassStatement n v) Q E s
theorem hashV_tup {n m : Nat} {s : Shared} {a : Addr} {o : Obj} {vs : Array Value} (ho : s.heap.get? a = some o) (hc : o.cls = .type "tuple") (hd : o.data = .seq vs m) (all : ∀ v ∈ vs.toList, HashV P w n s v) : HashV P w (n + 1) s (.ref a) := fun A E Q q => by
  have ty : s.TypeIs (.ref a) "tuple" := ⟨o, ho, hc⟩
  unfold hashByValue
  refine wpAny_bind (wpAny_specialOf ty F.slot_tuple_hash.lookup ?_)
  show wpAny (model P w) A (seqItems? (.ref a) >>= _) Q E s
  refine wpAny_bind (wpAny_seqItems ho hd (wpAny_bind ?_))
  show wpAny (model P w) A (forIn vs _ _) _ E s
  rw [← Array.forIn_toList]
  refine wpAny_forIn_list _ (fun left r s1 => r.1 = none ∧ s1 = s ∧ ∀ v ∈ left, HashV P w n s v) _ (fun v left r s1 z => ?_) (fun r s1 z => ?_) _ _ ⟨rfl, rfl, all⟩
  · obtain ⟨_, rfl, each⟩ := z
    refine wpAny_bind (each v List.mem_cons_self _ _ _ ?_)
    simp only [Bool.not_true, Bool.false_eq_true, if_false]
    exact wpAny_pure ⟨rfl, rfl, fun u hu => each u (List.mem_cons_of_mem _ hu)⟩
  · obtain ⟨r1, r2⟩ := r
    obtain ⟨none', rfl, _⟩ := z
    dsimp only at none'
    subst none'
    exact wpAny_pure q
theorem noCls_tup {n m : Nat} {s : Shared} {a : Addr} {o : Obj} {vs : Array Value} (ho : s.heap.get? a = some o) (hc : o.cls = .type "tuple") (hd : o.data = .seq vs m) (all : ∀ v ∈ vs.toList, NoCls P w n s v) : NoCls P w (n + 1) s (.ref a) := fun A E Q q => by
  have ty : s.TypeIs (.ref a) "tuple" := ⟨o, ho, hc⟩
  unfold ofAClassStatement
  refine wpAny_bind (wpAny_typeOf ty ?_)
  dsimp only
  have tt : (("tuple" : String) == "tuple") = true := by decide
  simp only [tt, if_true, Bool.not_true, Bool.false_eq_true, if_false]
  try refine wpAny_bind (wpAny_pure ?_)
  try simp only [Bool.not_true, Bool.false_eq_true, if_false]
  show wpAny (model P w) A (seqItems? (.ref a) >>= _) Q E s
  refine wpAny_bind (wpAny_seqItems ho hd ?_)
  dsimp only
  refine wpAny_bind ?_
  show wpAny (model P w) A (forIn vs _ _) _ E s
  rw [← Array.forIn_toList]
  refine wpAny_forIn_list _ (fun left r s1 => r.1 = none ∧ s1 = s ∧ ∀ v ∈ left, NoCls P w n s v) _ (fun v left r s1 z => ?_) (fun r s1 z => ?_) _ _ ⟨rfl, rfl, all⟩
  · obtain ⟨_, rfl, each⟩ := z
    refine wpAny_bind (each v List.mem_cons_self _ _ _ ?_)
    simp only [Bool.false_eq_true, if_false]
    exact wpAny_pure ⟨rfl, rfl, fun u hu => each u (List.mem_cons_of_mem _ hu)⟩
  · obtain ⟨r1, r2⟩ := r
    obtain ⟨none', rfl, _⟩ := z
    dsimp only at none'
    subst none'
    exact wpAny_pure q
theorem flat_val {v : Value} {k : NestedKey} {h : Heap} (x : NestedIs h k v) (z : ∀ ks, k ≠ .tup ks) (nn : nkNum k = true) : ∀ (n : Nat) (s : Shared), HashV P w n s v ∧ NoCls P w n s v := fun n s => by
  cases x with
  | none => cases nn
  | text => cases nn
  | tup => exact absurd rfl (z _)
  | bool => exact ⟨fun A E Q q => by cases n <;> exact wpAny_pure q, fun A E Q q => by cases n <;> exact wpAny_pure q⟩
  | int => exact ⟨fun A E Q q => by cases n <;> exact wpAny_pure q, fun A E Q q => by cases n <;> exact wpAny_pure q⟩
mutual
theorem key_plain : ∀ (k : NestedKey) (v : Value) (n : Nat) (s : Shared), NestedIs s.heap k v → nkNum k = true → k.depth ≤ n → HashV P w n s v ∧ NoCls P w n s v
  | .none, _, _, _, _, nn, _ => by cases nn
  | .text _, _, _, _, _, nn, _ => by cases nn
  | .num i, v, n, s, x, nn, _ => flat_val x (fun ks z => by cases z) nn n s
  | .tup ks, _, n, s, x, nn, hn => by
    cases x with
    | tup ho hc hd all =>
      have hn : NestedKey.depthAll ks + 1 ≤ n := hn
      obtain ⟨m, rfl⟩ : ∃ m, n = m + 1 := ⟨n - 1, by omega⟩
      have each := keys_plain ks _ m s all nn (by omega)
      exact ⟨hashV_tup ho hc hd fun v hv => (each v hv).1, noCls_tup ho hc hd fun v hv => (each v hv).2⟩
theorem keys_plain : ∀ (ks : List NestedKey) (vs : List Value) (n : Nat) (s : Shared), NestedAll s.heap ks vs → nkNums ks = true → NestedKey.depthAll ks ≤ n → ∀ v ∈ vs, HashV P w n s v ∧ NoCls P w n s v
  | [], _, _, _, x, _, _, v, hv => by cases x; cases hv
  | k :: ks, _, n, s, x, nn, hn, v, hv => by
    cases x with
    | cons x1 x2 =>
      have nn : (nkNum k && nkNums ks) = true := nn
      have hn : max (NestedKey.depth k) (NestedKey.depthAll ks) ≤ n := hn
      obtain ⟨n1, n2⟩ := Bool.and_eq_true_iff.mp nn
      rcases List.mem_cons.mp hv with e | hv
      · rw [e]; exact key_plain k _ n s x1 n1 (by omega)
      · exact keys_plain ks _ n s x2 n2 (by omega) v hv
end
theorem KeyG.plain {s : Shared} {k : NestedKey} {a : Addr} (x : KeyG s.heap k a) : HashV P w 8 s (.ref a) ∧ NoCls P w 8 s (.ref a) := key_plain k _ 8 s x.1 x.2.2 x.2.1
theorem KeyG.is {h : Heap} {k : NestedKey} {a : Addr} (x : KeyG h k a) : (nestedKind P w).is h k a := ⟨x.1, x.2.1⟩
/-- a search among such members shows nothing -/
theorem seenG {A : Around} {E : Value → Shared → Prop} {s : Shared} {k : NestedKey} {b : Addr} {Q : Bool → Shared → Prop} (hk : KeyG s.heap k b) {ys : List Value} (hy : ∀ y ∈ ys, ∃ k' c, y = Value.ref c ∧ KeyG s.heap k' c) (q : Q false s) : wpAny (model P w) A (searchCouldBeSeen (.ref b) ys) Q E s := by
  unfold searchCouldBeSeen
  refine wpAny_bind (wpAny_forIn_list _ (fun left r s1 => r.1 = none ∧ s1 = s ∧ ∀ y ∈ left, ∃ k' c, y = Value.ref c ∧ KeyG s.heap k' c) _ (fun v left r s1 z => ?_) (fun r s1 z => ?_) _ _ ⟨rfl, rfl, hy⟩)
  · obtain ⟨_, rfl, each⟩ := z
    obtain ⟨k', c, rfl, hc⟩ := each v List.mem_cons_self
    have on : ∀ y ∈ left, ∃ k' c, y = Value.ref c ∧ KeyG s1.heap k' c := fun u hu => each u (List.mem_cons_of_mem _ hu)
    dsimp only
    by_cases hv : (b == c || (carriedByValue (.ref b) && carriedByValue (.ref c))) = true
    · exact wp_if_pos hv (wpAny_pure ⟨rfl, rfl, on⟩)
    · refine wp_if_neg hv (wpAny_bind ((nestedKind P w).quiet hk.is ?_))
      simp only [Bool.not_true, Bool.false_eq_true, if_false]
      refine wpAny_bind ((nestedKind P w).quiet hc.is ?_)
      simp only [Bool.not_true, Bool.false_eq_true, if_false]
      refine wpAny_bind ((hk.plain (P := P) (w := w)).2 _ _ _ ?_)
      simp only [Bool.false_eq_true, if_false]
      refine wpAny_bind ((hc.plain (P := P) (w := w)).2 _ _ _ ?_)
      simp only [Bool.false_eq_true, if_false]
      exact wpAny_pure ⟨rfl, rfl, on⟩
  · obtain ⟨r1, r2⟩ := r
    obtain ⟨none', rfl, _⟩ := z
    dsimp only at none'
    subst none'
    exact wpAny_pure q
end
end DM
namespace DM
open PySem PySem.Spec PyProof.Rows L2
/-! ### a set of such members -/
abbrev MemG := Addr × NestedKey
def gRows (w : World) (L : List MemG) : List (Int × Value) := L.map fun p => (p.2.hash w, Value.ref p.1)
/-- the masks that come, up to some five thousand members -/
def Cap (m : Nat) : Prop := m = 7 ∨ m = 31 ∨ m = 127 ∨ m = 511 ∨ m = 2047 ∨ m = 8191
theorem Cap.msk {m : Nat} (h : Cap m) : Msk m := by
  rcases h with rfl | rfl | rfl | rfl | rfl | rfl
  · exact ⟨3, by decide, by decide⟩
  · exact ⟨5, by decide, by decide⟩
  · exact ⟨7, by decide, by decide⟩
  · exact ⟨9, by decide, by decide⟩
  · exact ⟨11, by decide, by decide⟩
  · exact ⟨13, by decide, by decide⟩
/-- when a table is full, how large the next one is -/
theorem Cap.next {m n : Nat} (h : Cap m) (room : (n - 1) * 5 < m * 3) (full : n * 5 ≥ m * 3) (few : n < 4000) : ∃ M, SetTable.sizeAbove (SetTable.grown n) - 1 = M ∧ Cap M ∧ n * 5 < M * 3 ∧ SetTable.sizeAbove (SetTable.grown n) ≤ 8192 := by
  rcases h with rfl | rfl | rfl | rfl | rfl | rfl
  · obtain rfl : n = 5 := by omega
    exact ⟨31, by decide +kernel, .inr (.inl rfl), by decide, by decide +kernel⟩
  · obtain rfl : n = 19 := by omega
    exact ⟨127, by decide +kernel, .inr (.inr (.inl rfl)), by decide, by decide +kernel⟩
  · obtain rfl : n = 77 := by omega
    exact ⟨511, by decide +kernel, .inr (.inr (.inr (.inl rfl))), by decide, by decide +kernel⟩
  · obtain rfl : n = 307 := by omega
    exact ⟨2047, by decide +kernel, .inr (.inr (.inr (.inr (.inl rfl)))), by decide, by decide +kernel⟩
  · obtain rfl : n = 1229 := by omega
    exact ⟨8191, by decide +kernel, .inr (.inr (.inr (.inr (.inr rfl)))), by decide, by decide +kernel⟩
  · omega
structure SetGR (w : World) (h : Heap) (a : Addr) (L : List MemG) (es : Array (Int × Value)) (ep : Nat) (t : SetTable) : Prop where
  obj : ∃ o, h.get? a = some o ∧ o.ExactSet ∧ o.data = .set es ep t
  rws : es.toList = gRows w L
  tab : TabG t (L.map fun p => p.2.hash w)
  nd : (L.map (·.2)).Nodup
  keys : ∀ p ∈ L, KeyG h p.2 p.1
  pln : t.plain = true
  led : w.params.followText "set-order" = true ∨ t.led = true
  room : L.length * 5 < t.mask * 3
  few : L.length < 4000
  cap : Cap t.mask
section
variable {P : Program} {w : World} {A : Around} {E : Value → Shared → Prop} {s : Shared} {a : Addr} {L : List MemG} {es : Array (Int × Value)} {ep : Nat} {t : SetTable}
theorem rows_len {w : World} {L : List MemG} {es : Array (Int × Value)} (h : es.toList = gRows w L) : es.size = L.length := by
  have e := congrArg List.length h
  simpa [gRows] using e
theorem rows_at {w : World} {L : List MemG} {es : Array (Int × Value)} (h : es.toList = gRows w L) {i : Nat} {p : MemG} (hp : L[i]? = some p) : es[i]? = some (p.2.hash w, Value.ref p.1) := by
  have e : es.toList[i]? = some (p.2.hash w, Value.ref p.1) := by rw [h]; simp [gRows, hp]
  simpa using e
theorem fits_of {hs : List Int} (T : TabG t hs) (n : es.size = hs.length) (few : hs.length ≤ t.mask) : t.fits es.size = true := by
  have l : t.place.size = hs.length := by rw [← T.same]; exact Array.length_toList.symm
  unfold SetTable.fits SetTable.fill
  simp only [T.nod, l, n, beq_self_eq_true, Bool.true_and]
  exact decide_eq_true (by show hs.length + 0 ≤ t.mask; omega)
theorem SetGR.fits (R : SetGR w s.heap a L es ep t) : t.fits es.size = true := by
  refine fits_of R.tab (by rw [rows_len R.rws, List.length_map]) ?_
  have := R.room
  rw [List.length_map]
  omega
theorem same_place {hs : List Int} (T : TabG t hs) {i j x : Nat} (hi : t.place.toList[i]? = some x) (hj : t.place.toList[j]? = some x) : i = j := by
  have e1 := slot_live T.up hi
  rw [slot_live T.up hj] at e1
  injection e1 with e1
  exact e1.symm
/-- the search, from the c-th place of the way on; what was passed is another member -/
theorem seekG (R : SetGR w s.heap a L es ep t) {x : Addr} {k : NestedKey} (hx : KeyG s.heap k x) (hu : A.units + 8 < cLine) {K : Nat} (hK : K < 10 * SetTable.turns t.mask)
    (no : way t.mask (k.hash w) K ∉ t.place.toList) (all : ∀ c, c < K → way t.mask (k.hash w) c ∈ t.place.toList) {Q : SetFound → Shared → Prop} (hin : k ∈ L.map (·.2) → Q (.there none) s) (hout : k ∉ L.map (·.2) → Q (.free (way t.mask (k.hash w) K) false) s) :
    ∀ (f c : Nat) (stand : Option SetTable.Probe), stand.getD (t.probeStart (k.hash w)) = nth t.mask (runAt t.mask (SetTable.bits (k.hash w) % (t.mask + 1)) (SetTable.bits (k.hash w))) c → c ≤ K → K - c < f →
      (∀ (c' i : Nat) (p : MemG), c' < c → t.place.toList[i]? = some (way t.mask (k.hash w) c') → L[i]? = some p → p.2 ≠ k) →
      wpAny (model P w) A (setSearchFrom a (.ref x) (k.hash w) true f stand) Q E s
  | 0, c, _, _, _, hf, _ => absurd hf (Nat.not_lt_zero _)
  | f + 1, c, stand, hst, hc, hf, gone => by
    obtain ⟨o, ho, hex, hd⟩ := R.obj
    have from0 : ∀ q, nth t.mask (nth t.mask (runAt t.mask (SetTable.bits (k.hash w) % (t.mask + 1)) (SetTable.bits (k.hash w))) c) q = nth t.mask (runAt t.mask (SetTable.bits (k.hash w) % (t.mask + 1)) (SetTable.bits (k.hash w))) (c + q) := fun q => (nth_add t.mask c _ q).symm
    have clean : ∀ (n : Nat) (p : SetTable.Probe), p.dummy = none → (nth t.mask p n).dummy = none := fun n => by
      induction n with
      | zero => exact fun p h => h
      | succ n ih => exact fun p h => ih _ (by unfold adv; split <;> exact h)
    have spec := go_spec t R.tab.up R.tab.nod (fun i => (es[i]?.map (·.1)).getD 0) (k.hash w) (10 * SetTable.turns t.mask) (K - c) _ (clean c (runAt t.mask (SetTable.bits (k.hash w) % (t.mask + 1)) (SetTable.bits (k.hash w))) rfl) (by omega)
      (fun q hq => by rw [from0]; exact all (c + q) (by omega)) (by rw [from0, show c + (K - c) = K by omega]; exact no)
    have hashAt : ∀ {i : Nat} {p : MemG}, L[i]? = some p → (es[i]?.map (·.1)).getD 0 = p.2.hash w := fun {i p} hp => by rw [rows_at R.rws hp]; rfl
    have atL : ∀ {i x : Nat}, t.place.toList[i]? = some x → ∃ p, L[i]? = some p := fun {i x} h => by
      have l := (List.getElem?_eq_some_iff.mp h).1
      rw [R.tab.same, List.length_map] at l
      exact ⟨L[i], List.getElem?_eq_getElem l⟩
    rw [setSearchFrom_succ]
    refine wpAny_bind (wpAny_setState_of ho hd R.fits ?_)
    dsimp only
    refine wp_if_neg R.tab.odd ?_
    try refine wpAny_bind (wpAny_pure ?_)
    rcases spec with ⟨q, i, hq, hi, hh, hno, pr⟩ | ⟨hno, pr⟩
    · rw [from0] at hi
      have pr' : t.probe (fun i => (es[i]?.map (·.1)).getD 0) (k.hash w) (stand.getD (t.probeStart (k.hash w))) = some (.candidate (way t.mask (k.hash w) (c + q)) i (nth t.mask (runAt t.mask (SetTable.bits (k.hash w) % (t.mask + 1)) (SetTable.bits (k.hash w))) (c + (q + 1)))) := by
        rw [from0, from0] at pr
        rw [hst]
        exact pr
      rw [pr']
      dsimp only
      obtain ⟨p, hp⟩ := atL hi
      have mp := List.mem_of_getElem? hp
      have kp := R.keys p mp
      have rest : wpAny (model P w) A (searchRest a (.ref x) (k.hash w) true f es t (way t.mask (k.hash w) (c + q)) i (nth t.mask (runAt t.mask (SetTable.bits (k.hash w) % (t.mask + 1)) (SetTable.bits (k.hash w))) (c + (q + 1)))) Q E s := by
        unfold searchRest
        rw [rows_at R.rws hp]
        dsimp only
        refine wpAny_bind (wpAny_holding ((nestedKind P w).eqBool hu kp.is hx.is ?_))
        refine wpAny_bind (wpAny_setState_of ho hd R.fits ?_)
        dsimp only
        by_cases eq : p.2 = k
        · refine wp_if_pos (by rw [decide_eq_true eq]; rfl) (wpAny_pure (hin ?_))
          exact List.mem_map.mpr ⟨p, mp, eq⟩
        · refine wp_if_neg (by rw [decide_eq_false eq]; decide) ?_
          try refine wpAny_bind (wpAny_pure ?_)
          rw [sameMem]
          dsimp only
          simp only [if_true, slot_live R.tab.up hi, rows_at R.rws hp]
          refine wpAny_bind (wpAny_isSame_ref_self (wpAny_bind (wpAny_pure ?_)))
          simp only [if_true]
          refine wp_if_neg (by rw [decide_eq_false eq]; decide) ?_
          refine seekG R hx hu hK no all hin hout f (c + (q + 1)) _ rfl (by omega) (by omega) fun c' i' p' hc' hi' hp' e => ?_
          rcases Nat.lt_or_ge c' c with z | z
          · exact gone c' i' p' z hi' hp' e
          rcases Nat.lt_or_ge c' (c + q) with y | y
          · refine hno (c' - c) i' (by omega) ?_ (by rw [hashAt hp', e])
            rw [from0, show c + (c' - c) = c' by omega]
            exact hi'
          · have ec : c' = c + q := by omega
            subst ec
            rw [same_place R.tab hi' hi, hp] at hp'
            cases hp'
            exact eq e
      by_cases led : t.led = true
      · refine wp_if_neg (by rw [led]; decide) ?_
        try refine wpAny_bind (wpAny_pure ?_)
        exact rest
      · refine wp_if_pos (by rw [Bool.eq_false_iff.mpr led]; rfl) ?_
        refine wpAny_bind (seenG hx (fun y hy => ?_) (wp_if_neg Bool.false_ne_true ?_))
        · obtain ⟨e, he, rfl⟩ := List.mem_map.mp hy
          have he1 : e ∈ es.toList := by
            have : e ∈ es ∧ e.1 = k.hash w := by simpa using he
            simpa using this.1
          rw [R.rws] at he1
          obtain ⟨p2, hp2, rfl⟩ := List.mem_map.mp he1
          exact ⟨p2.2, p2.1, rfl, R.keys p2 hp2⟩
        · try refine wpAny_bind (wpAny_pure ?_)
          exact rest
    · have pr' : t.probe (fun i => (es[i]?.map (·.1)).getD 0) (k.hash w) (stand.getD (t.probeStart (k.hash w))) = some (.empty (way t.mask (k.hash w) K) none) := by
        rw [from0, show c + (K - c) = K by omega] at pr
        rw [hst]
        exact pr
      rw [pr']
      dsimp only
      refine wpAny_pure (hout fun hm => ?_)
      obtain ⟨p, hp, e⟩ := List.mem_map.mp hm
      obtain ⟨i, hi⟩ := List.mem_iff_getElem?.mp hp
      obtain ⟨c', lt, at'⟩ := R.tab.ahead no (show (L.map fun p => p.2.hash w)[i]? = some (k.hash w) by rw [List.getElem?_map, hi, ← e]; rfl)
      rcases Nat.lt_or_ge c' c with z | z
      · exact gone c' i p z at' hi e
      · refine hno (c' - c) i (by omega) ?_ (by rw [hashAt hi, e])
        rw [from0, show c + (c' - c) = c' by omega]
        exact at'
theorem searchG (R : SetGR w s.heap a L es ep t) {x : Addr} {k : NestedKey} (hx : KeyG s.heap k x) (hu : A.units + 8 < cLine) {Q : SetFound → Shared → Prop} (hin : k ∈ L.map (·.2) → Q (.there none) s)
    (hout : ∀ K, k ∉ L.map (·.2) → way t.mask (k.hash w) K ∉ t.place.toList → (∀ c, c < K → way t.mask (k.hash w) c ∈ t.place.toList) → Q (.free (way t.mask (k.hash w) K) false) s) : wpAny (model P w) A (setSearch a (.ref x) (k.hash w) true) Q E s := by
  have room := R.room
  obtain ⟨K, hK, no, all⟩ := R.tab.free (by rw [List.length_map]; omega) (k.hash w)
  refine seekG R hx hu hK no all hin (fun z => hout K z no all) 100000 0 none rfl (Nat.zero_le _) ?_ fun c' _ _ z => absurd z (Nat.not_lt_zero _)
  have : t.mask ≤ 8191 := by rcases R.cap with e | e | e | e | e | e <;> omega
  unfold SetTable.turns at hK
  omega
/-- the rows in another order -/
theorem rows_order {order : Array Nat} (hr : es.toList = gRows w L) (hp : order.toList.Perm (List.range L.length)) :
    ∃ L2, (order.filterMap (es[·]?)).toList = gRows w L2 ∧ L2.Perm L ∧ (L2.map fun p => p.2.hash w) = order.toList.map fun i => (es.map (·.1)).getD i 0 := by
  have one : ∀ l : List Nat, (∀ i ∈ l, i < L.length) → l.filterMap (es[·]?) = gRows w (l.filterMap (L[·]?)) ∧ ((l.filterMap (L[·]?)).map fun p => p.2.hash w) = l.map fun i => (es.map (·.1)).getD i 0 := fun l => by
    induction l with
    | nil => exact fun _ => ⟨rfl, rfl⟩
    | cons i l ih =>
      intro hl
      obtain ⟨e1, e2⟩ := ih fun j hj => hl j (List.mem_cons_of_mem _ hj)
      have hi : L[i]? = some (L[i]'(hl i List.mem_cons_self)) := List.getElem?_eq_getElem _
      have he := rows_at hr hi
      have hm : (es.map (·.1)).getD i 0 = (L[i]'(hl i List.mem_cons_self)).2.hash w := by rw [Array.getD_eq_getD_getElem?, Array.getElem?_map, he]; rfl
      refine ⟨?_, ?_⟩
      · rw [List.filterMap_cons_some he, List.filterMap_cons_some hi, e1]; rfl
      · rw [List.filterMap_cons_some hi, List.map_cons, List.map_cons, e2, hm]
  obtain ⟨e1, e2⟩ := one order.toList fun i hi => List.mem_range.mp (hp.mem_iff.mp hi)
  refine ⟨order.toList.filterMap (L[·]?), by rw [Array.toList_filterMap]; exact e1, ?_, e2⟩
  have all : ∀ n, n ≤ L.length → (List.range n).filterMap (L[·]?) = L.take n := fun n => by
    induction n with
    | zero => exact fun _ => rfl
    | succ n ih =>
      intro hn
      have hi : L[n]? = some (L[n]'hn) := List.getElem?_eq_getElem _
      rw [List.range_succ, List.filterMap_append, ih (by omega), List.filterMap_cons_some hi, List.take_add_one, hi]
      rfl
  have e := hp.filterMap (L[·]?)
  rw [all _ (Nat.le_refl _), List.take_length] at e
  exact e
theorem key_but {h h' : Heap} {k : NestedKey} {a b : Addr} {o : Obj} (x : KeyG h k b) (ho : h.get? a = some o) (hd : o.data = .set es ep t) (sb : Heap.SameBut a h h') : KeyG h' k b := x.keep fun c u vs n hc hs => by
  refine (sb.2 c fun z => ?_).trans hc
  rw [z, ho] at hc
  cases hc
  rw [hd] at hs
  cases hs
/-- laid anew, larger -/
theorem relayG {o : Obj} (ho : s.heap.get? a = some o) (hex : o.ExactSet) (hd : o.data = .set es ep t) (rws : es.toList = gRows w L) (T : TabG t (L.map fun p => p.2.hash w)) (small : L.length ≤ t.mask) (nd : (L.map (·.2)).Nodup) (keys : ∀ p ∈ L, KeyG s.heap p.2 p.1) (pln : t.plain = true) (led : w.params.followText "set-order" = true ∨ t.led = true) (few : L.length < 4000) {M : Nat} (hw : SetTable.sizeAbove (SetTable.grown L.length) - 1 = M) (cM : Cap M) (roomM : L.length * 5 < M * 3) (szM : SetTable.sizeAbove (SetTable.grown L.length) ≤ 8192)
    {Q : Unit → Shared → Prop} (hQ : ∀ h' L' es' ep' t', Heap.SameBut a s.heap h' → SetGR w h' a L' es' ep' t' → L'.Perm L → Q () { s with heap := h' }) : wpAny (model P w) A (setRelay a (SetTable.grown L.length)) Q E s := by
  have n := rows_len rws
  obtain ⟨t', order, e, hp, T', em, el, epl⟩ := relaid_all t (hs := es.map (·.1)) (wanted := SetTable.grown L.length) hw cM.msk (by rw [Array.size_map, n]; omega)
  rw [Array.size_map, n] at hp
  obtain ⟨L2, r1, r2, r3⟩ := rows_order rws hp
  rw [← r3] at T'
  have n2 : (order.filterMap (es[·]?)).size = L.length := by rw [rows_len r1, r2.length_eq]
  rw [setRelay_eq]
  refine wpAny_bind (wpAny_setState_of ho hd (fits_of T (by rw [n, List.length_map]) (by rw [List.length_map]; exact small)) ?_)
  dsimp only
  refine wp_if_neg (by rw [sizeLine_eq]; omega) ?_
  try refine wpAny_bind (wpAny_pure ?_)
  rw [e]
  dsimp only
  refine wpAny_bind (wp_if_neg (by rw [n2, n]; simp) ?_)
  try refine wpAny_bind (wpAny_pure ?_)
  refine wpAny_pure ?_
  dsimp only
  refine wpAny_storeSet_of ho hd ?_ (by rw [n2, sizeLine_eq]; omega)
  have sb : Heap.SameBut a s.heap (s.heap.update a (Obj.putSet (order.filterMap (es[·]?)) t')) := Heap.SameBut.update ..
  refine hQ _ L2 _ (ep + 1) t' sb { obj := ⟨_, store_at ho hd, ⟨hex.1, hex.2.1, hex.2.2⟩, rfl⟩, rws := r1, tab := T', nd := (r2.map (·.2)).nodup_iff.mpr nd, keys := fun p hpm => key_but (keys p (r2.mem_iff.mp hpm)) ho hd sb, pln := by rw [epl]; exact pln, led := by rw [el]; exact led, room := ?_, few := by rw [r2.length_eq]; exact few, cap := by rw [em]; exact cM } r2
  rw [r2.length_eq, em]
  exact roomM
/-- one more member -/
theorem addG (R : SetGR w s.heap a L es ep t) {x : Addr} {k : NestedKey} (hx : KeyG s.heap k x) (hu : A.units + 8 < cLine) (few : L.length + 1 < 4000) {Q : Bool → Shared → Prop}
    (hQ : ∀ b h' L' es' ep' t', Heap.SameBut a s.heap h' → SetGR w h' a L' es' ep' t' → (k ∈ L.map (·.2) → L' = L) → (k ∉ L.map (·.2) → L'.Perm ((x, k) :: L)) → Q b { s with heap := h' }) :
    wpAny (model P w) A (setAddHashed a (.ref x) (k.hash w)) Q E s := by
  obtain ⟨o, ho, hex, hd⟩ := R.obj
  have n := rows_len R.rws
  have room := R.room
  unfold setAddHashed
  refine wpAny_holding ?_
  rw [show (100000 : Nat) = 99999 + 1 from rfl, setAddHashedIn_succ]
  refine wpAny_bind (wpAny_setState_of ho hd R.fits ?_)
  dsimp only
  refine wp_if_neg (by simp [byScan, Value.scannable]) ?_
  try refine wpAny_bind (wpAny_pure ?_)
  refine wpAny_bind (searchG R hx hu (fun m => ?_) fun K out no all => ?_)
  · dsimp only
    exact wpAny_pure (hQ false s.heap L es ep t (Heap.SameBut.refl a s.heap) R (fun _ => rfl) fun z => absurd m z)
  dsimp only
  refine wpAny_bind (wpAny_setState_of ho hd R.fits ?_)
  dsimp only
  obtain ⟨pl, T1⟩ := R.tab.more no all rfl
  have facts : (t.put (way t.mask (k.hash w) K)).2 = SetTable.below t.place (way t.mask (k.hash w) K) ∧ (t.put (way t.mask (k.hash w) K)).1.mask = t.mask ∧ (t.put (way t.mask (k.hash w) K)).1.led = t.led ∧ (t.put (way t.mask (k.hash w) K)).1.plain = t.plain := ⟨rfl, rfl, rfl, rfl⟩
  generalize t.put (way t.mask (k.hash w) K) = pt at T1 facts ⊢
  obtain ⟨t1, p⟩ := pt
  obtain ⟨ep1, em, el, epl⟩ := facts
  dsimp only at T1 ep1 em el epl ⊢
  subst ep1
  have pln1 : t1.plain = true := epl.trans R.pln
  first
    | (refine wpAny_bind ?_; refine wp_if_pos pln1 ?_; refine (hx.plain (P := P) (w := w)).1 _ _ _ ?_)
    | refine wp_if_pos pln1 (wpAny_bind ((hx.plain (P := P) (w := w)).1 _ _ _ ?_))
  simp only [if_true]
  have rows1 : (SetTable.insertAt es (SetTable.below t.place (way t.mask (k.hash w) K)) (k.hash w, Value.ref x)).toList = gRows w (L.take (SetTable.below t.place (way t.mask (k.hash w) K)) ++ (x, k) :: L.drop (SetTable.below t.place (way t.mask (k.hash w) K))) := by
    rw [SetTable.toList_insertAt, R.rws]
    unfold gRows
    rw [List.map_append, List.map_cons, List.map_take, List.map_drop]
  generalize SetTable.below t.place (way t.mask (k.hash w) K) = p at pl T1 rows1 ⊢
  have pm := put_perm L p (x, k)
  have hashes : (L.take p ++ (x, k) :: L.drop p).map (fun q => q.2.hash w) = (L.map fun q => q.2.hash w).take p ++ k.hash w :: (L.map fun q => q.2.hash w).drop p := by
    rw [List.map_append, List.map_cons, List.map_take, List.map_drop]
  rw [← hashes] at T1
  generalize L.take p ++ (x, k) :: L.drop p = L1 at pm T1 rows1
  generalize SetTable.insertAt es p (k.hash w, Value.ref x) = es1 at rows1 ⊢
  have l1 : L1.length = L.length + 1 := pm.length_eq
  have n1 := rows_len rows1
  have nd1 : (L1.map (·.2)).Nodup := (pm.map (·.2)).nodup_iff.mpr (by rw [List.map_cons]; exact List.nodup_cons.mpr ⟨out, R.nd⟩)
  refine wpAny_bind (wpAny_storeSet_of ho hd ?_ (by rw [n1, l1, sizeLine_eq]; omega))
  have sb : Heap.SameBut a s.heap (s.heap.update a (Obj.putSet es1 t1)) := Heap.SameBut.update ..
  have ho1 := store_at (es' := es1) (t' := t1) ho hd
  generalize s.heap.update a (Obj.putSet es1 t1) = h1 at sb ho1 ⊢
  have keys1 : ∀ q ∈ L1, KeyG h1 q.2 q.1 := fun q hq => by
    rcases List.mem_cons.mp (pm.mem_iff.mp hq) with e | z
    · rw [e]; exact key_but hx ho hd sb
    · exact key_but (R.keys q z) ho hd sb
  have led1 : w.params.followText "set-order" = true ∨ t1.led = true := by rw [el]; exact R.led
  have fill1 : t1.fill = L.length + 1 := by
    have z := T1.same
    rw [List.length_map, l1] at z
    unfold SetTable.fill
    rw [T1.nod]
    simpa using z
  have cap := R.cap
  by_cases full : t1.tooFull = true
  · first
      | (refine wpAny_bind ?_; refine wp_if_pos (by simp [full]) ?_)
      | (refine wp_if_pos (by simp [full]) ?_; refine wpAny_bind ?_)
    rw [n, ← l1]
    have ge : L1.length * 5 ≥ t.mask * 3 := by
      unfold SetTable.tooFull at full
      rw [fill1, em] at full
      rw [l1]
      exact of_decide_eq_true full
    obtain ⟨M, hw, cM, roomM, szM⟩ := cap.next (n := L1.length) (by rw [l1]; exact room) ge (by omega)
    refine relayG (s := { s with heap := h1 }) ho1 ⟨hex.1, hex.2.1, hex.2.2⟩ rfl rows1 T1 (by rw [l1, em]; omega) nd1 keys1 pln1 led1 (by omega) hw cM roomM szM fun h2 L2 es2 ep2 t2 sb2 R2 pm2 => ?_
    exact wpAny_pure (hQ true h2 L2 es2 ep2 t2 (sb.trans sb2) R2 (fun z => absurd z out) fun _ => pm2.trans pm)
  · have lt : ¬ (L.length + 1) * 5 ≥ t1.mask * 3 := fun z => full (by unfold SetTable.tooFull; rw [fill1]; exact decide_eq_true z)
    first
      | refine wp_if_neg (by simp [full]) ?_
      | (refine wpAny_bind ?_; refine wp_if_neg (by simp [full]) ?_; refine wpAny_pure ?_)
    exact wpAny_pure (hQ true h1 L1 es1 (ep + 1) t1 sb { obj := ⟨_, ho1, ⟨hex.1, hex.2.1, hex.2.2⟩, rfl⟩, rws := rows1, tab := T1, nd := nd1, keys := keys1, pln := pln1, led := led1, room := by rw [l1]; omega, few := by omega, cap := by rw [em]; exact cap } (fun z => absurd z out) fun _ => pm)
end
end DM

namespace DM
open PySem PySem.Spec PyProof.Rows L2
/-! ### comprehensions with two fors, whatever they make -/
def Knows (a b : L2.St) : Prop := a.length = b.length ∧ ∀ (j : Nat) (v : V), a[j]? = some (some v) → b[j]? = some (some v)
theorem knows_wipe {σ τ : L2.St} {vs : List Nat} (e : wipe τ vs = wipe σ vs) : Knows (wipe σ vs) τ := ⟨by rw [← e, wipe_length], fun j v z => by rw [← e] at z; exact (wipe_some z).1⟩
theorem knows_in {σ τ : L2.St} {vs ws : List Nat} (e : wipe τ vs = wipe σ vs) (sub : ∀ i ∈ ws, i ∈ vs) : Knows (wipe σ vs) (wipe τ ws) := ⟨by rw [← e, wipe_length, wipe_length], fun j v z => by
  rw [← e] at z
  obtain ⟨z1, z2⟩ := wipe_some z
  rw [wipe_out fun y => z2 (sub j y)]
  exact z1⟩
section
variable {Bx : Cx} {tg : Expr} {Jt : It} {own : List Addr} {ito : Addr} {turns : Nat → Heap → Prop} {g : TG} {tt : TT} {ifs : List Expr} {vs : List Nat} {σ : L2.St} {i : Nat} {H : Hp} {s : Shared} {El : L2.St → Hp → (Hp → Prop) → Prop} {bp : List (Addr × Obj)}
/-- one turn of a walk, above any pins -/
theorem turn_each {Ec : Value → Shared → Prop} {AW : (Shared → Prop) → Shared → Prop} {R : Shared → Prop} {Nx : Hp → Prop} (Tn : Turn Bx.prog Bx.w Bx.K tg Jt own ito turns) (calm : Bx.calm = true) (quiet : Bx.xe = fun _ _ => False) (aim : PG Bx tg g) (tests : PTs Bx ifs tt)
    (ow : ∀ (τ : L2.St) (J : Hp) (r : Shared), Inv Bx bp τ J r → (∀ b ∈ own, J b = none) → ∀ b ∈ own, FpOk Bx bp J b) (I : Inv Bx bp (wipe σ vs) H s) (at0 : turns i s.heap) (no : ∀ b ∈ own, H b = none) (go : Jt.go i H)
    (step : ∀ x J, Jt.yld i H x J → g x (wipe σ vs) J fun σ2 J2 => wipe σ2 vs = wipe σ vs ∧ tt σ2 J2 fun b J3 => if b = true then El σ2 J3 Nx else Nx J3)
    (elm : ∀ (pins : List (Addr × Obj)) (τ : L2.St) (J : Hp) (r : Shared) (R' : Shared → Prop), Inv Bx pins τ J r → wipe τ vs = wipe σ vs → El τ J Nx → (∀ r' J' τ', Inv Bx pins τ' J' r' → Knows (wipe σ vs) τ' → Nx J' → R' r') → AW R' r)
    (fin : ∀ (r : Shared) (J : Hp), Inv Bx bp (wipe σ vs) J r → turns (i + 1) r.heap → (∀ b ∈ own, J b = none) → Nx J → R r) :
    wpAny (model Bx.prog Bx.w) Bx.A (pyNext (.ref ito)) (fun r s1 => ∃ v, r = some v ∧ wpAny (model Bx.prog Bx.w) Bx.A (letOwnedTupleGo tg (.ref ito) v) (fun _ s2 => wpAny (model Bx.prog Bx.w) Bx.A (assign tg Bx.env v) (fun _ s3 =>
      wpAny (model Bx.prog Bx.w) Bx.A (forIn ifs true fun c r => if r = true then do let ok ← isTrue c Bx.env (eval c Bx.env); pure (ForInStep.yield ok) else pure (ForInStep.yield r)) (fun ok s4 =>
        if ok = true then AW R s4 else R s4) Ec s3) Ec s2) Ec s1) Ec s := by
  refine thnF (Tn.item Bx rfl rfl rfl calm i bp s _ H (fun _ _ => False) I (ow _ _ _ I no) at0 go) fun r s1 h1 => ?_
  obtain ⟨v, rfl, h1⟩ := h1
  refine ⟨v, rfl, thnF h1 fun _ s2 h2 => ?_⟩
  obtain ⟨x, J2, I2, r2, y2, at2, no2⟩ := h2
  have aimed := aim.run _ s2 _ J2 x v _ (I2.pinned (ow _ _ _ I2 no2) (Tn.obj _ _ at2)) r2 (step x J2 y2)
  rw [quiet] at aimed
  refine thnF aimed fun _ s3 h3 => ?_
  obtain ⟨σ3, J3, I3, wiped, q3⟩ := h3
  have tested := tests.run _ s3 σ3 J3 _ I3 q3
  rw [quiet] at tested
  refine thnF tested fun b s4 h4 => ?_
  obtain ⟨J4, I4, q4⟩ := h4
  have last : ∀ {r : Shared} {J : Hp} {τ : L2.St}, Inv Bx (bp ++ pinsAt own s2.heap) τ J r → Knows (wipe σ vs) τ → Nx J → R r := fun {r J τ} Ir kn nx => by
    have kept : ∀ b ∈ own, ∀ o, s2.heap.get? b = some o → r.heap.get? b = some o ∧ J b = none := fun b hb o e => by
      have z := Ir.pin (b, o) (List.mem_append_right _ (List.mem_append_right _ (mem_pinsAt hb e)))
      exact ⟨z.1, z.2.1⟩
    refine fin r J ((Ir.unpinned (pins := bp)).weak kn.1 kn.2) (Tn.keep _ _ _ at2 fun b hb o e => (kept b hb o e).1) (fun b hb => ?_) nx
    obtain ⟨o, e, _⟩ := Tn.obj _ _ at2 b hb
    exact (kept b hb o e).2
  cases b with
  | false =>
    rw [if_neg Bool.false_ne_true] at q4 ⊢
    exact last I4 (knows_wipe wiped) q4
  | true =>
    rw [if_pos rfl] at q4 ⊢
    exact elm _ _ _ _ _ I4 wiped q4 fun r' J' τ' I5 kn nx => last I5 kn nx
end
/-- C makes by its two fors, one in the other, what emit makes -/
structure TwoFors (C t0 i0 t1 i1 : Expr) (ifs0 ifs1 : List Expr) (acc : Value) (env : Env) (emit : Sem Unit) : Prop where
  cl : clausesOf C = [⟨t0, i0, ifs0, 0⟩, ⟨t1, i1, ifs1, 0⟩]
  ul : ∀ (A : Around) (k : Nat) (it : Value), A.under (.compLoop C k it acc env) = A
  us : ∀ (A : Around) (k : Nat) (it : Value), A.under (.compStart C k it acc env) = A
  dl : ∀ (prog : Program) (w : World) (k : Nat) (it : Value), (model prog w).den (.compLoop C k it acc env) = (compTurn C k it acc env).onRaise (fun x => do noteFrame x env; theTreesLotGoes x)
  ds : ∀ (prog : Program) (w : World) (k : Nat) (it : Value), (model prog w).den (.compStart C k it acc env) = (compStart C k it acc env).onRaise (fun x => do noteFrame x env; standAt theWindowsPlace)
  fst : ∀ it, compTurn C 0 it acc env = (do
      standAt i0.pos
      match ← pyNext it with
      | none => pure (.done .next)
      | some v =>
        letOwnedTupleGo t0 it v
        assign t0 env v
        let mut ok := true
        for c in ifs0 do
          if ok then ok ← isTrue c env (eval c env)
        if ok then
          let x ← eval i1 env
          standAt i1.pos
          let x ← foldedSetIterable i1 env x
          let _ ← runOwn (.compStart C 1 (← holding [x] (pyIter x)) acc env) env
        again (.compLoop C 0 it acc env))
  snd : ∀ it, compTurn C 1 it acc env = (do
      standAt i1.pos
      match ← pyNext it with
      | none => pure (.done .next)
      | some v =>
        letOwnedTupleGo t1 it v
        assign t1 env v
        let mut ok := true
        for c in ifs1 do
          if ok then ok ← isTrue c env (eval c env)
        if ok then emit
        again (.compLoop C 1 it acc env))
section
variable {prog : Program} {w : World} {A : Around} {R : Result → Shared → Prop} {s : Shared} {C t0 i0 t1 i1 : Expr} {ifs0 ifs1 : List Expr} {it acc : Value} {env : Env} {emit : Sem Unit}
abbrev errE (prog : Program) (w : World) (A : Around) (env : Env) (R : Result → Shared → Prop) : Value → Shared → Prop := notedBy (model prog w) A env fun e s' => R (.error e) s'
theorem loop_fst (T : TwoFors C t0 i0 t1 i1 ifs0 ifs1 acc env emit) (pl : ∀ x, foldedSetIterable i1 env x = pure x) (I : Nat → Shared → Prop)
    (turn : ∀ n s, I n s → wpAny (model prog w) A (pyNext it) (fun r s1 => match r with
      | none => R (.ok .next) s1
      | some v => wpAny (model prog w) A (letOwnedTupleGo t0 it v) (fun _ s2 => wpAny (model prog w) A (assign t0 env v) (fun _ s3 =>
          wpAny (model prog w) A (forIn ifs0 true fun c r => if r = true then do let ok ← isTrue c env (eval c env); pure (ForInStep.yield ok) else pure (ForInStep.yield r)) (fun ok s4 =>
            if ok = true then wpAny (model prog w) A (eval i1 env) (fun x s5 => wpAny (model prog w) A (pyIter x) (fun it1 s6 =>
              codeAny (model prog w) A (.compStart C 1 it1 acc env) (fun r s' => match r with
                | .ok _ => ∃ m, m < n ∧ I m s'
                | .error _ => False) s6) (errE prog w A env R) s5) (errE prog w A env R) s4
            else ∃ m, m < n ∧ I m s4) (errE prog w A env R) s3) (errE prog w A env R) s2) (errE prog w A env R) s1) (errE prog w A env R) s)
    (n : Nat) (h : I n s) : codeAny (model prog w) A (.compLoop C 0 it acc env) R s := by
  refine codeAny_loop rfl I (fun n s hI => ?_) n h
  rw [T.ul, T.dl]
  refine wpAny_noted ?_
  rw [T.fst]
  refine wpAny_bind (wpAny_standAt (wpAny_bind (thn (turn n s hI) fun r s1 h1 => ?_)))
  cases r with
  | none => exact wpAny_pure h1
  | some v =>
    refine wpAny_bind (thn h1 fun _ s2 h2 => wpAny_bind (thn h2 fun _ s3 h3 => wpAny_bind (thn h3 fun ok s4 h4 => ?_)))
    cases ok with
    | false => exact wpAny_pure ⟨rfl, h4⟩
    | true =>
      refine wpAny_bind (thn h4 fun x s5 h5 => ?_)
      refine wpAny_bind (wpAny_standAt (wpAny_bind (wpAny_of_eq (pl x) (wpAny_bind (wpAny_holding (thn h5 fun it1 s6 h6 => ?_))))))
      refine wpAny_bind (wpAny_runOwn ?_)
      rw [Around.mark_none]
      refine codeAny_mono h6 fun r s' hr => ?_
      cases r with
      | error e => exact hr.elim
      | ok f =>
        first
          | exact wpAny_pure ⟨rfl, hr⟩
          | exact wpAny_bind (wpAny_pure (wpAny_pure ⟨rfl, hr⟩))
theorem loop_snd (T : TwoFors C t0 i0 t1 i1 ifs0 ifs1 acc env emit) (I : Nat → Shared → Prop)
    (turn : ∀ n s, I n s → wpAny (model prog w) A (pyNext it) (fun r s1 => match r with
      | none => R (.ok .next) s1
      | some v => wpAny (model prog w) A (letOwnedTupleGo t1 it v) (fun _ s2 => wpAny (model prog w) A (assign t1 env v) (fun _ s3 =>
          wpAny (model prog w) A (forIn ifs1 true fun c r => if r = true then do let ok ← isTrue c env (eval c env); pure (ForInStep.yield ok) else pure (ForInStep.yield r)) (fun ok s4 =>
            if ok = true then wpAny (model prog w) A emit (fun _ s5 => ∃ m, m < n ∧ I m s5) (errE prog w A env R) s4
            else ∃ m, m < n ∧ I m s4) (errE prog w A env R) s3) (errE prog w A env R) s2) (errE prog w A env R) s1) (errE prog w A env R) s)
    (n : Nat) (h : I n s) : codeAny (model prog w) A (.compLoop C 1 it acc env) R s := by
  refine codeAny_loop rfl I (fun n s hI => ?_) n h
  rw [T.ul, T.dl]
  refine wpAny_noted ?_
  rw [T.snd]
  refine wpAny_bind (wpAny_standAt (wpAny_bind (thn (turn n s hI) fun r s1 h1 => ?_)))
  cases r with
  | none => exact wpAny_pure h1
  | some v =>
    refine wpAny_bind (thn h1 fun _ s2 h2 => wpAny_bind (thn h2 fun _ s3 h3 => wpAny_bind (thn h3 fun ok s4 h4 => ?_)))
    cases ok with
    | false => exact wpAny_pure ⟨rfl, h4⟩
    | true => exact wpAny_bind (thn h4 fun _ s5 h5 => wpAny_pure ⟨rfl, h5⟩)
theorem start_snd (T : TwoFors C t0 i0 t1 i1 ifs0 ifs1 acc env emit) (h0 : codeAny (model prog w) A (.compLoop C 1 it acc env) R s)
    (h : wpAny (model prog w) A (pyIter it) (fun it' s' => codeAny (model prog w) A (.compLoop C 1 it' acc env) R s') (errE prog w A env R) s) : codeAny (model prog w) A (.compStart C 1 it acc env) R s := by
  refine codeAny_of_tree ?_
  rw [T.us, T.ds]
  refine wpAny_notedAt ?_
  unfold compStart
  rw [T.cl]
  show wpAny (model prog w) A (ask >>= _) _ _ s
  refine wpAny_bind (wpAny_askSetting (wpAny_ite ?_))
  split
  · first
      | exact wpAny_bind (wpAny_pure (wpAny_pure (And.intro rfl h0)))
      | exact wpAny_pure (And.intro rfl h0)
  · first
      | exact wpAny_bind (wpAny_rule (wpAny_bind (wpAny_standAt (wpAny_bind (thn h fun it' s' h' => wpAny_pure (And.intro rfl h'))))))
      | (refine wpAny_bind (wpAny_rule ?_); show wpAny (model prog w) A (standAt i1.pos >>= _) _ _ s; exact wpAny_bind (wpAny_standAt (wpAny_bind (thn h fun it' s' h' => wpAny_pure (And.intro rfl h')))))
end
section
variable {X : Cx}
/-- what is asked of two walks, one in the other; El: what is asked of one making -/
def tTwo (wi : TI) (g : TG) (tt : TT) (wi1 : TI) (g1 : TG) (tt1 : TT) (El : Addr → L2.St → Hp → (Hp → Prop) → Prop) (new : Addr → HO) (vs vs1 : List Nat) : TE := fun σ H Q => wi σ H fun J H1 => ∀ D, H1 D = none → ∃ W : Nat → Nat → Hp → Prop, (∃ m, W 0 m (upd H1 D (new D))) ∧ ∀ i m H, W i m H →
  (J.stop i H ∧ Q (.ref D) H) ∨ (J.go i H ∧ ∃ Nx : Hp → Prop, (∀ H', Nx H' → ∃ m', m' < m ∧ W (i + 1) m' H') ∧ ∀ x H', J.yld i H x H' → g x (wipe σ vs) H' fun σ2 H2 => wipe σ2 vs = wipe σ vs ∧ tt σ2 H2 fun b H3 =>
    if b = true then wi1 σ2 H3 fun J1 H4 => ∃ W1 : Nat → Nat → Hp → Prop, (∃ m, W1 0 m H4) ∧ ∀ j k H, W1 j k H →
      (J1.stop j H ∧ Nx H) ∨ (J1.go j H ∧ ∃ Nx1 : Hp → Prop, (∀ H', Nx1 H' → ∃ k', k' < k ∧ W1 (j + 1) k' H') ∧ ∀ x H', J1.yld j H x H' → g1 x (wipe σ2 vs1) H' fun σ3 H5 => wipe σ3 vs1 = wipe σ2 vs1 ∧ tt1 σ3 H5 fun b H6 => if b = true then El D σ3 H6 Nx1 else Nx1 H6)
    else Nx H3)
theorem two_loop {C tg iter tg1 iter1 : Expr} {ifs ifs1 : List Expr} {scope : Scope} {emit : Sem Unit} {g g1 : TG} {tt tt1 : TT} {wi1 : TI} {El : L2.St → Hp → (Hp → Prop) → Prop} {vs vs1 : List Nat} {σ : L2.St} {H3 : Hp} {s3 s4 : Shared} {fp : List Addr} {turns : Nat → Heap → Prop} {Jt : It} {ito D : Addr} {cx : Env} {W : Nat → Nat → Hp → Prop} {m0 : Nat} {Q : VK} {pins : List (Addr × Obj)} {R : Result → Shared → Prop}
    (T : TwoFors C tg iter tg1 iter1 ifs ifs1 (.ref D) cx emit) (calm : X.calm = true) (sub : ∀ i ∈ vs1, i ∈ vs) (I3 : Inv X pins σ H3 s3) (f3 : ∀ b ∈ fp, FpOk X pins H3 b ∧ b < s3.heap.objs.size) (I4 : Inv (X.blk s3 H3 scope cx fp) [] (wipe σ vs) H3 s4) (locC : cx.locals = s3.heap.objs.size) (Tn : Turn X.prog X.w X.K tg Jt fp ito turns) (at4 : turns 0 s4.heap)
    (aim : PG (X.blk s3 H3 scope cx fp) tg g) (tests : PTs (X.blk s3 H3 scope cx fp) ifs tt) (walks1 : PI (X.blk s3 H3 scope cx fp) tg1 iter1 wi1) (aim1 : PG (X.blk s3 H3 scope cx fp) tg1 g1) (tests1 : PTs (X.blk s3 H3 scope cx fp) ifs1 tt1) (pl : ∀ x, foldedSetIterable iter1 cx x = pure x)
    (emits : ∀ (pins : List (Addr × Obj)) (τ : L2.St) (J : Hp) (r : Shared) (Nx1 : Hp → Prop) (R' : Shared → Prop) (Ec : Value → Shared → Prop), Inv (X.blk s3 H3 scope cx fp) pins τ J r → El τ J Nx1 → (∀ r' J', Inv (X.blk s3 H3 scope cx fp) pins τ J' r' → Nx1 J' → R' r') → wpAny (model X.prog X.w) X.A emit (fun _ r' => R' r') Ec r)
    (w0 : W 0 m0 H3)
    (each : ∀ i m H, W i m H → (Jt.stop i H ∧ Q (.ref D) H) ∨ (Jt.go i H ∧ ∃ Nx : Hp → Prop, (∀ H', Nx H' → ∃ m', m' < m ∧ W (i + 1) m' H') ∧ ∀ x H', Jt.yld i H x H' → g x (wipe σ vs) H' fun σ2 H2 => wipe σ2 vs = wipe σ vs ∧ tt σ2 H2 fun b H3 =>
      if b = true then wi1 σ2 H3 fun J1 H4 => ∃ W1 : Nat → Nat → Hp → Prop, (∃ m, W1 0 m H4) ∧ ∀ j k H, W1 j k H →
        (J1.stop j H ∧ Nx H) ∨ (J1.go j H ∧ ∃ Nx1 : Hp → Prop, (∀ H', Nx1 H' → ∃ k', k' < k ∧ W1 (j + 1) k' H') ∧ ∀ x H', J1.yld j H x H' → g1 x (wipe σ2 vs1) H' fun σ3 H5 => wipe σ3 vs1 = wipe σ2 vs1 ∧ tt1 σ3 H5 fun b H6 => if b = true then El σ3 H6 Nx1 else Nx1 H6)
      else Nx H3))
    (after : ∀ (r : Shared) (m : Str → Option Value) (J : Hp), Inv X pins σ J r → Q (.ref D) J → r.heap.Ns s3.heap.objs.size m → FpOk X pins J s3.heap.objs.size → R (.ok .next) r) :
    codeAny (model X.prog X.w) X.A (.compLoop C 0 (.ref ito) (.ref D) cx) R s4 := by
  have ow : ∀ (τ : L2.St) (J : Hp) (r : Shared), Inv (X.blk s3 H3 scope cx fp) [] τ J r → (∀ b ∈ fp, J b = none) → ∀ b ∈ fp, FpOk (X.blk s3 H3 scope cx fp) [] J b := fun τ J r Ir nJ b hb => ⟨nJ b hb, (Ir.ok.exf b hb).1, Ir.ok.exfs b hb, .inl hb, fun x c e => (Ir.ok.exf b hb).2 x c e, fun p hp => absurd (show p ∈ ([] : List (Addr × Obj)) ++ [] from hp) (by simp)⟩
  refine loop_fst T pl (fun n r => ∃ i J, Inv (X.blk s3 H3 scope cx fp) [] (wipe σ vs) J r ∧ turns i r.heap ∧ (∀ b ∈ fp, J b = none) ∧ W i n J) ?_ m0 ⟨0, H3, I4, at4, fun b hb => (f3 b hb).1.1, w0⟩
  rintro n r ⟨i, J, Ir, atr, nor, wr⟩
  rcases each i n J wr with ⟨halt, fine⟩ | ⟨go, Nx, next, act⟩
  · refine thnF (Tn.done (X.blk s3 H3 scope cx fp) rfl rfl rfl calm i [] r _ J (fun _ _ => False) Ir (ow _ _ _ Ir nor) atr halt) fun o r2 h2 => ?_
    obtain ⟨rfl, I6⟩ := h2
    have back : Inv X pins σ J r2 := I3.call' (ch := fp) I6.os I6.base I6.hok I6.bare fun b hb => ⟨(f3 b hb).1.2.2.2.1, (f3 b hb).1.2.1, (f3 b hb).1.2.2.2.2.1, (f3 b hb).1.2.2.2.2.2⟩
    have noC : J s3.heap.objs.size = none := by rw [← locC]; exact I6.free
    obtain ⟨m, hn, _⟩ := I6.loc
    exact after r2 m J back fine (by rw [← locC]; exact hn) (I3.fpOk (Nat.le_refl _) noC)
  · have one := turn_each (Ec := errE X.prog X.w X.A cx R) (Bx := X.blk s3 H3 scope cx fp) (bp := []) (vs := vs) (σ := σ) (Nx := Nx) (R := fun r => ∃ m, m < n ∧ ∃ i J, Inv (X.blk s3 H3 scope cx fp) [] (wipe σ vs) J r ∧ turns i r.heap ∧ (∀ b ∈ fp, J b = none) ∧ W i m J)
      (El := fun σ2 H3 Nx => wi1 σ2 H3 fun J1 H4 => ∃ W1 : Nat → Nat → Hp → Prop, (∃ m, W1 0 m H4) ∧ ∀ j k H, W1 j k H →
        (J1.stop j H ∧ Nx H) ∨ (J1.go j H ∧ ∃ Nx1 : Hp → Prop, (∀ H', Nx1 H' → ∃ k', k' < k ∧ W1 (j + 1) k' H') ∧ ∀ x H', J1.yld j H x H' → g1 x (wipe σ2 vs1) H' fun σ3 H5 => wipe σ3 vs1 = wipe σ2 vs1 ∧ tt1 σ3 H5 fun b H6 => if b = true then El σ3 H6 Nx1 else Nx1 H6))
      (AW := fun R' r => wpAny (model X.prog X.w) X.A (eval iter1 cx) (fun x r1 => wpAny (model X.prog X.w) X.A (pyIter x) (fun it1 r2 => codeAny (model X.prog X.w) X.A (.compStart C 1 it1 (.ref D) cx) (fun q s' => match q with
          | .ok _ => R' s'
          | .error _ => False) r2) (errE X.prog X.w X.A cx R) r1) (errE X.prog X.w X.A cx R) r)
      Tn calm rfl aim tests ow Ir atr nor go act (fun pins τ J r R' Ir2 wiped el out => ?_) (fun r J Ir2 at2 no2 nx => ?_)
    · refine thn one fun o r2 h2 => ?_
      obtain ⟨v, rfl, h2⟩ := h2
      refine thn h2 fun _ r3 h3 => thn h3 fun _ r4 h4 => thn h4 fun ok r5 h5 => ?_
      cases ok with
      | false => exact h5
      | true => exact h5
    · refine thnF (walks1.run pins r τ J _ Ir2 el) fun xv r1 h1 => thnF h1 fun itv r2 h2 => ?_
      obtain ⟨it1, fp1, turns1, J1, H11, rfl, I11, T1, at11, f11, W1, ⟨m1, w1⟩, each1⟩ := h2
      have ow1 : ∀ (τ : L2.St) (J : Hp) (r : Shared), Inv (X.blk s3 H3 scope cx fp) pins τ J r → (∀ b ∈ fp1, J b = none) → ∀ b ∈ fp1, FpOk (X.blk s3 H3 scope cx fp) pins J b := fun _ _ _ _ no b hb => ⟨no b hb, (f11 b hb).2⟩
      have inner : codeAny (model X.prog X.w) X.A (.compLoop C 1 (.ref it1) (.ref D) cx) (fun q s' => match q with
          | .ok _ => R' s'
          | .error _ => False) r2 := by
        refine loop_snd T (fun k r => ∃ j J, Inv (X.blk s3 H3 scope cx fp) pins (wipe τ vs1) J r ∧ turns1 j r.heap ∧ (∀ b ∈ fp1, J b = none) ∧ W1 j k J) ?_ m1 ⟨0, H11, I11.weak (wipe_length _ _) (fun j v e => (wipe_some e).1), at11, fun b hb => (f11 b hb).1, w1⟩
        rintro k r3 ⟨j, J3, I3', at3, no3, w3⟩
        rcases each1 j k J3 w3 with ⟨halt1, nx⟩ | ⟨go1, Nx1, next1, act1⟩
        · refine thnF (T1.done (X.blk s3 H3 scope cx fp) rfl rfl rfl calm j pins r3 _ J3 (fun _ _ => False) I3' (ow1 _ _ _ I3' no3) at3 halt1) fun o r4 h4 => ?_
          obtain ⟨rfl, I4'⟩ := h4
          exact out r4 J3 _ I4' (knows_in wiped sub) nx
        · have one1 := turn_each (Ec := errE X.prog X.w X.A cx fun q s' => match q with
              | .ok _ => R' s'
              | .error _ => False) (Bx := X.blk s3 H3 scope cx fp) (bp := pins) (vs := vs1) (σ := τ) (Nx := Nx1) (R := fun r => ∃ m, m < k ∧ ∃ j J, Inv (X.blk s3 H3 scope cx fp) pins (wipe τ vs1) J r ∧ turns1 j r.heap ∧ (∀ b ∈ fp1, J b = none) ∧ W1 j m J)
            (El := El) (AW := fun R2 r => wpAny (model X.prog X.w) X.A emit (fun _ r' => R2 r') (errE X.prog X.w X.A cx fun q s' => match q with
              | .ok _ => R' s'
              | .error _ => False) r) T1 calm rfl aim1 tests1 ow1 I3' at3 no3 go1 act1 (fun pins2 τ2 J2 r2 R2 I2 wiped2 el2 out2 => ?_) (fun r J Ir5 at5 no5 nx5 => ?_)
          · refine thn one1 fun o r4 h4 => ?_
            obtain ⟨v, rfl, h4⟩ := h4
            refine thn h4 fun _ r5 h5 => thn h5 fun _ r6 h6 => thn h6 fun ok r7 h7 => ?_
            cases ok with
            | false => exact h7
            | true => exact h7
          · exact emits pins2 τ2 J2 r2 Nx1 R2 _ I2 el2 fun r' J' I' nx' => out2 r' J' τ2 I' (knows_wipe wiped2) nx'
          · obtain ⟨m, less, w'⟩ := next1 J nx5
            exact ⟨m, less, j + 1, J, Ir5, at5, no5, w'⟩
      exact start_snd T inner (T1.self X.A 0 _ _ _ at11 inner)
    · obtain ⟨m, less, w'⟩ := next J nx
      exact ⟨m, less, i + 1, J, Ir2, at2, no2, w'⟩
end
end DM

namespace DM
open PySem PySem.Spec PyProof.Rows L2 PpSet
/-! ### sets of such members as they lie on the heap -/
mutual
theorem reads_nk {h : Heap} : ∀ (k : NestedKey) (v : Value) (as : List Addr), Reads h v k.data as → NestedIs h k v ∧ (nkNum k = true → as = [])
  | .none, _, _, r => by cases r; exact ⟨.none, fun _ => rfl⟩
  | .num _, _, _, r => by cases r; exact ⟨.int _ _, fun _ => rfl⟩
  | .text _, _, _, r => by cases r; exact ⟨.text _ _, fun _ => rfl⟩
  | .tup ks, _, _, r => by
    have r' : Reads h _ (.tuple (NestedKey.datas ks)) _ := r
    cases r' with
    | tuple ho hc hd all =>
      obtain ⟨a, b⟩ := reads_nks ks _ _ all
      exact ⟨.tup ho hc hd a, b⟩
theorem reads_nks {h : Heap} : ∀ (ks : List NestedKey) (vs : List Value) (as : List Addr), ReadsAll h vs (NestedKey.datas ks) as → NestedAll h ks vs ∧ (nkNums ks = true → as = [])
  | [], _, _, r => by cases r; exact ⟨.nil, fun _ => rfl⟩
  | k :: ks, _, _, r => by
    have r' : ReadsAll h _ (NestedKey.data k :: NestedKey.datas ks) _ := r
    cases r' with
    | cons r1 r2 =>
      obtain ⟨a, b⟩ := reads_nk k _ _ r1
      obtain ⟨c, d⟩ := reads_nks ks _ _ r2
      refine ⟨.cons a c, fun z => ?_⟩
      obtain ⟨z1, z2⟩ := Bool.and_eq_true_iff.mp (show (nkNum k && nkNums ks) = true from z)
      rw [b z1, d z2]
      rfl
end
mutual
theorem nk_depth : ∀ k : NestedKey, PyData.depth k.data = k.depth
  | .none => rfl
  | .num _ => rfl
  | .text _ => rfl
  | .tup ks => by
    show PyData.depth (.tuple (NestedKey.datas ks)) = NestedKey.depthAll ks + 1
    rw [PyData.depth, nks_depth ks]
theorem nks_depth : ∀ ks : List NestedKey, PyData.depthAll (NestedKey.datas ks) = NestedKey.depthAll ks
  | [] => rfl
  | k :: ks => by
    show PyData.depthAll (NestedKey.data k :: NestedKey.datas ks) = max (NestedKey.depth k) (NestedKey.depthAll ks)
    rw [PyData.depthAll, nk_depth k, nks_depth ks]
end
def KeyH (K : PySem.W.Frag) (H : Hp) (b : Addr) (k : NestedKey) : Prop := Dp K H (.ref b) k.data ∧ k.depth ≤ 8 ∧ nkNum k = true
theorem KeyH.reads {X : Cx} {pins : List (Addr × Obj)} {σ : L2.St} {H : Hp} {s : Shared} {b : Addr} {k : NestedKey} (x : KeyH X.K H b k) (I : Inv X pins σ H s) : KeyG s.heap k b ∧ Reads s.heap (.ref b) k.data [] := by
  obtain ⟨as, r⟩ := Dp.reads I k.data (.ref b) (.ref b) x.1 rfl
  obtain ⟨n, e⟩ := reads_nk k _ as r
  rw [e x.2.2] at r
  exact ⟨⟨n, x.2⟩, r⟩
structure SetG0 (w : World) (h : Heap) (a : Addr) (L : List MemG) : Prop where
  ex : ∃ (es : Array (Int × Value)) (ep : Nat) (t : SetTable), (∃ o, h.get? a = some o ∧ o.ExactSet ∧ o.data = .set es ep t) ∧ es.toList = gRows w L ∧ TabG t (L.map fun p => p.2.hash w) ∧ (L.map (·.2)).Nodup ∧ t.plain = true ∧ (w.params.followText "set-order" = true ∨ t.led = true) ∧ L.length * 5 < t.mask * 3 ∧ L.length < 4000 ∧ Cap t.mask
def SetGO (w : World) (a : Addr) (L : List MemG) : HO := .ext fun h => SetG0 w h a L
theorem SetGR.g0 {w : World} {h : Heap} {a : Addr} {L : List MemG} {es : Array (Int × Value)} {ep : Nat} {t : SetTable} (R : SetGR w h a L es ep t) : SetG0 w h a L := ⟨es, ep, t, R.obj, R.rws, R.tab, R.nd, R.pln, R.led, R.room, R.few, R.cap⟩
theorem SetG0.all {w : World} {h : Heap} {a : Addr} {L : List MemG} (R : SetG0 w h a L) (keys : ∀ p ∈ L, KeyG h p.2 p.1) : ∃ es ep t, SetGR w h a L es ep t := by
  obtain ⟨es, ep, t, h1, h2, h3, h4, h5, h6, h7, h8, h9⟩ := R.ex
  exact ⟨es, ep, t, { obj := h1, rws := h2, tab := h3, nd := h4, keys := keys, pln := h5, led := h6, room := h7, few := h8, cap := h9 }⟩
theorem setGO_new {P : Program} {w : World} {H : Hp} {h : Heap} {a : Addr} {L : List MemG} (R : SetG0 w h a L) : ObjOk P w H h a (SetGO w a L) := by
  obtain ⟨es, ep, t, ⟨o, ho, _⟩, _⟩ := id R.ex
  refine ⟨R, ⟨o, ho⟩, fun h1 h2 p k => ?_⟩
  obtain ⟨es', ep', t', ⟨o', ho', r'⟩, q'⟩ := SetG0.ex p
  exact ⟨es', ep', t', ⟨o', k o' ho', r'⟩, q'⟩
abbrev emptySet (w : World) : Obj := { cls := .type "set", dict := none, data := .set #[] 0 (.fresh 0 0 (!w.params.followText "set-order")) }
theorem setG_fresh {w : World} {h : Heap} {a : Addr} (ho : h.get? a = some (emptySet w)) : SetG0 w h a [] := by
  refine ⟨#[], 0, .fresh 0 0 (!w.params.followText "set-order"), ⟨_, ho, ⟨rfl, rfl, rfl⟩, rfl⟩, rfl, { up := List.Pairwise.nil, nod := rfl, same := rfl, msk := ⟨3, by decide, by show 7 + 1 = 2 ^ 3; decide⟩, low := fun x hx => (by cases hx), road := fun i h j hi => (by simp at hi) }, List.nodup_nil, rfl, ?_, by show 0 * 5 < 7 * 3; decide, by decide, .inl rfl⟩
  cases e : w.params.followText "set-order" with
  | true => exact .inl rfl
  | false => exact .inr rfl
/-- M: the set L with the member (b, k) put in, if it is none yet -/
def PutG (L : List MemG) (b : Addr) (k : NestedKey) (M : List MemG) : Prop := (k ∈ L.map (·.2) → M = L) ∧ (k ∉ L.map (·.2) → M.Perm ((b, k) :: L))
theorem setG_add {X : Cx} {pins : List (Addr × Obj)} {σ : L2.St} {H : Hp} {s : Shared} {E : Value → Shared → Prop} {D b : Addr} {L : List MemG} {k : NestedKey} {Q : Value → Shared → Prop} (hu : X.A.units + 64 < cLine) (I : Inv X pins σ H s) (hD : H D = some (SetGO X.w D L)) (hL : ∀ p ∈ L, KeyH X.K H p.1 p.2) (hb : KeyH X.K H b k) (few : L.length + 1 < 4000)
    (h : ∀ s' M, PutG L b k M → Inv X pins σ (upd H D (SetGO X.w D M)) s' → Q .none s') : wpAny (model X.prog X.w) X.A (call (.builtin "set.add") [.ref D, .ref b]) Q E s := by
  obtain ⟨es, ep, t, R⟩ := SetG0.all ((I.hok D _ hD).1 : SetG0 X.w s.heap D L) fun p hp => ((hL p hp).reads I).1
  obtain ⟨o, ho, hex, hd⟩ := R.obj
  have ty : s.TypeIs (.ref D) "set" := ⟨o, ho, hex.1⟩
  have hx := (hb.reads I).1
  refine wpAny_call_entry F.slot_set_add ty F.entry_set_add ?_ (F.args_set_add_2 _ _)
  unfold Builtin.«set.add» Builtin.Frozenset.oneOther
  simp only [List.isEmpty_nil, bind_assoc]
  unfold Builtin.Frozenset.addrOf setAdd
  refine wpAny_bind (wpAny_pure ?_)
  try dsimp only
  refine wpAny_bind (wpAny_pure ?_)
  try dsimp only
  refine wpAny_bind ?_
  refine wpAny_holding ?_
  refine wpAny_bind ((nestedKind X.prog X.w).pyHash (show X.A.units + 1 + 8 < cLine by omega) hx.is ?_)
  refine addG (P := X.prog) (s := { s with toks := s.toks + k.draws }) R hx (show X.A.units + 1 + 8 < cLine by omega) few fun _ h' M es' ep' t' sb R' c1 c2 => ?_
  show wpAny _ _ (ret Value.none) _ _ _
  obtain ⟨o', ho', _⟩ := R'.obj
  exact wpAny_pure ⟨_, rfl, h _ M ⟨c1, c2⟩ (I.write (e := D) (t' := s.toks + k.draws) (by rw [hD]; trivial) (.inl rfl) (fun b u hb hu => (sb.2 b hb).trans hu) ⟨o', ho'⟩ (setGO_new R'.g0))⟩
section
variable {X : Cx}
/-- what is asked of one member that a comprehension puts in -/
def elSet (w : World) (K : PySem.W.Frag) (te : TE) (D : Addr) : L2.St → Hp → (Hp → Prop) → Prop := fun σ H Nx => te σ H fun y H4 => ∃ (L : List MemG) (k : NestedKey) (b : Addr), y = .ref b ∧ H4 D = some (SetGO w D L) ∧ (∀ p ∈ L, KeyH K H4 p.1 p.2) ∧ KeyH K H4 b k ∧ L.length + 1 < 4000 ∧ ∀ M, PutG L b k M → Nx (upd H4 D (SetGO w D M))
/-- {e for a in x for b in y} -/
theorem pe_setC2 {elt tg iter tg1 iter1 : Expr} {ifs ifs1 : List Expr} {scope : Scope} {own : List (Str × Nat)} {vs1 : List Nat} {pos : Pos} {wi wi1 : TI} {g g1 : TG} {tt tt1 : TT} {te : TE} (calm : X.calm = true) (hu : X.A.units + 64 < cLine) (ndN : X.N.Nodup) (walks : PI X tg iter wi) (bl : BlkOk X.N X.env.scope scope own) (sub : ∀ i ∈ vs1, i ∈ own.map (·.2))
    (aim : ∀ (s : Shared) (H : Hp) (C : Addr) (cl : List (Str × Addr)) (fp : List Addr), PG (X.blk s H scope (compEnvC scope cl C X.env) fp) tg g) (tests : ∀ (s : Shared) (H : Hp) (C : Addr) (cl : List (Str × Addr)) (fp : List Addr), PTs (X.blk s H scope (compEnvC scope cl C X.env) fp) ifs tt)
    (walks1 : ∀ (s : Shared) (H : Hp) (C : Addr) (cl : List (Str × Addr)) (fp : List Addr), PI (X.blk s H scope (compEnvC scope cl C X.env) fp) tg1 iter1 wi1)
    (aim1 : ∀ (s : Shared) (H : Hp) (C : Addr) (cl : List (Str × Addr)) (fp : List Addr), PG (X.blk s H scope (compEnvC scope cl C X.env) fp) tg1 g1) (tests1 : ∀ (s : Shared) (H : Hp) (C : Addr) (cl : List (Str × Addr)) (fp : List Addr), PTs (X.blk s H scope (compEnvC scope cl C X.env) fp) ifs1 tt1)
    (eltE : ∀ (s : Shared) (H : Hp) (C : Addr) (cl : List (Str × Addr)) (fp : List Addr), PE (X.blk s H scope (compEnvC scope cl C X.env) fp) elt te)
    (plain : ∀ x, foldedSetIterable iter X.env x = pure x := by intro _; rfl) (plain1 : ∀ env x, foldedSetIterable iter1 env x = pure x := by intro _ _; rfl) :
    PE X (.SetComp elt [⟨tg, iter, ifs, 0⟩, ⟨tg1, iter1, ifs1, 0⟩] scope pos) (tTwo wi g tt wi1 g1 tt1 (elSet X.w X.K te) (fun D => SetGO X.w D []) (own.map (·.2)) vs1) := by
  refine ⟨fun pins s σ H Q I want => ?_⟩
  rw [eval_SetComp]
  have frees : ∀ y ∈ scope.names, y.2 = .free → ∃ c, X.env.cells.lookup y.1 = some c := fun y hy e => (bl.free y hy e).elim (fun k => I.ok.has _ (.inl k)) fun k => I.ok.has _ (.inr k)
  refine wpAny_comprehension_free rfl plain (closure_ok frees) bl.kind (fun y hy e => by rw [bl.uniq y hy, e]) (thn (walks.run pins s σ H _ I want) fun xv s1 h1 => thn h1 fun itv s2 h2 => ?_)
  obtain ⟨ito, fp, turns, Jt, H2, rfl, I2, Tn, at2, f2, each⟩ := h2
  refine newSet_ok (newEnv_comp ?_)
  obtain ⟨W, ⟨m0, w0⟩, each⟩ := each s2.heap.objs.size (I2.hok.fresh (Nat.le_refl _))
  have fresh : (s2.heap.push (emptySet X.w)).get? s2.heap.objs.size = some (emptySet X.w) := Heap.get?_push_size _ rfl
  have I3 : Inv X pins σ (upd H2 s2.heap.objs.size (SetGO X.w s2.heap.objs.size [])) { s2 with heap := s2.heap.push (emptySet X.w), toks := s2.toks } := I2.laid (fun b o e => Heap.get?_push_of_some _ e) (Nat.le_refl _) (setGO_new (setG_fresh fresh))
  have f3 : ∀ b ∈ fp, FpOk X pins (upd H2 s2.heap.objs.size (SetGO X.w s2.heap.objs.size [])) b ∧ b < (s2.heap.push (emptySet X.w)).objs.size := fun b hb => by
    obtain ⟨o, e, _⟩ := Tn.obj _ _ at2 b hb
    have less := Heap.lt_size e
    exact ⟨⟨by rw [upd_ne (Nat.ne_of_lt less)]; exact (f2 b hb).1, (f2 b hb).2⟩, by rw [Heap.size_push]; exact Nat.lt_succ_of_lt less⟩
  have at3 : turns 0 (s2.heap.push (emptySet X.w)) := Tn.keep _ _ _ at2 fun b _ o e => Heap.get?_push_of_some _ e
  have I4 := block_start I3 bl ndN f3
  have at4 : turns 0 (pushCells ((s2.heap.push (emptySet X.w)).push { cls := .type "dict", data := .dict #[] }) scope.names) := Tn.keep _ _ _ at3 fun b _ o e => pushCells_keeps _ _ _ _ (Heap.get?_push_of_some _ e)
  have T : ∀ cx : Env, TwoFors (.SetComp elt [⟨tg, iter, ifs, 0⟩, ⟨tg1, iter1, ifs1, 0⟩] scope pos) tg iter tg1 iter1 ifs ifs1 (.ref s2.heap.objs.size) cx (do let v ← eval elt cx; standAt elt.pos; let _ ← call (.builtin "set.add") [.ref s2.heap.objs.size, v]) := fun cx => { cl := rfl, ul := fun _ _ _ => rfl, us := fun _ _ _ => rfl, dl := fun _ _ _ _ => rfl, ds := fun _ _ _ _ => rfl, fst := fun _ => rfl, snd := fun _ => rfl }
  have going := two_loop (R := compPost (model X.prog X.w) X.A X.xe none (EP X pins σ Q) (.ref s2.heap.objs.size) (s2.heap.push (emptySet X.w)).objs.size) (T _) calm sub I3 f3 I4 rfl Tn at4 (aim _ _ _ _ _) (tests _ _ _ _ _) (walks1 _ _ _ _ _) (aim1 _ _ _ _ _) (tests1 _ _ _ _ _) (plain1 _) (fun pins τ J r Nx1 R' Ec Ir el out => ?_) w0 each fun r m J Ir fine hn fo => ⟨m, hn, fun h'' sb => ?_⟩
  · exact codeAny_compStart_set going (Tn.self X.A 0 _ _ _ at4 going)
  · refine wpAny_bind (thnF ((eltE _ _ _ _ _).run pins r τ J _ Ir el) fun v r1 h1 => ?_)
    obtain ⟨y, J1, I1, ry, L, k, b, rfl, hD, hL, hb, few, nx⟩ := h1
    obtain rfl : v = Value.ref b := ry
    refine wpAny_bind (wpAny_standAt (wpAny_bind (setG_add (X := X.blk _ _ _ _ _) hu I1 hD hL hb few fun r2 M put I2' => ?_)))
    exact wpAny_pure (out r2 _ I2' (nx M put))
  · obtain ⟨o0, o1, o2, o3, o4, o5⟩ := fo
    exact ⟨.ref _, J, Ir.turned (t' := r.toks) (fun b o hb e => (sb.2 b hb).trans e) o0 o1 o3 o4 o5, rfl, fine⟩
end
/-! ### sorted(set) -/
theorem memG_each : ∀ {L : List MemG}, PySem.W.EachIs (fun v (p : MemG) => v = Value.ref p.1) (L.map fun p => Value.ref p.1) L
  | [] => .nil
  | _ :: _ => .cons rfl memG_each
theorem each_memG : ∀ {L : List MemG} {vs : List Value}, PySem.W.EachIs (fun v (p : MemG) => v = Value.ref p.1) vs L → vs = L.map fun p => Value.ref p.1
  | [], _, .nil => rfl
  | _ :: _, _, .cons e t => by rw [List.map_cons, e, each_memG t]
theorem readsG_each {h : Heap} {a : Addr} : ∀ {L : List MemG}, (∀ p ∈ L, Reads h (.ref p.1) p.2.data []) → PySem.W.EachIs (fun v (p : MemG) => ∃ as, Reads h v p.2.data as ∧ a ∉ as) (L.map fun p => Value.ref p.1) L
  | [], _ => .nil
  | p :: _, hL => .cons ⟨[], hL p List.mem_cons_self, by simp⟩ (readsG_each fun q hq => hL q (List.mem_cons_of_mem _ hq))
theorem vals_memG : ∀ L : List MemG, Vals (L.map fun q => V.ref q.1) (L.map fun q => Value.ref q.1)
  | [] => .nil
  | _ :: L => .cons rfl (vals_memG L)
theorem sorted_memG {P : Program} {w : World} {A : Around} {E : Value → Shared → Prop} {s : Shared} {a : Addr} {L : List MemG} {es : Array (Int × Value)} {ep : Nat} {t : SetTable} {Q : Value → Shared → Prop} (R : SetGR w s.heap a L es ep t) (hh : A.handled = none) (hu : A.units + 20 < cLine) (rd : ∀ p ∈ L, Reads s.heap (.ref p.1) p.2.data []) (al : PySem.W.AllAlike (L.map fun p => p.2.data)) (so : ∀ p ∈ L, ∃ d ds, p.2.data = .tuple (d :: ds))
    (hQ : ∀ s' p (out : Array Value) (c : Nat) (M : List MemG), (∀ b o, s.heap.get? b = some o → s'.heap.get? b = some o) → s'.gens = s.gens → s'.os = s.os → s.heap.objs.size ≤ p →
      s'.heap.get? p = some (seqObj "list" out c) → out.toList = M.map (fun q => Value.ref q.1) → M.Perm L → M.Pairwise (fun q r => PySem.W.dataLt r.2.data q.2.data = false) → Q (.ref p) s') : wpAny (model P w) A (call (.builtin "sorted") [.ref a]) Q E s := by
  obtain ⟨o, ho, hex, hd⟩ := R.obj
  have few := R.few
  refine Calls.call_function_entry kind_sorted plain_sorted entry_sorted (args_sorted1 _) ?_
  unfold Builtin.«sorted»
  refine wpAny_bind (m := checkCount "sorted" 1 1 _) (wpAny_pure ?_)
  refine wpAny_bind (collect_set (A := A.in1) hh ⟨o, ho, hex.1, hd⟩ R.fits (by have := rows_len R.rws; unfold scanBound; omega) R.tab.up R.led fun s1 vs k1 hz g1 o1 pm => ?_)
  have hes : es.toList.map (·.2) = L.map fun q => Value.ref q.1 := by
    rw [R.rws]
    unfold gRows
    rw [List.map_map]
    rfl
  obtain ⟨N, pN, rfl⟩ := perm_map_from pm L hes
  have inL : ∀ p ∈ N, p ∈ L := fun p hp => pN.mem_iff.mp hp
  have lN : N.length < 4000 := by rw [pN.length_eq]; exact few
  refine wpAny_bind (wpAny_newList ?_ (by rw [List.length_map, sizeLine_eq]; omega))
  have hoL : (s1.heap.push (seqObj "list" (N.map fun q => Value.ref q.1).toArray 0)).get? s1.heap.objs.size = some (seqObj "list" (N.map fun q => Value.ref q.1).toArray 0) := Heap.get?_push_size _ rfl
  have rdN : ∀ p ∈ N, Reads (s1.heap.push (seqObj "list" (N.map fun q => Value.ref q.1).toArray 0)) (.ref p.1) p.2.data [] := fun p hp => Reads.keeps (fun b u e => Heap.get?_push_of_some _ (k1 b u e)) (rd p (inL p hp))
  have alN : PySem.W.AllAlike (N.map fun p => p.2.data) := fun d hd d' hd' => al d ((pN.map _).mem_iff.mp hd) d' ((pN.map _).mem_iff.mp hd')
  have soN : PySem.W.Sortable (N.map fun p => p.2.data) := .inl fun d hd => by
    obtain ⟨p, hp, rfl⟩ := List.mem_map.mp hd
    exact so p (inL p hp)
  refine wpAny_bind (wpAny_holding (PySem.W.list_sort_data (s := { s1 with heap := s1.heap.push (seqObj "list" (N.map fun q => Value.ref q.1).toArray 0) }) (bs := N) (enc := fun p => p.2.data) (R := fun v p => v = Value.ref p.1) hoL memG_each (readsG_each rdN) alN soN (by rw [sizeLine_eq]; omega) (fun p hp => ?_) fun out lo eo => ?_))
  · have z : PyData.depth p.2.data ≤ 8 := by rw [nk_depth]; exact (R.keys p (inL p hp)).2.1
    show A.units + 1 + 1 + PyData.depth p.2.data < cLine
    omega
  · obtain ⟨c, at'⟩ := sortedHeap_at (vs := N.map fun q => Value.ref q.1) (out := out.toArray) hoL
    have tot := PySem.W.sortLe_total (PyProof.Rows.listOrd PyProof.Rows.itemOrd) false fun b : MemG => PySem.W.keyToks b.2.data
    have pw := PySem.W.sort_pairwise tot N
    have pm2 := List.mergeSort_perm N (PySem.W.dataLe false fun p : MemG => p.2.data)
    refine wpAny_pure ⟨_, rfl, hQ _ s1.heap.objs.size out.toArray c _ (fun b u e => ?_) g1 o1 hz at' (by simpa using each_memG eo) (pm2.trans pN) (pw.imp fun {x y} z => ?_)⟩
    · have q := k1 b u e
      have lt := Heap.lt_size q
      show (sortedHeap (s1.heap.push (seqObj "list" (N.map fun q => Value.ref q.1).toArray 0)) s1.heap.objs.size (N.map fun q => Value.ref q.1) out.toArray).get? b = some u
      rw [sortedHeap_old (Nat.ne_of_lt lt) (by rw [size_push']; exact Nat.lt_succ_of_lt lt)]
      exact Heap.get?_push_of_some _ q
    · have z' : (!PySem.W.dataLt y.2.data x.2.data) = true := z
      simpa using z'
def rSortG (w : World) (K : PySem.W.Frag) : List V → Hp → VK → Prop := fun vs H Q => ∃ (a : Addr) (L : List MemG), vs = [V.ref a] ∧ H a = some (SetGO w a L) ∧ (∀ p ∈ L, KeyH K H p.1 p.2) ∧ PySem.W.AllAlike (L.map fun p => p.2.data) ∧ (∀ p ∈ L, ∃ d ds, p.2.data = .tuple (d :: ds)) ∧
  ∀ (M : List MemG) (p : Addr), M.Perm L → (M.map (·.2)).Nodup → M.Pairwise (fun q r => PySem.W.dataLt r.2.data q.2.data = false) → H p = none → Q (.ref p) (upd H p (.lst (M.map fun q => V.ref q.1)))
theorem cr_sortG {X : Cx} (hc : X.calm = true) (hu : X.A.units + 64 < cLine) : CallR X (.builtin "sorted") (rSortG X.w X.K) := by
  intro pins s σ H vs us Q I r h
  obtain ⟨a, L, rfl, ha, hk, al, so, q⟩ := h
  obtain ⟨es, ep, t, R⟩ := SetG0.all ((I.hok a _ ha).1 : SetG0 X.w s.heap a L) fun p hp => ((hk p hp).reads I).1
  have rd : ∀ p ∈ L, Reads s.heap (.ref p.1) p.2.data [] := fun p hp => ((hk p hp).reads I).2
  rw [Vals.ref1 r]
  refine sorted_memG R (I.ok.hd hc) (by omega) rd al so fun s' p out c M k g o hp hg hout pm pw => ?_
  have lM : M.length < 4000 := by rw [pm.length_eq]; exact R.few
  have len : (M.map fun q => V.ref q.1).length ≤ sizeLine := by rw [List.length_map, sizeLine_eq]; omega
  have new : H p = none := I.hok.fresh hp
  have hv : Vals (M.map fun q => V.ref q.1) out.toList := by rw [hout]; exact vals_memG M
  have J : Inv X pins σ (upd H p (.lst (M.map fun q => V.ref q.1))) { s with heap := s'.heap, gens := s'.gens, drawn := s'.drawn, toks := s'.toks } :=
    I.call (ch := []) (Un.laid k hp new) (I.hok.laid k hp ⟨len, out.toList, c, hv, hg⟩) (by rw [g]; exact I.bare) (fun _ z => nomatch z)
  have e : s' = { s with heap := s'.heap, gens := s'.gens, drawn := s'.drawn, toks := s'.toks } := by
    cases s'
    cases s
    cases o
    rfl
  rw [e]
  exact ⟨.ref p, _, J, rfl, q M p pm ((pm.map (·.2)).nodup_iff.mpr R.nd) pw new⟩
def ptKey (p : Int × Int) : NestedKey := .tup [.num p.1, .num p.2]
end DM

namespace DM
open PySem L2
/-- a dict of pairs, each True: another one put in -/
def addP (S : List (Int × Int)) (p : Int × Int) : List (Int × Int) := if p ∈ S then S else S ++ [p]
theorem put_tab (S : List (Int × Int)) (p : Int × Int) : putK (tabP S) (keyP p) (.bl true) = tabP (addP S p) := by
  unfold putK addP
  by_cases c : p ∈ S
  · rw [if_pos c, if_pos (by
      rw [List.any_eq_true]
      exact ⟨(keyP p, .bl true), List.mem_map.mpr ⟨p, c, rfl⟩, by simp⟩)]
    unfold tabP
    rw [List.map_map]
    refine List.map_congr_left fun q _ => ?_
    show (if keyP q = keyP p then (keyP q, V.bl true) else (keyP q, V.bl true)) = (keyP q, V.bl true)
    split <;> rfl
  · rw [if_neg c, if_neg (by
      intro z
      rw [List.any_eq_true] at z
      obtain ⟨x, hx, e⟩ := z
      obtain ⟨q, hq, rfl⟩ := List.mem_map.mp hx
      have e' : keyP q = keyP p := by simpa using e
      exact c (keyP_inj.mp e' ▸ hq))]
    unfold tabP
    rw [List.map_append]
    rfl
theorem addP_nd {S : List (Int × Int)} {p : Int × Int} (h : S.Nodup) : (addP S p).Nodup := by
  unfold addP
  split
  · exact h
  · rename_i c
    exact List.nodup_append.mpr ⟨h, by simp, fun a ha b' hb' => by rw [List.mem_singleton.mp hb']; exact fun z => c (z ▸ ha)⟩
theorem addP_mem {S : List (Int × Int)} {p q : Int × Int} : q ∈ addP S p ↔ q ∈ S ∨ q = p := by
  unfold addP
  split
  · rename_i c
    exact ⟨.inl, fun z => z.elim id fun e => e ▸ c⟩
  · rw [List.mem_append, List.mem_singleton]
theorem nodup_len {α : Type} [BEq α] [LawfulBEq α] : ∀ {A B : List α}, A.Nodup → (∀ x ∈ A, x ∈ B) → A.length ≤ B.length
  | [], _, _, _ => Nat.zero_le _
  | a :: A, B, nd, sub => by
    obtain ⟨n1, n2⟩ := List.nodup_cons.mp nd
    have aB := sub a List.mem_cons_self
    have le := nodup_len (B := B.erase a) n2 fun x hx => (List.mem_erase_of_ne fun z => by rw [z] at hx; exact n1 hx).mpr (sub x (List.mem_cons_of_mem _ hx))
    have := (List.perm_cons_erase aB).length_eq
    rw [List.length_cons] at this ⊢
    omega
theorem keys_prs {H : Hp} : ∀ {S : List (Int × Int)} {bs : List Addr}, IsKeys H (tabP S) bs → Prs H (bs.map V.ref) S
  | [], _, .nil => .nil
  | _ :: _, _, .cons h t => .cons ⟨_, rfl, h⟩ (keys_prs t)
end DM

namespace DM
open PySem PySem.Spec PyProof.Rows L2 PpSet
section
variable {X : Cx}
/-- {e for a in x}, sets of nested tuples of numbers -/
def tSetC1 (w : World) (K : PySem.W.Frag) (wi : TI) (g : TG) (tt : TT) (te : TE) (vs : List Nat) : TE := fun σ H Q => wi σ H fun J H1 => ∀ D, H1 D = none → ∃ W : Nat → Nat → Hp → Prop, (∃ m, W 0 m (upd H1 D (SetGO w D []))) ∧ ∀ i m H, W i m H →
  (J.stop i H ∧ Q (.ref D) H) ∨ (J.go i H ∧ ∃ Nx : Hp → Prop, (∀ H', Nx H' → ∃ m', m' < m ∧ W (i + 1) m' H') ∧ ∀ x H', J.yld i H x H' → g x (wipe σ vs) H' fun σ2 H2 => wipe σ2 vs = wipe σ vs ∧ tt σ2 H2 fun b H3 =>
    if b = true then te σ2 H3 fun y H4 => ∃ (L : List MemG) (k : NestedKey) (b : Addr), y = .ref b ∧ H4 D = some (SetGO w D L) ∧ (∀ p ∈ L, KeyH K H4 p.1 p.2) ∧ KeyH K H4 b k ∧ L.length + 1 < 4000 ∧ ∀ M, PutG L b k M → Nx (upd H4 D (SetGO w D M)) else Nx H3)
theorem setC1_loop {elt tg iter : Expr} {ifs : List Expr} {scope : Scope} {pos : Pos} {g : TG} {tt : TT} {te : TE} {vs : List Nat} {σ : L2.St} {H3 : Hp} {s3 s4 : Shared} {fp : List Addr} {turns : Nat → Heap → Prop} {Jt : It} {ito D : Addr} {cx : Env} {W : Nat → Nat → Hp → Prop} {m0 : Nat} {Q : VK} {pins : List (Addr × Obj)} {Qf : Value → Shared → Prop} {use : Option (Value → Sem Unit)}
    (calm : X.calm = true) (hu : X.A.units + 64 < cLine) (I3 : Inv X pins σ H3 s3) (f3 : ∀ b ∈ fp, FpOk X pins H3 b ∧ b < s3.heap.objs.size) (I4 : Inv (X.blk s3 H3 scope cx fp) [] (wipe σ vs) H3 s4) (locC : cx.locals = s3.heap.objs.size) (Tn : Turn X.prog X.w X.K tg Jt fp ito turns) (at4 : turns 0 s4.heap)
    (aim : PG (X.blk s3 H3 scope cx fp) tg g) (tests : PTs (X.blk s3 H3 scope cx fp) ifs tt) (eltE : PE (X.blk s3 H3 scope cx fp) elt te) (w0 : W 0 m0 H3)
    (each : ∀ i m H, W i m H → (Jt.stop i H ∧ Q (.ref D) H) ∨ (Jt.go i H ∧ ∃ Nx : Hp → Prop, (∀ H', Nx H' → ∃ m', m' < m ∧ W (i + 1) m' H') ∧ ∀ x H', Jt.yld i H x H' → g x (wipe σ vs) H' fun σ2 H2 => wipe σ2 vs = wipe σ vs ∧ tt σ2 H2 fun b H3 =>
      if b = true then te σ2 H3 fun y H4 => ∃ (L : List MemG) (k : NestedKey) (b : Addr), y = .ref b ∧ H4 D = some (SetGO X.w D L) ∧ (∀ p ∈ L, KeyH X.K H4 p.1 p.2) ∧ KeyH X.K H4 b k ∧ L.length + 1 < 4000 ∧ ∀ M, PutG L b k M → Nx (upd H4 D (SetGO X.w D M)) else Nx H3))
    (after : ∀ (r : Shared) (m : Str → Option Value) (J : Hp), Inv X pins σ J r → Q (.ref D) J → r.heap.Ns s3.heap.objs.size m → FpOk X pins J s3.heap.objs.size → compPost (model X.prog X.w) X.A X.xe use Qf (.ref D) s3.heap.objs.size (.ok .next) r) :
    codeAny (model X.prog X.w) X.A (.compLoop (.SetComp elt [⟨tg, iter, ifs, 0⟩] scope pos) 0 (.ref ito) (.ref D) cx) (compPost (model X.prog X.w) X.A X.xe use Qf (.ref D) s3.heap.objs.size) s4 := by
  have ow : OwnOk (X.blk s3 H3 scope cx fp) fp := fun τ J r Ir nJ b hb => ⟨nJ b hb, (Ir.ok.exf b hb).1, Ir.ok.exfs b hb, .inl hb, fun x c e => (Ir.ok.exf b hb).2 x c e, fun p hp => absurd (show p ∈ ([] : List (Addr × Obj)) ++ [] from hp) (by simp)⟩
  refine compLoopS_any (fun n r => ∃ i J, Inv (X.blk s3 H3 scope cx fp) [] (wipe σ vs) J r ∧ turns i r.heap ∧ (∀ b ∈ fp, J b = none) ∧ W i n J) ?_ m0 ⟨0, H3, I4, at4, fun b hb => (f3 b hb).1.1, w0⟩
  rintro n r ⟨i, J, Ir, atr, nor, wr⟩
  rcases each i n J wr with ⟨halt, fine⟩ | ⟨go, Nx, next, act⟩
  · refine thnF (Tn.done (X.blk s3 H3 scope cx fp) rfl rfl rfl calm i [] r _ J (fun _ _ => False) Ir (ow _ _ _ Ir nor) atr halt) fun o r2 h2 => ?_
    obtain ⟨rfl, I6⟩ := h2
    have back : Inv X pins σ J r2 := I3.call' (ch := fp) I6.os I6.base I6.hok I6.bare fun b hb => ⟨(f3 b hb).1.2.2.2.1, (f3 b hb).1.2.1, (f3 b hb).1.2.2.2.2.1, (f3 b hb).1.2.2.2.2.2⟩
    have noC : J s3.heap.objs.size = none := by rw [← locC]; exact I6.free
    obtain ⟨m, hn, _⟩ := I6.loc
    exact after r2 m J back fine (by rw [← locC]; exact hn) (I3.fpOk (Nat.le_refl _) noC)
  · have one := comp_each (Ec := notedBy (model X.prog X.w) X.A cx fun e s' => compPost (model X.prog X.w) X.A X.xe use Qf (.ref D) s3.heap.objs.size (.error e) s') (Bx := X.blk s3 H3 scope cx fp) (vs := vs) (σ := σ) (Nx := Nx) (R := fun r => ∃ m, m < n ∧ ∃ i J, Inv (X.blk s3 H3 scope cx fp) [] (wipe σ vs) J r ∧ turns i r.heap ∧ (∀ b ∈ fp, J b = none) ∧ W i m J)
      (El := fun σ2 H3 Nx => te σ2 H3 fun y H4 => ∃ (L : List MemG) (k : NestedKey) (b : Addr), y = .ref b ∧ H4 D = some (SetGO X.w D L) ∧ (∀ p ∈ L, KeyH X.K H4 p.1 p.2) ∧ KeyH X.K H4 b k ∧ L.length + 1 < 4000 ∧ ∀ M, PutG L b k M → Nx (upd H4 D (SetGO X.w D M)))
      (AW := fun R' r => wpAny (model X.prog X.w) X.A (eval elt cx) (fun v r1 => wpAny (model X.prog X.w) X.A (call (.builtin "set.add") [.ref D, v]) (fun _ r2 => R' r2) (notedBy (model X.prog X.w) X.A cx fun e s' => compPost (model X.prog X.w) X.A X.xe use Qf (.ref D) s3.heap.objs.size (.error e) s') r1) (notedBy (model X.prog X.w) X.A cx fun e s' => compPost (model X.prog X.w) X.A X.xe use Qf (.ref D) s3.heap.objs.size (.error e) s') r)
      Tn calm rfl aim tests ow Ir atr nor go act (fun pins τ J r R' Ir2 el out => ?_) (fun r J Ir2 at2 no2 nx => ?_)
    · refine thn one fun o r2 h2 => ?_
      obtain ⟨v, rfl, h2⟩ := h2
      refine thn h2 fun _ r3 h3 => thn h3 fun _ r4 h4 => thn h4 fun ok r5 h5 => ?_
      cases ok with
      | false => exact h5
      | true => exact h5
    · refine thnF (eltE.run pins r τ J _ Ir2 el) fun v r1 h1 => ?_
      obtain ⟨y, J1, I1, ry, L, k, b, rfl, hD, hL, hb, few, nx⟩ := h1
      obtain rfl : v = Value.ref b := ry
      exact setG_add (X := X.blk s3 H3 scope cx fp) hu I1 hD hL hb few fun r2 M put I2 => out r2 _ I2 (nx M put)
    · obtain ⟨m, less, w'⟩ := next J nx
      exact ⟨m, less, i + 1, J, Ir2, at2, no2, w'⟩
theorem pe_setC1 {elt tg iter : Expr} {ifs : List Expr} {scope : Scope} {own : List (Str × Nat)} {pos : Pos} {wi : TI} {g : TG} {tt : TT} {te : TE} (calm : X.calm = true) (hu : X.A.units + 64 < cLine) (ndN : X.N.Nodup) (walks : PI X tg iter wi) (bl : BlkOk X.N X.env.scope scope own)
    (aim : ∀ (s : Shared) (H : Hp) (C : Addr) (cl : List (Str × Addr)) (fp : List Addr), PG (X.blk s H scope (compEnvC scope cl C X.env) fp) tg g) (tests : ∀ (s : Shared) (H : Hp) (C : Addr) (cl : List (Str × Addr)) (fp : List Addr), PTs (X.blk s H scope (compEnvC scope cl C X.env) fp) ifs tt)
    (eltE : ∀ (s : Shared) (H : Hp) (C : Addr) (cl : List (Str × Addr)) (fp : List Addr), PE (X.blk s H scope (compEnvC scope cl C X.env) fp) elt te)
    (plain : ∀ x, foldedSetIterable iter X.env x = pure x := by intro _; rfl) :
    PE X (.SetComp elt [⟨tg, iter, ifs, 0⟩] scope pos) (tSetC1 X.w X.K wi g tt te (own.map (·.2))) := by
  refine ⟨fun pins s σ H Q I want => ?_⟩
  rw [eval_SetComp]
  have frees : ∀ y ∈ scope.names, y.2 = .free → ∃ c, X.env.cells.lookup y.1 = some c := fun y hy e => (bl.free y hy e).elim (fun k => I.ok.has _ (.inl k)) fun k => I.ok.has _ (.inr k)
  refine wpAny_comprehension_free rfl plain (closure_ok frees) bl.kind (fun y hy e => by rw [bl.uniq y hy, e]) (thn (walks.run pins s σ H _ I want) fun xv s1 h1 => thn h1 fun itv s2 h2 => ?_)
  obtain ⟨ito, fp, turns, Jt, H2, rfl, I2, Tn, at2, f2, each⟩ := h2
  refine newSet_ok (newEnv_comp ?_)
  obtain ⟨W, ⟨m0, w0⟩, each⟩ := each s2.heap.objs.size (I2.hok.fresh (Nat.le_refl _))
  have fresh : (s2.heap.push (emptySet X.w)).get? s2.heap.objs.size = some (emptySet X.w) := Heap.get?_push_size _ rfl
  have I3 : Inv X pins σ (upd H2 s2.heap.objs.size (SetGO X.w s2.heap.objs.size [])) { s2 with heap := s2.heap.push (emptySet X.w), toks := s2.toks } := I2.laid (fun b o e => Heap.get?_push_of_some _ e) (Nat.le_refl _) (setGO_new (setG_fresh fresh))
  have f3 : ∀ b ∈ fp, FpOk X pins (upd H2 s2.heap.objs.size (SetGO X.w s2.heap.objs.size [])) b ∧ b < (s2.heap.push (emptySet X.w)).objs.size := fun b hb => by
    obtain ⟨o, e, _⟩ := Tn.obj _ _ at2 b hb
    have less := Heap.lt_size e
    exact ⟨⟨by rw [upd_ne (Nat.ne_of_lt less)]; exact (f2 b hb).1, (f2 b hb).2⟩, by rw [Heap.size_push]; exact Nat.lt_succ_of_lt less⟩
  have at3 : turns 0 (s2.heap.push (emptySet X.w)) := Tn.keep _ _ _ at2 fun b _ o e => Heap.get?_push_of_some _ e
  have I4 := block_start I3 bl ndN f3
  have at4 : turns 0 (pushCells ((s2.heap.push (emptySet X.w)).push { cls := .type "dict", data := .dict #[] }) scope.names) := Tn.keep _ _ _ at3 fun b _ o e => pushCells_keeps _ _ _ _ (Heap.get?_push_of_some _ e)
  have going := setC1_loop (elt := elt) (iter := iter) (ifs := ifs) (pos := pos) (use := none) (Qf := EP X pins σ Q) calm hu I3 f3 I4 rfl Tn at4 (aim _ _ _ _ _) (tests _ _ _ _ _) (eltE _ _ _ _ _) w0 each fun r m J Ir fine hn fo => ⟨m, hn, fun h'' sb => ?_⟩
  · exact codeAny_compStart_set going (Tn.self X.A 0 _ _ _ at4 going)
  · obtain ⟨o0, o1, o2, o3, o4, o5⟩ := fo
    exact ⟨.ref _, J, Ir.turned (t' := r.toks) (fun b o hb e => (sb.2 b hb).trans e) o0 o1 o3 o4 o5, rfl, fine⟩
end
end DM

namespace DM
open PySem PySem.Spec PyProof.Rows L2
/-! ### sorted(d), d a dict with pairs as keys -/
def rSortDT (K : PySem.W.Frag) : List V → Hp → VK → Prop := fun vs H Q => ∃ (d : Addr) (S : List (Int × Int)), vs = [V.ref d] ∧ Rd H d (.dT (tabP S)) ∧ S.Nodup ∧ S.length < 4000 ∧
  ∀ (S' : List (Int × Int)) (xs : List V) (p : Addr), S'.Perm S → RiseP S' → Prs H xs S' → H p = none → Q (.ref p) (upd H p (.lst xs))
theorem prD_lt {p q : Int × Int} : PySem.W.dataLt (prD p) (prD q) = true ↔ p.1 < q.1 ∨ (p.1 = q.1 ∧ p.2 < q.2) := by
  have e : PySem.W.dataLt (prD p) (prD q) = PySem.W.DatumOrd.lt p q := PySem.W.DatumOrd.lt_eq p q
  have l2 : PySem.W.DatumOrd.lt p q = decide (ltP p.1 p.2 q.1 q.2) := lt_pair p.1 p.2 q.1 q.2
  rw [e, l2, decide_eq_true_eq]
  exact Iff.rfl
theorem rise_of {S : List (Int × Int)} (nd : S.Nodup) (pw : S.Pairwise fun p q => PySem.W.dataLt (prD q) (prD p) = false) : RiseP S := (pw.and nd).imp fun {p q} z => by
  obtain ⟨z1, z2⟩ := z
  have n : ¬ (q.1 < p.1 ∨ (q.1 = p.1 ∧ q.2 < p.2)) := fun y => by
    rw [prD_lt.mpr y] at z1
    cases z1
  have m := pair_ne z2
  omega
theorem prs_zip {H : Hp} : ∀ {xs : List V} {S : List (Int × Int)}, Prs H xs S → (xs.zip S).map (·.1) = xs ∧ (xs.zip S).map (·.2) = S ∧ ∀ b ∈ xs.zip S, PrV H b.1 b.2
  | _, _, .nil => ⟨rfl, rfl, fun b hb => by cases hb⟩
  | _, _, .cons h t => by
    obtain ⟨a, b, c⟩ := prs_zip t
    refine ⟨by rw [List.zip_cons_cons, List.map_cons, a], by rw [List.zip_cons_cons, List.map_cons, b], fun x hx => ?_⟩
    rcases List.mem_cons.mp hx with z | z
    · rw [z]; exact h
    · exact c x z
theorem prs_by {H : Hp} : ∀ {bs : List (V × (Int × Int))}, (∀ b ∈ bs, PrV H b.1 b.2) → Prs H (bs.map (·.1)) (bs.map (·.2))
  | [], _ => .nil
  | b :: bs, h => .cons (h b List.mem_cons_self) (prs_by fun x hx => h x (List.mem_cons_of_mem _ hx))
section
variable {X : Cx}
theorem each_vals2 : ∀ {bs : List (V × (Int × Int))} {its : List Value}, Vals (bs.map (·.1)) its → PySem.W.EachIs (fun v (b : V × (Int × Int)) => RelV b.1 v) its bs
  | [], _, .nil => .nil
  | _ :: _, _, .cons h t => .cons h (each_vals2 t)
theorem each_reads2 {pins : List (Addr × Obj)} {σ : L2.St} {H : Hp} {s : Shared} {a : Addr} (I : Inv X pins σ H s) : ∀ {bs : List (V × (Int × Int))} {its : List Value}, (∀ b ∈ bs, PrV H b.1 b.2) → Vals (bs.map (·.1)) its → PySem.W.EachIs (fun v (b : V × (Int × Int)) => ∃ as, Reads s.heap v (prD b.2) as ∧ a ∉ as) its bs
  | [], _, _, .nil => .nil
  | b :: _, _, h, .cons hv t => by
    refine .cons ?_ (each_reads2 I (fun x hx => h x (List.mem_cons_of_mem _ hx)) t)
    obtain ⟨c, e, hc⟩ := h b List.mem_cons_self
    dsimp only at hv
    rw [e] at hv
    obtain rfl := (show _ = Value.ref c from hv)
    have k : KeyH X.K H c (ptKey b.2) := ⟨dp_pair hc, by show 1 ≤ 8; decide, rfl⟩
    exact ⟨[], (k.reads I).2, List.not_mem_nil⟩
theorem vals_each2 : ∀ {bs : List (V × (Int × Int))} {its : List Value}, PySem.W.EachIs (fun v (b : V × (Int × Int)) => RelV b.1 v) its bs → Vals (bs.map (·.1)) its
  | [], _, .nil => .nil
  | _ :: _, _, .cons h t => .cons h (vals_each2 t)
theorem cr_sortDT (hc : X.calm = true) (hu : X.A.units + 64 < cLine) : CallR X (.builtin "sorted") (rSortDT X.K) := by
  intro pins s σ H vs us Q I r h
  obtain ⟨d, S, rfl, hd, nd, few, q⟩ := h
  obtain ⟨u, rfl, ru⟩ := vals1 r
  obtain rfl : u = Value.ref d := ru
  obtain ⟨z, hs, ks, pr, o, es, ep, ho, hx, hdt, he, hn⟩ := (show ObjOk X.prog X.w H s.heap d (.dT (tabP S)) from hd.ok I.hok)
  have l1 : es.size = ks.length := size_of_entries he
  have l2 : (tabP S).length = ks.length := Paired.length pr
  have l3 : (tabP S).length = S.length := by unfold tabP; rw [List.length_map]
  refine Calls.call_function_entry kind_sorted plain_sorted entry_sorted (args_sorted1 _) ?_
  unfold Builtin.«sorted»
  refine wpAny_bind (m := checkCount "sorted" 1 1 _) (wpAny_pure ?_)
  refine wpAny_bind (PySem.W.kdu_collect (A := X.A.in1) (kdl_raw hs hx hdt) (I.ok.hd hc) ho (by omega) fun h' tk acc hk hacc => ?_)
  have ea : acc.toList = (ks.map fun x => x.2.1).map Value.ref := by
    have hl : acc.toList.length = ks.length := by rw [Array.length_toList, hacc.1]; exact l1
    apply List.ext_getElem?
    intro j
    rw [List.map_map, List.getElem?_map]
    cases hj : acc.toList[j]? with
    | none =>
      have h1 := List.getElem?_eq_none_iff.mp hj
      rw [List.getElem?_eq_none (by omega)]
      rfl
    | some v =>
      obtain ⟨en, hen, hv⟩ := hacc.2 j v (by rw [← Array.getElem?_toList]; exact hj)
      have qe := entry_at he j
      rw [hen] at qe
      cases hb : ks[j]? with
      | none =>
        rw [hb] at qe
        exact nomatch (show some en = none from qe)
      | some b =>
        rw [hb] at qe
        have e2 : en = entryOfKey (tupleKind (mixKind X.prog X.w)) b := Option.some.inj qe
        rw [hv, e2]
        rfl
  have pS := keys_prs (isKeys_of pr)
  obtain ⟨z1, z2, z3⟩ := prs_zip pS
  rw [ea]
  have rv : Vals ((ks.map fun x => x.2.1).map V.ref) ((ks.map fun x => x.2.1).map Value.ref) := vals_refs _
  generalize ((ks.map fun x => x.2.1).map V.ref).zip S = bs at z1 z2 z3
  rw [← z1] at rv
  have lbs : bs.length = S.length := by rw [← z2, List.length_map]
  have lrv : ((ks.map fun x => x.2.1).map Value.ref).length = S.length := by rw [List.length_map, List.length_map]; omega
  generalize hits : (ks.map fun x => x.2.1).map Value.ref = its at rv lrv ⊢
  refine wpAny_bind (wpAny_newList ?_ (by rw [lrv, sizeLine_eq]; omega))
  have hoL : (h'.push (seqObj "list" its.toArray 0)).get? h'.objs.size = some (seqObj "list" its.toArray 0) := Heap.get?_push_size _ rfl
  have I2 : Inv X pins σ H { s with heap := h'.push (seqObj "list" its.toArray 0), toks := tk } := I.kept (t' := tk) fun b o e => Heap.get?_push_of_some _ (hk b o e)
  refine wpAny_bind (wpAny_holding (PySem.W.list_sort_data (s := { s with heap := h'.push (seqObj "list" its.toArray 0), toks := tk }) (bs := bs) (enc := fun b => prD b.2) (R := fun v (b : V × (Int × Int)) => RelV b.1 v) hoL (each_vals2 rv) (each_reads2 I2 z3 rv) ?_ ?_ (by rw [sizeLine_eq]; omega) (fun b hb => ?_) fun out lo eo => ?_))
  · intro d hd d' hd'
    obtain ⟨x, _, rfl⟩ := List.mem_map.mp hd
    obtain ⟨y, _, rfl⟩ := List.mem_map.mp hd'
    simp [prD, PySem.W.alike, PySem.W.alikeAll]
  · left
    intro d hd
    obtain ⟨x, _, rfl⟩ := List.mem_map.mp hd
    exact ⟨_, _, rfl⟩
  · have : PyData.depth (prD b.2) = 1 := by unfold prD; simp only [PyData.depth, PyData.depthAll]; rfl
    show X.A.units + 1 + 1 + PyData.depth (prD b.2) < cLine
    omega
  · obtain ⟨c, at'⟩ := sortedHeap_at (vs := its) (out := out.toArray) hoL
    have tot := PySem.W.sortLe_total (PyProof.Rows.listOrd PyProof.Rows.itemOrd) false fun b : V × (Int × Int) => PySem.W.keyToks (prD b.2)
    have pw := PySem.W.sort_pairwise tot bs
    have pm := List.mergeSort_perm bs (PySem.W.dataLe false fun b : V × (Int × Int) => prD b.2)
    have vb := vals_each2 eo
    have I1 : Inv X pins σ H { s with heap := h', toks := tk } := I.kept (t' := tk) fun b o e => hk b o e
    have new : H h'.objs.size = none := I1.hok.fresh (Nat.le_refl _)
    refine wpAny_pure ⟨_, rfl, .ref h'.objs.size, upd H h'.objs.size (.lst ((bs.mergeSort (PySem.W.dataLe false fun b : V × (Int × Int) => prD b.2)).map (·.1))), I1.laid (t' := tk) (fun b o e => ?_) (Nat.le_refl _) ?_, rfl, q ((bs.mergeSort (PySem.W.dataLe false fun b : V × (Int × Int) => prD b.2)).map (·.2)) _ _ ?_ ?_ ?_ new⟩
    · have lt := Heap.lt_size e
      show (sortedHeap (h'.push (seqObj "list" its.toArray 0)) h'.objs.size its out.toArray).get? b = some o
      rw [sortedHeap_old (Nat.ne_of_lt lt) (by rw [size_push']; exact Nat.lt_succ_of_lt lt)]
      exact Heap.get?_push_of_some _ e
    · exact ⟨by rw [List.length_map, pm.length_eq, sizeLine_eq]; omega, out, c, vb, at'⟩
    · rw [← z2]
      exact pm.map _
    · refine rise_of ?_ (List.pairwise_map.mpr (pw.imp fun {x y} z => ?_))
      · have : ((bs.mergeSort (PySem.W.dataLe false fun b : V × (Int × Int) => prD b.2)).map (·.2)).Perm S := by
          rw [← z2]
          exact pm.map _
        exact this.nodup_iff.mpr nd
      · have z' : (!PySem.W.dataLt (prD y.2) (prD x.2)) = true := z
        simpa using z'
    · exact prs_by fun b hb => z3 b (pm.mem_iff.mp hb)
end
end DM

namespace DM
open PySem L2
/-! ### hot squares of any heap -/
def spHotG : Sp := fun vs H Q _ => ∃ (d : Addr) (L : List (Str × S4)), vs = [.ref d] ∧ HeapAt H d L ∧ ∀ (l : Addr) (H' : Hp) (cs : List Cause) (xs : List V) (S : List (Int × Int)), Same H H' → H l = none → AllCz L cs → H' l = some (.lst xs) → Prs H' xs S → RiseP S → (∀ p : Int × Int, p ∈ S ↔ ∃ c ∈ cs, (c.x, c.y) = p) → Q (.ref l) H'
def unKey : NestedKey → Int × Int
  | .tup [.num a, .num b] => (a, b)
  | _ => (0, 0)
theorem unKey_pt (p : Int × Int) : unKey (ptKey p) = p := rfl
theorem ptKey_inj {p q : Int × Int} (h : ptKey p = ptKey q) : p = q := by rw [← unKey_pt p, h, unKey_pt]
structure GotS (H : Hp) (cs : List Cause) (L : List MemG) : Prop where
  sub : ∀ m ∈ L, ∃ c ∈ cs, m.2 = ptKey (c.x, c.y) ∧ H m.1 = some (.tup [.int c.x, .int c.y])
  all : ∀ c ∈ cs, ptKey (c.x, c.y) ∈ L.map (·.2)
  len : L.length ≤ cs.length
theorem GotS.keep {H H' : Hp} {cs : List Cause} {L : List MemG} (g : GotS H cs L) (e : KeepT H H') : GotS H' cs L := ⟨fun m hm => by
  obtain ⟨x, hx, e1, e2⟩ := g.sub m hm
  exact ⟨x, hx, e1, e _ _ e2⟩, g.all, g.len⟩
theorem GotS.put {H : Hp} {cs : List Cause} {L M : List MemG} {b : Addr} {c : Cause} (g : GotS H cs L) (hb : H b = some (.tup [.int c.x, .int c.y])) (h : PutG L b (ptKey (c.x, c.y)) M) : GotS H (cs ++ [c]) M := by
  by_cases m : ptKey (c.x, c.y) ∈ L.map (·.2)
  · rw [h.1 m]
    refine ⟨fun p hp => ?_, fun y hy => ?_, by rw [List.length_append]; have := g.len; omega⟩
    · obtain ⟨y, hy, e⟩ := g.sub p hp
      exact ⟨y, List.mem_append_left _ hy, e⟩
    · rcases List.mem_append.mp hy with z | z
      · exact g.all y z
      · rw [List.mem_singleton.mp z]
        exact m
  · have pm := h.2 m
    refine ⟨fun p hp => ?_, fun y hy => ?_, by rw [pm.length_eq, List.length_append, List.length_cons]; have := g.len; simp only [List.length_cons, List.length_nil]; omega⟩
    · rcases List.mem_cons.mp (pm.mem_iff.mp hp) with z | z
      · exact ⟨c, List.mem_append_right _ (List.mem_singleton.mpr rfl), by rw [z]; exact ⟨rfl, hb⟩⟩
      · obtain ⟨y, hy, e⟩ := g.sub p z
        exact ⟨y, List.mem_append_left _ hy, e⟩
    · rw [(pm.map (·.2)).mem_iff, List.map_cons]
      rcases List.mem_append.mp hy with z | z
      · exact List.mem_cons_of_mem _ (g.all y z)
      · rw [List.mem_singleton.mp z]
        exact List.mem_cons_self
theorem GotS.key {K : PySem.W.Frag} {H : Hp} {cs : List Cause} {L : List MemG} (g : GotS H cs L) : ∀ m ∈ L, KeyH K H m.1 m.2 := fun m hm => by
  obtain ⟨c, _, e1, e2⟩ := g.sub m hm
  rw [e1]
  exact ⟨dp_pair e2, by show 1 ≤ 8; decide, rfl⟩
theorem hot_mem {H : Hp} {cs : List Cause} {L M : List MemG} (g : GotS H cs L) (pm : M.Perm L) (nd : (M.map (·.2)).Nodup) (pw : M.Pairwise (fun q r => PySem.W.dataLt r.2.data q.2.data = false)) : ∃ S : List (Int × Int), Prs H (M.map fun q => V.ref q.1) S ∧ RiseP S ∧ ∀ p : Int × Int, p ∈ S ↔ ∃ c ∈ cs, (c.x, c.y) = p := by
  have each : ∀ m ∈ M, m.2 = ptKey (unKey m.2) ∧ H m.1 = some (.tup [.int (unKey m.2).1, .int (unKey m.2).2]) ∧ ∃ c ∈ cs, (c.x, c.y) = unKey m.2 := fun m hm => by
    obtain ⟨c, hc, e1, e2⟩ := g.sub m (pm.mem_iff.mp hm)
    rw [e1, unKey_pt]
    exact ⟨rfl, e2, c, hc, rfl⟩
  have prs : ∀ N : List MemG, (∀ q ∈ N, q ∈ M) → Prs H (N.map fun q => V.ref q.1) (N.map fun m => unKey m.2) := fun N => by
    induction N with
    | nil => intro _; exact .nil
    | cons q N ih => exact fun h => .cons ⟨q.1, rfl, (each q (h q List.mem_cons_self)).2.1⟩ (ih fun r hr => h r (List.mem_cons_of_mem _ hr))
  refine ⟨M.map fun m => unKey m.2, prs M fun _ h => h, rise_of ?_ ?_, fun p => ?_⟩
  · refine List.pairwise_map.mpr ?_
    have nd' := List.pairwise_map.mp nd
    refine nd'.imp_of_mem fun {q r} hq hr z e => z ?_
    rw [(each q hq).1, (each r hr).1, e]
  · refine List.pairwise_map.mpr ?_
    refine pw.imp_of_mem fun {q r} hq hr z => ?_
    rw [(each q hq).1, (each r hr).1] at z
    exact z
  · rw [List.mem_map]
    constructor
    · rintro ⟨m, hm, rfl⟩
      exact (each m hm).2.2
    · rintro ⟨c, hc, rfl⟩
      obtain ⟨m, hm, e⟩ := List.mem_map.mp ((pm.map (·.2)).mem_iff.mpr (g.all c hc))
      exact ⟨m, hm, by rw [e, unKey_pt]⟩
section
variable {P : Program} {w : World} {K : PySem.W.Frag} {mg : Str → Option Value} {base : Heap} {f : Addr} {fd : FuncData}
end
end DM

namespace DM
open PySem L2
/-! ### causes are told in one way alone -/
theorem str_cps {a b : Str} (h : a.cps.toList = b.cps.toList) : a = b := by
  obtain ⟨a⟩ := a
  obtain ⟨b⟩ := b
  congr 1
  exact Array.toList_inj.mp h
theorem toks_inj {c c' : Cause} (h : c.toks = c'.toks) : c = c' := by
  obtain ⟨x, y, w, n, t⟩ := c
  obtain ⟨x', y', w', n', t'⟩ := c'
  simp only [Cause.toks, Cause.tok3, List.cons.injEq, Sum.inl.injEq, Sum.inr.injEq, and_true] at h
  obtain ⟨h1, h2, h3, h4, h5⟩ := h
  have e3 := str_cps h3
  have e4 := str_cps h4
  have e5 : t = t' := by
    cases t with
    | inl i =>
      cases t' with
      | inl j => exact congrArg Sum.inl (Sum.inl.inj h5)
      | inr z => cases h5
    | inr z =>
      cases t' with
      | inl j => cases h5
      | inr z' => exact congrArg Sum.inr (str_cps (Sum.inr.inj h5))
  rw [h1, h2, e3, e4, e5]
theorem rise_names2 : ∀ {r : List Str} {p : Str}, PyProof.Rows.risingS p r = true → (p :: r).Pairwise (fun a b : Str => a.cps.toList ≤ b.cps.toList)
  | [], _, _ => List.pairwise_singleton _ _
  | x :: r, p, h => by
    have h' : (!PySem.Spec.ltCps x.cps.toList p.cps.toList && PyProof.Rows.risingS x r) = true := h
    rw [Bool.and_eq_true] at h'
    obtain ⟨h1, h2⟩ := h'
    have ih := rise_names2 h2
    have le : p.cps.toList ≤ x.cps.toList := by
      rw [PyProof.Rows.ltCps_eq] at h1
      have : ¬ (x.cps.toList < p.cps.toList) := by simpa using h1
      exact this
    refine List.pairwise_cons.mpr ⟨fun y hy => ?_, ih⟩
    rcases List.mem_cons.mp hy with rfl | hy
    · exact le
    · exact List.le_trans le ((List.pairwise_cons.mp ih).1 y hy)
theorem sorted_le2 : ∀ {l : List Str}, PyProof.Rows.sortedS l = true → l.Pairwise (fun a b : Str => a.cps.toList ≤ b.cps.toList)
  | [], _ => .nil
  | _ :: _, h => rise_names2 h
/-- strokes in the order of their names: there is one alone -/
theorem names_only {L M N : List (Str × S4)} (nd : (L.map (·.1)).Nodup) (pM : M.Perm L) (pN : N.Perm L) (sM : PyProof.Rows.sortedS (M.map (·.1)) = true) (sN : PyProof.Rows.sortedS (N.map (·.1)) = true) : M = N := by
  have pm : M.Perm N := pM.trans pN.symm
  have hM := List.pairwise_map.mp (sorted_le2 sM)
  have hN := List.pairwise_map.mp (sorted_le2 sN)
  refine pm.eq_of_pairwise (fun a b ha hb h1 h2 => ?_) hM hN
  have e : a.1 = b.1 := str_cps (List.le_antisymm h1 h2)
  have uniq : ∀ {x y : Str × S4}, x ∈ L → y ∈ L → x.1 = y.1 → x = y := fun {x y} hx hy e => by
    obtain ⟨i, hi⟩ := List.mem_iff_getElem?.mp hx
    obtain ⟨j, hj⟩ := List.mem_iff_getElem?.mp hy
    have p1 : (L.map (·.1))[i]? = some x.1 := by rw [List.getElem?_map, hi]; rfl
    have p2 : (L.map (·.1))[j]? = some y.1 := by rw [List.getElem?_map, hj]; rfl
    rcases Nat.lt_trichotomy i j with z | z | z
    · exact absurd e (pair_at nd z p1 p2)
    · rw [z, hj] at hi
      exact (Option.some.inj hi).symm
    · exact absurd e.symm (pair_at nd z p2 p1)
  exact uniq (pM.mem_iff.mp ha) (pN.mem_iff.mp hb) e
theorem AllCz.one {L : List (Str × S4)} {cs cs' : List Cause} (nd : (L.map (·.1)).Nodup) (h : AllCz L cs) (h' : AllCz L cs') : cs = cs' := by
  obtain ⟨M, pM, sM, pc⟩ := h.all
  obtain ⟨N, pN, sN, pc'⟩ := h'.all
  have e := names_only nd pM pN sM sN
  subst e
  refine (pc.trans pc'.symm).eq_of_pairwise (fun a b _ _ h1 h2 => toks_inj ?_) h.rise h'.rise
  exact (PyProof.Rows.listOrd PyProof.Rows.itemOrd).total _ _ h2 h1
/-! ### the law's own causes -/
def lawCz : List (Str × S4) → List Cause
  | [] => []
  | a :: r => lawCz r ++ (endsCz a ++ r.reverse.filterMap fun o => crossOf o a)
theorem cross_snoc (a : Str × S4) : ∀ M : List (Str × S4), (crossCz (M ++ [a])).Perm (crossCz M ++ M.filterMap fun o => crossOf o a)
  | [] => List.Perm.refl _
  | b :: M => by
    have ih := cross_snoc a M
    show ((M ++ [a]).filterMap (crossOf b) ++ crossCz (M ++ [a])).Perm ((M.filterMap (crossOf b) ++ crossCz M) ++ (b :: M).filterMap fun o => crossOf o a)
    rw [List.filterMap_append]
    have e : (b :: M).filterMap (fun o => crossOf o a) = [a].filterMap (crossOf b) ++ M.filterMap fun o => crossOf o a := by
      rw [List.filterMap_cons, List.filterMap_cons]
      cases crossOf b a <;> rfl
    rw [e, List.append_assoc, List.append_assoc]
    refine List.Perm.append_left _ ?_
    refine ((List.Perm.append_left _ ih).trans ?_)
    rw [← List.append_assoc, ← List.append_assoc]
    exact List.Perm.append_right _ List.perm_append_comm
theorem law_perm : ∀ R : List (Str × S4), (lawCz R).Perm (endCz R.reverse ++ crossCz R.reverse)
  | [] => List.Perm.refl _
  | a :: R => by
    have ih := law_perm R
    show (lawCz R ++ (endsCz a ++ R.reverse.filterMap fun o => crossOf o a)).Perm _
    rw [List.reverse_cons]
    have e : endCz (R.reverse ++ [a]) = endCz R.reverse ++ endsCz a := by
      unfold endCz
      rw [List.flatMap_append, List.flatMap_singleton]
    rw [e]
    refine (List.Perm.append_right _ ih).trans ?_
    refine List.Perm.trans ?_ (List.Perm.append_left _ (cross_snoc a R.reverse).symm)
    rw [List.append_assoc, List.append_assoc]
    refine List.Perm.append_left _ ?_
    rw [← List.append_assoc, ← List.append_assoc]
    exact List.Perm.append_right _ List.perm_append_comm
theorem law_len : ∀ R : List (Str × S4), (lawCz R).length ≤ 2 * R.length + R.length * R.length
  | [] => Nat.le_refl _
  | a :: R => by
    have ih := law_len R
    have h := List.length_filterMap_le (fun o => crossOf o a) R.reverse
    rw [List.length_reverse] at h
    show (lawCz R ++ (endsCz a ++ R.reverse.filterMap fun o => crossOf o a)).length ≤ _
    rw [List.length_append, List.length_append, List.length_cons]
    have l2 : (endsCz a).length = 2 := rfl
    have e : (R.length + 1) * (R.length + 1) = R.length * R.length + R.length + R.length + 1 := by
      rw [Nat.add_mul, Nat.mul_add]; omega
    omega
theorem LstOf.app {H H' : Hp} {l : Addr} {bs : List (V × Cause)} {v : V} {c : Cause} (h1 : H' l = some (.lst (bs.map (·.1) ++ [v]))) (h2 : ∀ b ∈ bs, CzV H' b.1 b.2) (hv : CzV H' v c) {cs : List Cause} (e : bs.map (·.2) = cs) : LstOf CzV H' l (cs ++ [c]) := by
  refine ⟨bs ++ [(v, c)], by rw [List.map_append]; exact h1, fun b hb => ?_, by rw [List.map_append, e]; rfl⟩
  rcases List.mem_append.mp hb with z | z
  · exact h2 b z
  · rw [List.mem_singleton.mp z]
    exact hv
section
variable {P : Program} {w : World} {K : PySem.W.Frag} {mg : Str → Option Value} {base : Heap} {f : Addr} {fd : FuncData}
abbrev s_near : Stmt := top 44
theorem sc_near : FnScope ["_law_part"] ["_law_part"] (defScope s_near) := ⟨rfl, rfl, rfl, by decide +kernel, rfl, by decide +kernel, by decide +kernel⟩
theorem ok_near (F : Fun K "_law_near" "_law_near" s_near f fd) : FnOk P w K mg base CX0 1 f fd ["_law_part"] spNear := by
  refine F.ok sc_near (fun vs H Q E h => ?_) (fun cdv A outer s H vs Q E hr h => ?_)
  · obtain ⟨p, a, b, rfl, _⟩ := h
    rfl
  obtain ⟨p, a, b, rfl, hp, k, q⟩ := h
  refine ⟨_, (pss_one (ps_ret (pe_op op_fdivW (pe_op op_add (pe_op op_mul pe_int (pe_ix ix_tup (pv 0) pe_int (fun _ _ => rfl))) (pe_ix ix_tup (pv 0) pe_int (fun _ _ => rfl))) (pe_op op_mul pe_int (pe_ix ix_tup (pv 0) pe_int (fun _ _ => rfl)))))), ?_⟩
  unfold Part at k
  refine ⟨_, rfl, p, _, _, _, rfl, rfl, SqT.of hp, rfl, _, _, rfl, rfl, .inl ⟨by decide, by decide⟩, _, rfl, p, _, _, _, rfl, rfl, SqT.of hp, rfl, _, _, rfl, rfl, ?_⟩
  refine ⟨_, rfl, p, _, _, _, rfl, rfl, SqT.of hp, rfl, _, _, rfl, rfl, .inl ⟨by decide, by decide⟩, _, _, rfl, rfl, wide_div (b := 62) (by omega) (by omega) (by decide) (by decide), ?_⟩
  exact q
abbrev s_causes : Stmt := top 60
theorem sc_causes : FnScope ["_law_heap", "_law_names_here", "_law_found", "_law_k", "_law_stroke_here", "_law_other", "_law_told", "_law_x", "_law_y"] ["_law_heap"] (defScope s_causes) := ⟨rfl, rfl, rfl, by decide +kernel, rfl, by decide +kernel, by decide +kernel⟩
theorem ok_causes (B : Blt mg) (c_near : Cal P w K mg base 1 "_law_near" ["_law_part"] spNear) (c_meet : Cal P w K mg base 3 "_law_meet" ["_law_one", "_law_other"] spMeet) (F : Fun K "_law_causes" "_law_causes" s_causes f fd) : FnOk P w K mg base CX0 4 f fd ["_law_heap"] spCauses := by
  refine F.ok sc_causes (fun vs H Q E h => ?_) (fun cdv A outer s H vs Q E hr h => ?_)
  · obtain ⟨d, L, rfl, _⟩ := h
    rfl
  obtain ⟨d, L, rfl, hH, q⟩ := h
  refine ⟨_, (pss_cons (ps_set (i := 1) sc_causes.nd rfl (Or.inl rfl) (pe_callB (call_sortedD rfl) rfl B.sorted bt_sorted (pa_cons (pv 0) pa_nil)))
    (pss_cons (ps_set (i := 2) sc_causes.nd rfl (Or.inl rfl) (pe_lst pa_nil))
    (pss_cons (ps_for PassesOwn.never rfl (pi_range1 rfl B.range (pa_cons (pe_callB call_len_seq rfl B.len bt_len (pa_cons (pv 1) pa_nil)) pa_nil)) (pg_name (i := 3) sc_causes.nd rfl (Or.inl rfl))
    (pss_cons (ps_set (i := 4) sc_causes.nd rfl (Or.inl rfl) (pe_dget (hu_of hr) (pv 0) (pe_ix ix_list (pv 1) (pv 3) (fun _ _ => rfl)) (fun _ _ => rfl)))
    (pss_cons (ps_expr (pe_bm PySem.F.plainAttrs_list PySem.F.slot_list_append PySem.F.type_list_append mt_append (pv 2) (pa_cons (pe_tup (pa_cons (pe_slice sl_tup (pv 4) po_none (po_some pe_int)) (pa_cons (pe_tup (pa_cons pe_str (pa_cons (pe_ix ix_list (pv 1) (pv 3) (fun _ _ => rfl)) (pa_cons pe_int pa_nil)))) pa_nil))) pa_nil)))
    (pss_cons (ps_expr (pe_bm PySem.F.plainAttrs_list PySem.F.slot_list_append PySem.F.type_list_append mt_append (pv 2) (pa_cons (pe_tup (pa_cons (pe_slice sl_tup (pv 4) (po_some pe_int) po_none) (pa_cons (pe_tup (pa_cons pe_str (pa_cons (pe_ix ix_list (pv 1) (pv 3) (fun _ _ => rfl)) (pa_cons pe_int pa_nil)))) pa_nil))) pa_nil)))
    (pss_one (ps_for PassesOwn.never rfl (pi_list (pe_slice sl_list (pv 1) po_none (po_some (pv 3)))) (pg_name (i := 5) sc_causes.nd rfl (Or.inl rfl))
    (pss_cons (ps_set (i := 6) sc_causes.nd rfl (Or.inl rfl) (pe_cal c_meet hr (pa_cons (pe_dget (hu_of hr) (pv 0) (pv 5) (fun _ _ => rfl)) (pa_cons (pv 4) pa_nil))))
    (pss_one (ps_if (PW.pt (pw_and (pt_cmpR op_notN (pv 6) pe_non (nomark _)) (pw_and1 (pt_cmpR op_eq (pe_ix ix_tup (pv 6) pe_int (fun _ _ => rfl)) pe_str (nomark _)))))
    (pss_cons (ps_asg (pe_ix ix_tup (pv 6) pe_int (fun _ _ => rfl)) (pg_tup rfl (pgs_cons (pg_name (i := 7) sc_causes.nd rfl (Or.inl rfl)) (pgs_cons (pg_name (i := 8) sc_causes.nd rfl (Or.inl rfl)) pgs_nil))))
    (pss_one (ps_expr (pe_bm PySem.F.plainAttrs_list PySem.F.slot_list_append PySem.F.type_list_append mt_append (pv 2) (pa_cons (pe_tup (pa_cons (pe_tup (pa_cons (pe_cal c_near hr (pa_cons (pv 7) pa_nil)) (pa_cons (pe_cal c_near hr (pa_cons (pv 8) pa_nil)) pa_nil))) (pa_cons (pe_tup (pa_cons pe_str (pa_cons (pv 5) (pa_cons (pe_ix ix_list (pv 1) (pv 3) (fun _ _ => rfl)) pa_nil)))) pa_nil))) pa_nil)))))
    pss_nil)))))))))
    (pss_one (ps_ret (pe_callB (cr_sortCz hr.units) rfl B.sorted bt_sorted (pa_cons (pv 2) pa_nil))))))), ?_⟩
  obtain ⟨bs, hd, hb, hL⟩ := id hH.at'
  have few := hH.few
  have keys : (bs.map (·.1)).map (·.1) = (L.map (·.1)).map (fun n => (Sum.inr n : Key)) := by
    rw [← hL, List.map_map, List.map_map, List.map_map]
    exact List.map_congr_left fun b hb' => (hb b hb').1
  refine ⟨_, rfl, d, _, L.map (·.1), rfl, .inl hd, keys, (by rw [List.length_map]; omega), fun ys pn pm so npn => ?_⟩
  obtain ⟨M, pM, rfl⟩ := perm_map_from pm L rfl
  have lM : M.length = L.length := pM.length_eq
  have inM : ∀ p ∈ M, p ∈ L := fun p hp => pM.mem_iff.mp hp
  have g0 := same_new npn (.lst ((M.map (·.1)).map V.str))
  have hpn0 : upd H pn (.lst ((M.map (·.1)).map V.str)) pn = some (.lst ((M.map (·.1)).map V.str)) := upd_same
  generalize upd H pn (.lst ((M.map (·.1)).map V.str)) = H0 at *
  dsimp only [gName, tNext, List.set]
  refine ⟨sz (by decide : 0 ≤ 100000), fun l nl => ?_⟩
  have ln : l ≠ pn := Ne.symm (ne_of_none hpn0 nl)
  have g1 := g0.trans (same_new nl (.lst []))
  have hpn : upd H0 l (.lst []) pn = some (.lst ((M.map (·.1)).map V.str)) := by rw [upd_ne (Ne.symm ln)]; exact hpn0
  have start : upd H0 l (.lst []) l = some (.lst []) := upd_same
  have nlH : H l = none := g0.free nl
  generalize upd H0 l (.lst []) = H1 at *
  dsimp only [gName, tNext, List.set]
  have heap1 := hH.same g1
  have kpt : ∀ {H' : Hp}, But l H1 H' → KeepT H1 H' := fun {H'} e a xs h => e _ _ (ne_of h start (by intro z; cases z)) h
  have lens : ((M.map (·.1)).map V.str).length = M.length := by rw [List.length_map, List.length_map]
  have heapOf : ∀ {H' : Hp}, But l H1 H' → HeapAt H' d L := fun {H'} e => heap1.keep (kpt e) fun kvs z => e _ _ (ne_of z start (by intro z; cases z)) z
  have mul : M.length * M.length ≤ 32 * 32 := Nat.mul_le_mul (by omega) (by omega)
  refine ⟨_, rfl, pn, _, rfl, .inl (SqL.of hpn), _, rfl, by rw [lens]; omega, by rw [lens]; omega, ?_⟩
  refine for_range (lo := 0) (n := (((M.map (·.1)).map V.str).length : Int).toNat) (fun i σ H' => (∃ c3 c4 c5 c6 c7 c8, σ = [some (.ref d), some (.ref pn), some (.ref l), c3, c4, c5, c6, c7, c8]) ∧ But l H1 H' ∧ LstOf CzV H' l (lawCz (M.take i).reverse)) ?_ ?_ ?_
  · exact ⟨⟨_, _, _, _, _, _, rfl⟩, But.refl, [], start, (fun b hb => by cases hb), rfl⟩
  · rintro i σ H2 hi ⟨⟨c3, c4, c5, c6, c7, c8, rfl⟩, bt, cz⟩
    rw [lens] at hi
    have hiM : i < M.length := by omega
    obtain ⟨a, ha⟩ : ∃ a, M[i]? = some a := ⟨_, List.getElem?_eq_getElem hiM⟩
    have inA := inM a (List.mem_of_getElem? ha)
    have tk : (M.take (i + 1)).reverse = a :: (M.take i).reverse := by
      rw [take_snoc ha, List.reverse_append]
      rfl
    have nmA : atI ((M.map (·.1)).map V.str) (0 + (i : Int)) = some (.str a.1) := at_of (j := i) (by omega) (by rw [List.getElem?_map, List.getElem?_map, ha]; rfl)
    have okA := hH.nm a inA
    have stA : a.2.ok := hH.ok a inA
    obtain ⟨va, ga, pa, rfl, ka⟩ := (heapOf bt).get inA
    have hpn2 := bt _ _ (Ne.symm ln) hpn
    dsimp only [gName, tNext, List.set]
    refine seq_with (fun σ' H' => H2 = H' ∧ σ' = [some (.ref d), some (.ref pn), some (.ref l), some (.int (0 + (i : Int))), some (.ref pa), c5, c6, c7, c8]) (fun R hR => ⟨_, rfl, _, rfl, _, rfl, pn, _, _, _, rfl, rfl, SqL.of hpn2, nmA, d, .ref pa, rfl, ga, hR _ _ ⟨rfl, rfl⟩⟩) ?_
    rintro _ _ ⟨rfl, rfl⟩
    -- the two ends
    have len1 := law_len (M.take i).reverse
    rw [List.length_reverse, List.length_take] at len1
    have mul2 : min i M.length * min i M.length ≤ 32 * 32 := Nat.mul_le_mul (by omega) (by omega)
    obtain ⟨bs0, hl0, hb0, e0⟩ := cz
    have lb0 : bs0.length ≤ 2000 := by
      have : bs0.length = (lawCz (M.take i).reverse).length := by rw [← e0, List.length_map]
      omega
    refine seq_with (fun σ' H' => σ' = [some (.ref d), some (.ref pn), some (.ref l), some (.int (0 + (i : Int))), some (.ref pa), c5, c6, c7, c8] ∧ But l H2 H' ∧ ∃ bs1 : List (V × Cause), H' l = some (.lst (bs1.map (·.1))) ∧ (∀ b ∈ bs1, CzV H' b.1 b.2) ∧ bs1.map (·.2) = lawCz (M.take i).reverse ++ [⟨a.2.1.1, a.2.1.2, "end", a.1, .inl 0⟩]) (fun R hR => ?_) ?_
    · refine ⟨_, rfl, .inl ⟨rfl, _, SqL.of hl0⟩, _, rfl, _, rfl, pa, _, rfl, SqT.of ka.1, (fun z => absurd z.2 (by show ¬ (2 = 4); decide)), fun e1 n1 => ?_⟩
      have k1 := same_new n1 (.tup [.int a.2.1.1, .int a.2.1.2])
      refine ⟨_, rfl, _, rfl, pn, _, _, _, rfl, rfl, SqL.of (k1 _ _ hpn2), nmA, sz (by decide : 3 ≤ 100000), fun e2 n2 => ⟨sz (by decide : 2 ≤ 100000), fun e3 n3 => ?_⟩⟩
      have k2 := same_new n2 (.tup [.str "end", .str a.1, .int 0])
      have k3 := same_new n3 (.tup [.ref e1, .ref e2])
      have kA := k1.trans (k2.trans k3)
      refine ⟨l, _, _, rfl, rfl, kA _ _ hl0, by rw [List.length_map]; exact Nat.lt_of_lt_of_le (by omega : bs0.length < 100000) (sz (Nat.le_refl _)), ?_⟩
      have kl := KeepT.lst (o := .lst (bs0.map (·.1) ++ [.ref e3])) (kA _ _ hl0)
      obtain ⟨bs1, q1, q2, q3⟩ := LstOf.app (H := H2) (l := l) (v := .ref e3) (c := ⟨a.2.1.1, a.2.1.2, "end", a.1, .inl 0⟩) (H' := upd _ l (.lst (bs0.map (·.1) ++ [.ref e3]))) upd_same (fun b hb => ((hb0 b hb).keep (.of kA)).keep kl) ⟨e3, e1, .ref e2, rfl, kl _ _ upd_same, kl _ _ (k3 _ _ (k2 _ _ upd_same)), e2, rfl, kl _ _ (k3 _ _ upd_same)⟩ e0
      exact hR _ _ ⟨rfl, (But.of kA).trans But.upd, bs1, q1, q2, q3⟩
    rintro _ H3 ⟨rfl, bt3, bs1, hl1, hb1, e1⟩
    have lb1 : bs1.length ≤ 2001 := by
      have : bs1.length = bs0.length + 1 := by
        have h1 := congrArg List.length e1
        have h0 := congrArg List.length e0
        rw [List.length_map, List.length_append] at h1
        rw [List.length_map] at h0
        simp only [List.length_cons, List.length_nil] at h1
        omega
      omega
    have ka3 : H3 pa = some (.tup [.int a.2.1.1, .int a.2.1.2, .int a.2.2.1, .int a.2.2.2]) := bt3 _ _ (ne_of ka.1 hl0 (by intro z; cases z)) ka.1
    have hpn3 := bt3 _ _ (Ne.symm ln) hpn2
    refine seq_with (fun σ' H' => σ' = [some (.ref d), some (.ref pn), some (.ref l), some (.int (0 + (i : Int))), some (.ref pa), c5, c6, c7, c8] ∧ But l H3 H' ∧ LstOf CzV H' l (lawCz (M.take i).reverse ++ endsCz a)) (fun R hR => ?_) ?_
    · refine ⟨_, rfl, .inl ⟨rfl, _, SqL.of hl1⟩, _, rfl, _, rfl, pa, _, rfl, SqT.of ka3, (fun z => absurd z.1 (by show ¬ (2 = 0); decide)), fun e1' n1 => ?_⟩
      have k1 := same_new n1 (.tup [.int a.2.2.1, .int a.2.2.2])
      refine ⟨_, rfl, _, rfl, pn, _, _, _, rfl, rfl, SqL.of (k1 _ _ hpn3), nmA, sz (by decide : 3 ≤ 100000), fun e2 n2 => ⟨sz (by decide : 2 ≤ 100000), fun e3 n3 => ?_⟩⟩
      have k2 := same_new n2 (.tup [.str "end", .str a.1, .int 1])
      have k3 := same_new n3 (.tup [.ref e1', .ref e2])
      have kA := k1.trans (k2.trans k3)
      refine ⟨l, _, _, rfl, rfl, kA _ _ hl1, by rw [List.length_map]; exact Nat.lt_of_lt_of_le (by omega : bs1.length < 100000) (sz (Nat.le_refl _)), ?_⟩
      have kl := KeepT.lst (o := .lst (bs1.map (·.1) ++ [.ref e3])) (kA _ _ hl1)
      have z := LstOf.app (H := H3) (l := l) (v := .ref e3) (c := ⟨a.2.2.1, a.2.2.2, "end", a.1, .inl 1⟩) (H' := upd _ l (.lst (bs1.map (·.1) ++ [.ref e3]))) upd_same (fun b hb => ((hb1 b hb).keep (.of kA)).keep kl) ⟨e3, e1', .ref e2, rfl, kl _ _ upd_same, kl _ _ (k3 _ _ (k2 _ _ upd_same)), e2, rfl, kl _ _ (k3 _ _ upd_same)⟩ e1
      rw [List.append_assoc] at z
      exact hR _ _ ⟨rfl, (But.of kA).trans But.upd, z⟩
    rintro _ H4 ⟨rfl, bt4, cz4⟩
    have btB : But l H1 H4 := bt.trans (bt3.trans bt4)
    have hpn4 := bt4 _ _ (Ne.symm ln) hpn3
    obtain ⟨xs4, hl4, _⟩ := cz4.len
    refine ⟨_, rfl, _, rfl, _, rfl, pn, _, rfl, SqL.of hpn4, fun p2 n2 => ?_⟩
    have cut : cutV ((M.map (·.1)).map V.str) none (some (0 + (i : Int))) = ((M.take i).map (·.1)).map V.str := by
      have e : (0 + (i : Int)) = ((i : Nat) : Int) := by omega
      rw [e, cut_to, List.map_take, List.map_take]
    have g5 := same_new n2 (.lst (cutV ((M.map (·.1)).map V.str) none (some (0 + (i : Int)))))
    have hp2 : upd H4 p2 (.lst (cutV ((M.map (·.1)).map V.str) none (some (0 + (i : Int))))) p2 = some (.lst (((M.take i).map (·.1)).map V.str)) := by rw [upd_same, cut]
    have lp2 : l ≠ p2 := ne_of_none hl4 n2
    have cz5 := cz4.keep CzV.keep' (.of g5) fun xs z => g5 _ _ z
    generalize upd H4 p2 (.lst (cutV ((M.map (·.1)).map V.str) none (some (0 + (i : Int))))) = H5 at *
    have bt5 : But l H1 H5 := btB.trans (.of g5)
    refine ⟨p2, rfl, ⟨_, SqL.of hp2⟩, ?_⟩
    refine for_list (K := K) (a := p2) (xs := ((M.take i).map (·.1)).map V.str) (fun j σ H' => (∃ c5 c6 c7 c8, σ = [some (.ref d), some (.ref pn), some (.ref l), some (.int (0 + (i : Int))), some (.ref pa), c5, c6, c7, c8]) ∧ But l H5 H' ∧ LstOf CzV H' l (lawCz (M.take i).reverse ++ endsCz a ++ ((M.take i).take j).filterMap fun o => crossOf o a)) ?_ ?_ ?_ ?_
    · refine ⟨⟨_, _, _, _, rfl⟩, But.refl, ?_⟩
      rw [List.take_zero, List.filterMap_nil, List.append_nil]
      exact cz5
    · rintro j σ H' _ ⟨_, e, _⟩
      exact SqL.of (e _ _ (Ne.symm lp2) hp2)
    · rintro j x σ H6 hx ⟨⟨c5, c6, c7, c8, rfl⟩, bt6, cz6⟩
      obtain ⟨b, hb2, rfl⟩ : ∃ b, (M.take i)[j]? = some b ∧ x = V.str b.1 := by
        rw [List.getElem?_map, List.getElem?_map] at hx
        cases e : (M.take i)[j]? with
        | none => rw [e] at hx; cases hx
        | some b => rw [e] at hx; exact ⟨b, rfl, (Option.some.inj hx).symm⟩
      have inB : b ∈ L := inM _ (List.mem_of_mem_take (List.mem_of_getElem? hb2))
      have bt16 := bt5.trans bt6
      obtain ⟨vb, gb, pb, rfl, kb⟩ := (heapOf bt16).get inB
      have stB : b.2.ok := hH.ok b inB
      have ka6 : H6 pa = some (.tup [.int a.2.1.1, .int a.2.1.2, .int a.2.2.1, .int a.2.2.2]) := by
        have e4 : H4 pa = _ := bt4 _ _ (ne_of ka3 hl1 (by intro z; cases z)) ka3
        have e5 : H5 pa = _ := g5 _ _ e4
        have hl5 := g5 _ _ hl4
        exact bt6 _ _ (ne_of e5 hl5 (by intro z; cases z)) e5
      have tkb := take_snoc hb2
      dsimp only [gName, tNext, List.set]
      refine ⟨_, rfl, _, rfl, d, .ref pb, rfl, gb, _, rfl, pb, pa, b.2.1.1, b.2.1.2, b.2.2.1, b.2.2.2, a.2.1.1, a.2.1.2, a.2.2.1, a.2.2.2, rfl, kb, ⟨ka6, ka.2⟩, fun r H7 s7 mt => ?_⟩
      have bt7 : But l H5 H7 := bt6.trans (.of s7)
      have cz7 := cz6.keep CzV.keep' (.of s7) fun xs z => s7 _ _ z
      have mpart := @met_part b.2.1.1 b.2.1.2 b.2.2.1 b.2.2.2 a.2.1.1 a.2.1.2 a.2.2.1 a.2.2.2 stB.1 stA.1
      have skip : crossOf b a = none → LstOf CzV H7 l (lawCz (M.take i).reverse ++ endsCz a ++ ((M.take i).take (j + 1)).filterMap fun o => crossOf o a) := fun z => by
        rw [tkb, List.filterMap_append]
        have : ([b] : List (Str × S4)).filterMap (fun o => crossOf o a) = [] := by
          rw [List.filterMap_cons, z]
          rfl
        rw [this, List.append_nil]
        exact cz7
      cases em : meetL b.2.1.1 b.2.1.2 b.2.2.1 b.2.2.2 a.2.1.1 a.2.1.2 a.2.2.1 a.2.2.2 with
      | no =>
        rw [em] at mt
        obtain rfl : r = .non := mt
        refine ⟨_, rfl, rfl, _, rfl, iteF ?_⟩
        exact ⟨⟨_, _, _, _, rfl⟩, bt7, skip (by unfold crossOf metSq; rw [em]; rfl)⟩
      | along x1 y1 x2 y2 =>
        rw [em] at mt
        obtain ⟨p, p1, p2, rfl, hp, _⟩ := mt
        refine ⟨_, rfl, rfl, _, rfl, iteT ?_⟩
        refine ⟨_, rfl, p, _, _, _, rfl, rfl, SqT.of hp, rfl, rfl, _, rfl, iteDF (fun z => absurd (V.str.inj z) (by decide)) ?_⟩
        exact ⟨⟨_, _, _, _, rfl⟩, bt7, skip (by unfold crossOf metSq; rw [em]; rfl)⟩
      | pt x1 y1 x2 y2 =>
        rw [em] at mt
        obtain ⟨pp1, pp2⟩ := mpart em
        obtain ⟨p, qq, px, py, rfl, hp, hqq, hpx, hpy⟩ := mt
        refine ⟨_, rfl, rfl, _, rfl, iteT ?_⟩
        refine ⟨_, rfl, p, _, _, _, rfl, rfl, SqT.of hp, rfl, rfl, _, rfl, iteDT rfl ?_⟩
        refine ⟨_, rfl, p, _, _, _, rfl, rfl, SqT.of hp, rfl, qq, _, rfl, SqT.of hqq, rfl, _, _, rfl, _, _, rfl, rfl, ?_⟩
        dsimp only [gName, tNext, List.set]
        obtain ⟨bs7, hl7, hb7, e7⟩ := cz7
        have lb7 : bs7.length ≤ 5000 := by
          have h7 := congrArg List.length e7
          have hf := List.length_filterMap_le (fun o => crossOf o a) ((M.take i).take j)
          rw [List.length_take, List.length_take] at hf
          rw [List.length_map, List.length_append, List.length_append] at h7
          have l2 : (endsCz a).length = 2 := rfl
          have l3 := law_len (M.take i).reverse
          rw [List.length_reverse, List.length_take] at l3
          omega
        refine ⟨_, rfl, .inl ⟨rfl, _, SqL.of hl7⟩, _, rfl, px, x1, y1, rfl, hpx, pp1, ?_⟩
        refine ⟨_, rfl, py, x2, y2, rfl, hpy, pp2, sz (by decide : 2 ≤ 100000), fun e1 n1 => ?_⟩
        have k1 := same_new n1 (.tup [.int (nearI x1 y1), .int (nearI x2 y2)])
        have hpn7 : H7 pn = some (.lst ((M.map (·.1)).map V.str)) := s7 _ _ (bt6 _ _ (Ne.symm ln) (g5 _ _ hpn4))
        refine ⟨_, rfl, _, rfl, _, rfl, pn, _, _, _, rfl, rfl, SqL.of (k1 _ _ hpn7), nmA, sz (by decide : 3 ≤ 100000), fun e2 n2 => ⟨sz (by decide : 2 ≤ 100000), fun e3 n3 => ?_⟩⟩
        have k2 := same_new n2 (.tup [.str "cross", .str b.1, .str a.1])
        have k3 := same_new n3 (.tup [.ref e1, .ref e2])
        have kA := k1.trans (k2.trans k3)
        refine ⟨l, _, _, rfl, rfl, kA _ _ hl7, by rw [List.length_map]; exact Nat.lt_of_lt_of_le (by omega : bs7.length < 100000) (sz (Nat.le_refl _)), ?_⟩
        have kl := KeepT.lst (o := .lst (bs7.map (·.1) ++ [.ref e3])) (kA _ _ hl7)
        have z := LstOf.app (H := H7) (l := l) (v := .ref e3) (c := ⟨nearI x1 y1, nearI x2 y2, "cross", b.1, .inr a.1⟩) (H' := upd _ l (.lst (bs7.map (·.1) ++ [.ref e3]))) upd_same (fun b hb => ((hb7 b hb).keep (.of kA)).keep kl) ⟨e3, e1, .ref e2, rfl, kl _ _ upd_same, kl _ _ (k3 _ _ (k2 _ _ upd_same)), e2, rfl, kl _ _ (k3 _ _ upd_same)⟩ e7
        refine ⟨⟨_, _, _, _, rfl⟩, (bt7.trans (But.of kA)).trans But.upd, ?_⟩
        rw [tkb, List.filterMap_append, ← List.append_assoc]
        have : ([b] : List (Str × S4)).filterMap (fun o => crossOf o a) = [⟨nearI x1 y1, nearI x2 y2, "cross", b.1, .inr a.1⟩] := by
          rw [List.filterMap_cons]
          unfold crossOf metSq
          rw [em]
          rfl
        rw [this]
        exact z
    · rintro σ H6 ⟨⟨c5, c6, c7, c8, rfl⟩, bt6, cz6⟩
      have ln2 : (((M.take i).map (·.1)).map V.str).length = (M.take i).length := by rw [List.length_map, List.length_map]
      rw [ln2, List.take_length] at cz6
      refine ⟨⟨_, _, _, _, _, _, rfl⟩, bt5.trans bt6, ?_⟩
      rw [tk]
      show LstOf CzV H6 l (lawCz (M.take i).reverse ++ (endsCz a ++ (M.take i).reverse.reverse.filterMap fun o => crossOf o a))
      rw [List.reverse_reverse, ← List.append_assoc]
      exact cz6
  · rintro σ H2 ⟨⟨c3, c4, c5, c6, c7, c8, rfl⟩, bt, cz⟩
    have e1 : (((M.map (·.1)).map V.str).length : Int).toNat = M.length := by rw [lens]; omega
    rw [e1, List.take_length] at cz
    have pmL := law_perm M.reverse
    rw [List.reverse_reverse] at pmL
    obtain ⟨cs0, a0, b0, e0⟩ := cz
    have okM : ∀ p ∈ M, NmOk p.1 := fun p hp => hH.nm p (pM.mem_iff.mp hp)
    have ok : ∀ b ∈ cs0, CzOk b.2 := fun b hb => by
      have : b.2 ∈ endCz M ++ crossCz M := pmL.mem_iff.mp (by rw [← e0]; exact List.mem_map.mpr ⟨b, hb, rfl⟩)
      rcases List.mem_append.mp this with z | z
      · exact end_ok okM _ z
      · exact cross_ok okM _ z
    refine ⟨_, rfl, l, cs0, rfl, SqL.of a0, fun b hb => ⟨dp_czV (b0 b hb), (ok b hb).1⟩, fun b hb b' hb' => (ok b hb).ord (ok b' hb'), fun cs p pm pw np => ?_⟩
    have g4 := same_new np (.lst (cs.map (·.1)))
    have sH : Same H H2 := fun x o z => bt _ _ (ne_of_none z nlH) (g1 _ _ z)
    refine q p _ (cs.map (·.2)) (sH.trans g4) (sH.free np) ⟨⟨M, pM, so, ?_⟩, List.pairwise_map.mpr pw⟩ ⟨cs, upd_same, fun b hb => (b0 b (pm.mem_iff.mp hb)).keep (.of g4), rfl⟩
    have := pm.map (·.2)
    rw [e0] at this
    refine this.trans (pmL.trans (List.Perm.append_right _ ?_))
    unfold endCz
    exact pM.flatMap_right _
abbrev s_hot : Stmt := top 61
theorem sc_hot : FnScope ["_law_heap", "_law_found", "_law_spot_here", "_law_cause"] ["_law_heap"] (defScope s_hot) := ⟨rfl, rfl, rfl, by decide +kernel, rfl, by decide +kernel, by decide +kernel⟩
theorem ok_hot (B : Blt mg) (c_causes : Cal P w K mg base 4 "_law_causes" ["_law_heap"] spCauses) (F : Fun K "_law_hot" "_law_hot" s_hot f fd) : FnOk P w K mg base CX0 5 f fd ["_law_heap"] spHotG := by
  refine F.ok sc_hot (fun vs H Q E h => ?_) (fun cdv A outer s H vs Q E hr h => ?_)
  · obtain ⟨d, L, rfl, _⟩ := h
    rfl
  obtain ⟨d, L, rfl, hH, q⟩ := h
  refine ⟨_, (pss_cons (ps_set (i := 1) sc_hot.nd rfl (Or.inl rfl) pe_dnewT)
    (pss_cons (ps_for PassesOwn.never rfl (pi_list (pe_cal c_causes hr (pa_cons (pv 0) pa_nil))) (pg_tup rfl (pgs_cons (pg_name (i := 2) sc_hot.nd rfl (Or.inl rfl)) (pgs_cons (pg_name (i := 3) sc_hot.nd rfl (Or.inl rfl)) pgs_nil)))
    (pss_one (ps_asg pe_bl (pg_sub (pv 1) (pv 2) (set_dict (hu_of hr))))))
    (pss_one (ps_ret (pe_callB (cr_sortDT rfl hr.units) rfl B.sorted bt_sorted (pa_cons (pv 1) pa_nil)))))), ?_⟩
  refine fun D nD => ?_
  have gD := same_new nD (.dT [])
  have hD0 : upd H D (.dT []) D = some (.dT []) := upd_same
  generalize upd H D (.dT []) = H0 at *
  dsimp only [gName, tNext, List.set]
  refine ⟨_, rfl, d, L, rfl, hH.same gD, fun l1 H1 cs s1 n1 all z1 => ?_⟩
  have len := all.len
  have few := hH.few
  have mul : L.length * L.length ≤ 32 * 32 := Nat.mul_le_mul few few
  obtain ⟨bs, a1, b1, e1⟩ := z1
  have lb : (bs.map (·.1)).length = cs.length := by rw [← e1, List.length_map, List.length_map]
  refine ⟨l1, rfl, ⟨_, SqL.of a1⟩, ?_⟩
  have lD : l1 ≠ D := Ne.symm (ne_of_none hD0 n1)
  refine for_list (K := K) (a := l1) (xs := bs.map (·.1)) (fun i σ J => (∃ c2 c3, σ = [some (.ref d), some (.ref D), c2, c3]) ∧ (∀ a o, a ≠ D → H1 a = some o → J a = some o) ∧ ∃ S', J D = some (.dT (tabP S')) ∧ S'.Nodup ∧ S'.length ≤ i ∧ ∀ p : Int × Int, p ∈ S' ↔ ∃ c ∈ cs.take i, (c.x, c.y) = p) ?_ ?_ ?_ ?_
  · exact ⟨⟨_, _, rfl⟩, fun _ _ _ z => z, [], s1 _ _ hD0, List.nodup_nil, Nat.le_refl _, fun p => by simp⟩
  · rintro i σ J _ ⟨_, e, _⟩
    exact SqL.of (e _ _ lD a1)
  · rintro i x σ J hx ⟨⟨c2, c3, rfl⟩, e, S', hS, nd, ll, mm⟩
    obtain ⟨b, hb, rfl⟩ : ∃ b, bs[i]? = some b ∧ b.1 = x := by
      rw [List.getElem?_map] at hx
      cases eb : bs[i]? with
      | none => rw [eb] at hx; cases hx
      | some b => rw [eb] at hx; exact ⟨b, rfl, Option.some.inj hx⟩
    have hc : cs[i]? = some b.2 := by rw [← e1, List.getElem?_map, hb]; rfl
    have il : i < cs.length := (List.getElem?_eq_some_iff.mp hc).1
    have kt : KeepT H1 J := fun a xs z => e _ _ (ne_of z (s1 _ _ hD0) (by intro y; cases y)) z
    have kb := (b1 b (List.mem_of_getElem? hb)).keep kt
    obtain ⟨v, c⟩ := b
    dsimp only at kb hc ⊢
    obtain ⟨a, p, t, rfl, k1, k2, k3⟩ := kb
    refine ⟨a, _, rfl, SqT.of k1, rfl, _, _, rfl, _, _, rfl, rfl, ?_⟩
    dsimp only [gName, tNext, List.set]
    have hkey : J p = some (.tup ((keyP (c.x, c.y)).map kV)) := k2
    refine ⟨_, rfl, _, rfl, D, _, rfl, DPut.t hS hkey ?_, ?_⟩
    · unfold tabP
      rw [List.length_map]
      exact Nat.lt_of_lt_of_le (by omega : S'.length < 100000) (sz (Nat.le_refl _))
    · rw [put_tab]
      refine ⟨⟨_, _, rfl⟩, fun b o nb z => ?_, addP S' (c.x, c.y), upd_same, addP_nd nd, ?_, fun r => ?_⟩
      · rw [upd_ne nb]
        exact e _ _ nb z
      · unfold addP
        split
        · omega
        · rw [List.length_append, List.length_singleton]; omega
      · rw [addP_mem, mm, take_snoc hc]
        constructor
        · rintro (⟨y, hy, ey⟩ | z)
          · exact ⟨y, List.mem_append_left _ hy, ey⟩
          · exact ⟨c, List.mem_append_right _ (List.mem_singleton.mpr rfl), z.symm⟩
        · rintro ⟨y, hy, ey⟩
          rcases List.mem_append.mp hy with z | z
          · exact .inl ⟨y, z, ey⟩
          · rw [List.mem_singleton.mp z] at ey
            exact .inr ey.symm
  · rintro σ J ⟨⟨c2, c3, rfl⟩, e, S', hS, nd, ll, mm⟩
    rw [lb] at ll
    rw [lb, List.take_length] at mm
    refine ⟨_, rfl, D, S', rfl, .inl hS, nd, by omega, fun S2 xs p pm rise pS np => ?_⟩
    have g4 := same_new np (.lst xs)
    have sH : Same H J := fun x o z => e _ _ (ne_of_none z nD) (s1 _ _ (gD _ _ z))
    exact q p _ cs xs S2 (sH.trans g4) (sH.free np) all upd_same (pS.same g4) rise fun r => by rw [pm.mem_iff, mm]
end
end DM

namespace DM
open PySem L2
/-! ### d == e, whatever their values are made of -/
def AllEqD (K : PySem.W.Frag) (H : Hp) (ks ls : List (Key × V)) : Prop := ∀ p ∈ ks, ∃ (y : V) (d e : PyData), valV ls p.1 = some y ∧ Dp K H p.2 d ∧ Dp K H y e ∧ SeqAt.shaped d = true ∧ SeqAt.shaped e = true ∧ PyData.eqv d e = true
def rEqDD (K : PySem.W.Frag) : R2 := fun x y H Q => ∃ (a b : Addr) (ks ls : List (Key × V)), x = .ref a ∧ y = .ref b ∧ Rd H a (.dK ks) ∧ Rd H b (.dK ls) ∧ ks.length = ls.length ∧ AllEqD K H ks ls ∧ Q (.bl true) H
theorem hits_of {X : Cx} {pins : List (Addr × Obj)} {σ : L2.St} {H : Hp} {s : Shared} {A : Around} (I : Inv X pins σ H s) (hu : A.in1.units + 64 < cLine) {ls : List (Key × V)} {ys : List (Key × Value)} (rb : KV ls ys) : ∀ {ks : List (Key × V)} {xs : List (Key × Value)}, KV ks xs → AllEqD X.K H ks ls → PySem.W.KeqHits A.in1 s ys xs true
  | [], _, .nil, _ => .nil
  | (k, v) :: ks, _, .cons (b := (k', u)) h t, all => by
    obtain ⟨e1, e2⟩ := h
    have e1' : k = k' := e1
    subst e1'
    obtain ⟨y, d, e, hy, hd, he, sd, se, eq⟩ := all (k, v) List.mem_cons_self
    obtain ⟨w, hw, rw'⟩ : ∃ w, valueAt ys k = some w ∧ RelV y w := by
      have z := KV.val rb k
      rw [hy] at z
      cases ew : valueAt ys k with
      | none => rw [ew] at z; exact z.elim
      | some w => rw [ew] at z; exact ⟨w, rfl, z⟩
    obtain ⟨as, r1⟩ := Dp.reads I d v _ hd e2
    obtain ⟨bs, r2⟩ := Dp.reads I e y _ he rw'
    have one := PySem.W.keq_at (A := A) r1 r2 sd se hu
    rw [eq] at one
    exact .hit hw one (hits_of I hu rb t fun p hp => all p (List.mem_cons_of_mem _ hp))
theorem op_eqDD {X : Cx} (hu : X.A.units + 65 < cLine) : OpR X (compareOp .Eq) (rEqDD X.K) := by
  intro pins s σ H x y v u Q I rx ry h
  obtain ⟨a, b, ks, ls, rfl, rfl, ea, eb, hlen, all, q⟩ := h
  obtain rfl : v = Value.ref a := rx
  obtain rfl : u = Value.ref b := ry
  obtain ⟨_, ya, va, ra, da⟩ := dk_rd I.hok ea
  obtain ⟨_, yb, vb, rb, db⟩ := dk_rd I.hok eb
  have hl : va.length = vb.length := by rw [← ra.length, ← rb.length]; exact hlen
  exact PySem.W.keq_eq (knd := mixKind X.prog X.w) (r := true) ya yb da db (by omega) (fun _ => hits_of I (by show X.A.units + 1 + 64 < cLine; omega) rb ra all) (fin_bl I q (by simp [hl]))
def rNeDD (K : PySem.W.Frag) : R2 := fun x y H Q => ∃ (a b : Addr) (ks ls : List (Key × V)), x = .ref a ∧ y = .ref b ∧ Rd H a (.dK ks) ∧ Rd H b (.dK ls) ∧ ks.length = ls.length ∧ AllEqD K H ks ls ∧ Q (.bl false) H
theorem op_neDD {X : Cx} (hu : X.A.units + 65 < cLine) : OpR X (compareOp .NotEq) (rNeDD X.K) := by
  intro pins s σ H x y v u Q I rx ry h
  obtain ⟨a, b, ks, ls, rfl, rfl, ea, eb, hlen, all, q⟩ := h
  obtain rfl : v = Value.ref a := rx
  obtain rfl : u = Value.ref b := ry
  obtain ⟨_, ya, va, ra, da⟩ := dk_rd I.hok ea
  obtain ⟨_, yb, vb, rb, db⟩ := dk_rd I.hok eb
  have hl : va.length = vb.length := by rw [← ra.length, ← rb.length]; exact hlen
  exact PySem.W.keq_ne (knd := mixKind X.prog X.w) (r := true) ya yb da db (by omega) (fun _ => hits_of I (by show X.A.units + 1 + 64 < cLine; omega) rb ra all) (fin_bl I q (by simp [hl]))
end DM

namespace DM
open PySem L2 LamX
/-! ### dict([(name, heap[name]) for name in heap if ..]) -/
theorem iteND {c A B : Prop} [Decidable c] (hc : ¬ c) (h : A) : if (!decide c) = true then A else B := by
  rw [decide_eq_false hc]
  exact iteT h
def PairsOf {β : Type} (H : Hp) (l : Addr) (kv : β → Key × V) (cs : List β) : Prop := ∃ ds : List (Addr × β), H l = some (.lst (ds.map fun c => V.ref c.1)) ∧ (∀ c ∈ ds, H c.1 = some (.tup [kV (kv c.2).1, (kv c.2).2])) ∧ ds.map (·.2) = cs
theorem PairsOf.paired {β : Type} {K : PySem.W.Frag} {H : Hp} {l : Addr} {kv : β → Key × V} {cs : List β} (h : PairsOf H l kv cs) : ∃ ps : List Addr, SqL K H l (ps.map V.ref) ∧ Paired (fun p kv => SqT K H p [kV kv.1, kv.2]) ps (cs.map kv) := by
  obtain ⟨ds, h1, h2, rfl⟩ := h
  refine ⟨ds.map (·.1), SqL.of (by rw [List.map_map]; exact h1), ?_⟩
  clear h1
  induction ds with
  | nil => exact .nil
  | cons c ds ih => exact .cons (SqT.of (h2 c List.mem_cons_self)) (ih fun d hd => h2 d (List.mem_cons_of_mem _ hd))
theorem PairsOf.snoc {β : Type} {H H' : Hp} {l : Addr} {kv : β → Key × V} {cs : List β} {b : β} {p : Addr} (h : PairsOf H l kv cs) (e : KeepT H H') (hl : ∀ xs, H l = some (.lst xs) → H' l = some (.lst (xs ++ [.ref p]))) (hp : H' p = some (.tup [kV (kv b).1, (kv b).2])) : PairsOf H' l kv (cs ++ [b]) := by
  obtain ⟨ds, h1, h2, rfl⟩ := h
  refine ⟨ds ++ [(p, b)], ?_, fun c hc => ?_, by rw [List.map_append]; rfl⟩
  · rw [hl _ h1, List.map_append]
    rfl
  · rcases List.mem_append.mp hc with z | z
    · exact e _ _ (h2 c z)
    · cases List.mem_singleton.mp z
      exact hp
theorem PairsOf.len {β : Type} {H : Hp} {l : Addr} {kv : β → Key × V} {cs : List β} (h : PairsOf H l kv cs) : ∃ xs, H l = some (.lst xs) ∧ xs.length = cs.length := by
  obtain ⟨ds, h1, _, rfl⟩ := h
  exact ⟨_, h1, by rw [List.length_map, List.length_map]⟩
theorem filter_snoc {α : Type} (f : α → Bool) (l : List α) (a : α) : (l ++ [a]).filter f = if f a = true then l.filter f ++ [a] else l.filter f := by
  rw [List.filter_append]
  cases e : f a with
  | true => rw [if_pos rfl, List.filter_cons_of_pos e]; rfl
  | false => rw [if_neg Bool.false_ne_true, List.filter_cons_of_neg (by rw [e]; exact Bool.false_ne_true)]; exact List.append_nil _
theorem PairsOf.keep {β : Type} {H H' : Hp} {l : Addr} {kv : β → Key × V} {cs : List β} (h : PairsOf H l kv cs) (e : KeepT H H') (hl : ∀ xs, H l = some (.lst xs) → H' l = some (.lst xs)) : PairsOf H' l kv cs := by
  obtain ⟨ds, h1, h2, h3⟩ := h
  exact ⟨ds, hl _ h1, fun c hc => e _ _ (h2 c hc), h3⟩
/-- the dict of such pairs is a heap -/
theorem heap_pairs {H : Hp} {d : Addr} {rs : List ((Key × V) × (Str × S4))} {L : List (Str × S4)} (hd : H d = none) (ok : ∀ c ∈ rs, KvOk H c.1 c.2) (eL : rs.map (·.2) = L) (nd : (L.map (·.1)).Nodup) (few : L.length ≤ 32) (nm : ∀ p ∈ L, NmOk p.1) : HeapAt (upd H d (.dK (mergeK [] (rs.map (·.1))))) d L := by
  have nk : ((rs.map (·.1)).map (·.1)).Nodup := by
    have e : (rs.map (·.1)).map (·.1) = (L.map (·.1)).map (fun n => (Sum.inr n : Key)) := by
      rw [← eL, List.map_map, List.map_map, List.map_map]
      exact List.map_congr_left fun b hb' => (ok b hb').1
    rw [e]
    exact List.pairwise_map.mpr (nd.imp fun {a b} z e => z (Sum.inr.inj e))
  have em : mergeK [] (rs.map (·.1)) = rs.map (·.1) := merge_new _ [] nk
  rw [em]
  have g := same_new hd (.dK (rs.map (·.1)))
  exact ⟨⟨rs, upd_same, fun c hc => ⟨(ok c hc).1, (ok c hc).2.keep (.of g)⟩, eL⟩, nd, few, nm⟩
/-- unlocked again, all is as it was -/
theorem unlock {H J : Hp} {d : Addr} {o : Obj} {u : HO} (hd : H d = some u) (e : Same (upd H d (.frz o u)) J) : Same H (upd J d u) := fun x v z => by
  by_cases c : x = d
  · subst c
    rw [hd] at z
    cases z
    exact upd_same
  · rw [upd_ne c]
    exact e _ _ (by rw [upd_ne c]; exact z)
end DM

namespace DM
open PySem L2
/-! ### a text so many times -/
def rMulS : R2 := fun x y H Q => ∃ (a : Str) (n : Int), x = .str a ∧ y = .int n ∧ MulOk a n ∧ Q (.str (Txt.mul a n)) H
theorem op_mulS {X : Cx} : OpR X (binaryOp .Mult) rMulS := by
  intro pins s σ H x y v u Q I rx ry h
  obtain ⟨a, n, rfl, rfl, ok, q⟩ := h
  obtain ⟨t, rfl⟩ := rx
  obtain ⟨t', rfl⟩ := ry
  exact SB.mul ok fun t2 k => ⟨.str _, H, I.kept (t' := k) fun b o e => e, ⟨_, rfl⟩, q⟩
/-! ### names of up to thirty-two strokes -/
def sgK (k : Nat) : Str := ⟨#[97 + k % 8]⟩
def nmK (k : Nat) : Str := Txt.mul (sgK k) (1 + (k : Int) / 8)
theorem nmK_nd : ((List.range 32).map nmK).Nodup := by decide +kernel
theorem nmK_ok : ∀ k < 32, NmOk (nmK k) := by
  have : ∀ k : Fin 32, PyData.canLay0 (.str (nmK k.1)) = true := by decide +kernel
  exact fun k hk => this ⟨k, hk⟩
theorem mul_nm : ∀ k < 32, MulOk (sgK k) (1 + (k : Int) / 8) := by
  have : ∀ k : Fin 32, (decide (1 + (k.1 : Int) / 8 < -(2 ^ 63 : Int)) || decide (1 + (k.1 : Int) / 8 ≥ 2 ^ 63)) = false ∧ ¬ (((sgK k.1).length : Int) > (2 ^ 63 - 1) / (1 + (k.1 : Int) / 8)) ∧ PySem.Builtin.Str.tooLong ((sgK k.1).length * (1 + (k.1 : Int) / 8).toNat) = false := by decide +kernel
  intro k hk
  obtain ⟨h1, h2, h3⟩ := this ⟨k, hk⟩
  exact ⟨h1, fun _ _ => h2, fun _ _ => h3⟩
theorem sg_at (k : Nat) : atI (Str.ofString "abcdefgh").cps.toList ((k : Int) % 8) = some (97 + k % 8) := by
  have : ∀ j : Fin 8, atI (Str.ofString "abcdefgh").cps.toList ((j.1 : Nat) : Int) = some (97 + j.1) := by decide +kernel
  have h := this ⟨k % 8, Nat.mod_lt _ (by decide)⟩
  have e : ((k : Int) % 8) = ((k % 8 : Nat) : Int) := by omega
  rw [e]
  exact h
def namesK (m : Nat) : List Str := (List.range m).map nmK
theorem namesK_snoc (m : Nat) : namesK (m + 1) = namesK m ++ [nmK m] := by
  unfold namesK
  rw [List.range_succ, List.map_append]
  rfl
theorem namesK_len (m : Nat) : (namesK m).length = m := by unfold namesK; rw [List.length_map, List.length_range]
theorem namesK_nd {m : Nat} (h : m ≤ 32) : (namesK m).Nodup := by
  have e : namesK m = (namesK 32).take m := by
    unfold namesK
    rw [← List.map_take, List.take_range, Nat.min_eq_left h]
  rw [e]
  exact nmK_nd.sublist (List.take_sublist _ _)
theorem namesK_ok {m : Nat} (h : m ≤ 32) : ∀ n ∈ namesK m, NmOk n := fun n hn => by
  obtain ⟨k, hk, rfl⟩ := List.mem_map.mp hn
  exact nmK_ok k (by have := List.mem_range.mp hk; omega)
/-! ### how many causes there may be -/
theorem cross_half (N : List (Str × S4)) : 2 * (crossCz N).length ≤ N.length * (N.length - 1) := by
  induction N with
  | nil => exact Nat.le_refl _
  | cons a N ih =>
    have h := List.length_filterMap_le (crossOf a) N
    unfold crossCz
    rw [List.length_append, List.length_cons, Nat.add_sub_cancel]
    cases N with
    | nil => exact Nat.le_refl _
    | cons b N =>
      rw [List.length_cons] at *
      rw [Nat.add_sub_cancel] at ih
      have e : (N.length + 1 + 1) * (N.length + 1) = (N.length + 1) * N.length + 2 * (N.length + 1) := by
        generalize N.length = n
        rw [show n + 1 + 1 = n + 2 from rfl, Nat.add_mul, Nat.mul_comm n (n + 1)]
      omega
theorem AllCz.len2 {L : List (Str × S4)} {cs : List Cause} (h : AllCz L cs) (few : L.length ≤ 32) : cs.length ≤ 560 := by
  obtain ⟨M, pM, _, pc⟩ := h.all
  have h2 := cross_half M
  rw [pM.length_eq] at h2
  have h3 : L.length * (L.length - 1) ≤ 32 * 31 := Nat.mul_le_mul few (by omega)
  rw [pc.length_eq, List.length_append, end_len]
  omega
theorem hot_len {cs : List Cause} {S : List (Int × Int)} (rise : RiseP S) (m : ∀ p : Int × Int, p ∈ S ↔ ∃ c ∈ cs, (c.x, c.y) = p) : S.length ≤ cs.length := by
  have nd : S.Nodup := List.Pairwise.imp (S := fun x y => x ≠ y) (fun {p q} z e => by rw [e] at z; omega) rise
  have := nodup_len (B := cs.map fun c => (c.x, c.y)) nd fun p hp => by
    obtain ⟨c, hc, e⟩ := (m p).mp hp
    exact List.mem_map.mpr ⟨c, hc, e⟩
  rw [List.length_map] at this
  exact this
/-! ### causes as data, and alike -/
theorem thV_scl (t : Int ⊕ Str) : scl (thV t) = true := by cases t <;> rfl
theorem czT_alike {H : Hp} {v u : V} {c : Cause} (h : CzT H v c) (h' : CzT H u c) : Alike 1 H v u := by
  obtain ⟨a, rfl, k⟩ := h
  obtain ⟨b, rfl, k'⟩ := h'
  exact alike_tup k k' rfl (by show 3 ≤ 1000; decide) (three_of (Alike.scal rfl) (Alike.scal rfl) (Alike.scal (thV_scl _)))
theorem czV_alike {H : Hp} {v u : V} {c : Cause} (h : CzV H v c) (h' : CzV H u c) : Alike 2 H v u := by
  obtain ⟨a, p, t, rfl, k1, k2, k3⟩ := h
  obtain ⟨a', p', t', rfl, k1', k2', k3'⟩ := h'
  exact alike_tup k1 k1' rfl (by show 2 ≤ 1000; decide) (two_of (alike_ints k2 k2') (czT_alike k3 k3'))
theorem lst_alike {n : Nat} {R : Hp → V → Cause → Prop} {H : Hp} {l m : Addr} {cs : List Cause} (al : ∀ {v u : V} {c : Cause}, R H v c → R H u c → Alike n H v u) (h : LstOf R H l cs) (h' : LstOf R H m cs) (few : cs.length ≤ 1000) : Alike (n + 1) H (.ref l) (.ref m) := by
  obtain ⟨bs, h1, h2, h3⟩ := h
  obtain ⟨ds, g1, g2, g3⟩ := h'
  have l1 : bs.length = cs.length := by rw [← h3, List.length_map]
  have l2 : ds.length = cs.length := by rw [← g3, List.length_map]
  refine alike_lst h1 g1 (by rw [List.length_map, List.length_map, l1, l2]) (by rw [List.length_map, l1]; exact few) fun i x y hx hy => ?_
  rw [List.getElem?_map] at hx hy
  cases e1 : bs[i]? with
  | none => rw [e1] at hx; cases hx
  | some b =>
    cases e2 : ds[i]? with
    | none => rw [e2] at hy; cases hy
    | some d =>
      rw [e1] at hx
      rw [e2] at hy
      cases hx
      cases hy
      have a1 : cs[i]? = some b.2 := by rw [← h3, List.getElem?_map, e1]; rfl
      have a2 : cs[i]? = some d.2 := by rw [← g3, List.getElem?_map, e2]; rfl
      rw [a1] at a2
      have e := Option.some.inj a2
      have z := g2 d (List.mem_of_getElem? e2)
      rw [← e] at z
      exact al (h2 b (List.mem_of_getElem? e1)) z
theorem tails_lay : ∀ {cs : List Cause}, (∀ c ∈ cs, c.fit) → PyData.canLayAll0 (cs.map fun c => PyData.tuple c.tail) = true ∧ PyData.depthAll (cs.map fun c => PyData.tuple c.tail) ≤ 1
  | [], _ => ⟨rfl, by decide⟩
  | c :: cs, h => by
    have ih := tails_lay fun x hx => h x (List.mem_cons_of_mem _ hx)
    have f : PyData.canLayAll0 c.tail = true := h c List.mem_cons_self
    have d : PyData.depth (.tuple c.tail) = 1 := by
      unfold Cause.tail
      cases c.th <;> simp [PyData.depth, PyData.depthAll, thD]
    rw [List.map_cons]
    unfold PyData.canLayAll0 PyData.depthAll
    rw [ih.1, d]
    refine ⟨?_, by omega⟩
    unfold PyData.canLay0
    rw [f]
    rfl
theorem tails_shaped {cs : List Cause} (h : ∀ c ∈ cs, c.fit) : SeqAt.shaped (.list (cs.map fun c => PyData.tuple c.tail)) = true := by
  have z := tails_lay h
  unfold SeqAt.shaped
  have e1 : PyData.canLay0 (.list (cs.map fun c => PyData.tuple c.tail)) = true := by unfold PyData.canLay0; exact z.1
  have e2 : PyData.depth (.list (cs.map fun c => PyData.tuple c.tail)) ≤ 64 := by unfold PyData.depth; omega
  rw [e1, decide_eq_true e2]
  rfl
theorem dp_tails {K : PySem.W.Frag} {H : Hp} {l : Addr} {cs : List Cause} (h : LstOf CzT H l cs) : Dp K H (.ref l) (.list (cs.map fun c => PyData.tuple c.tail)) := by
  obtain ⟨bs, h1, h2, rfl⟩ := h
  refine .lst (SqL.of h1) ?_
  clear h1
  induction bs with
  | nil => exact .nil
  | cons b bs ih => exact .cons (dp_czT (h2 b List.mem_cons_self)) (ih fun x hx => h2 x (List.mem_cons_of_mem _ hx))
theorem eqv_len {a b : List PyData} (h : a.length ≠ b.length) : PyData.eqv (.list a) (.list b) = false := by
  have : ∀ {a b : List PyData}, a.length ≠ b.length → PyData.eqvAll a b = false := fun {a} => by
    induction a with
    | nil =>
      intro b h
      cases b with
      | nil => exact absurd rfl h
      | cons y b => rfl
    | cons x a ih =>
      intro b h
      cases b with
      | nil => rfl
      | cons y b =>
        unfold PyData.eqvAll
        rw [ih fun z => h (by rw [List.length_cons, List.length_cons, z])]
        exact Bool.and_false _
  unfold PyData.eqv
  exact this h
theorem shaped_four (a b c d : Int) : SeqAt.shaped (.tuple [.int a, .int b, .int c, .int d]) = true := by
  first | rfl | simp [SeqAt.shaped, PyData.canLay0, PyData.depth]
theorem eqv_four (a b c d : Int) : PyData.eqv (.tuple [.int a, .int b, .int c, .int d]) (.tuple [.int a, .int b, .int c, .int d]) = true := by
  simp [PyData.eqv, PyData.eqvAll]
theorem dp_stk {K : PySem.W.Frag} {H : Hp} {v : V} {s : S4} (h : StkV H v s) : Dp K H v (.tuple [.int s.1.1, .int s.1.2, .int s.2.1, .int s.2.2]) := by
  obtain ⟨p, rfl, hp⟩ := h
  exact .tup (SqT.of hp.1) (.cons (.int _) (.cons (.int _) (.cons (.int _) (.cons (.int _) .nil))))
/-- a heap is like itself, told twice -/
theorem HeapAt.eq {K : PySem.W.Frag} {H : Hp} {d : Addr} {L : List (Str × S4)} (h : HeapAt H d L) {kvs : List (Key × V)} (hd : H d = some (.dK kvs)) : AllEqD K H kvs kvs := fun p hp => by
  obtain ⟨bs, h1, h2, h3⟩ := h.at'
  rw [hd] at h1
  cases h1
  obtain ⟨b, hb, rfl⟩ := List.mem_map.mp hp
  have nd : ((bs.map (·.1)).map (·.1)).Nodup := by
    have e : (bs.map (·.1)).map (·.1) = (L.map (·.1)).map (fun n => (Sum.inr n : Key)) := by
      rw [← h3, List.map_map, List.map_map, List.map_map]
      exact List.map_congr_left fun b hb => (h2 b hb).1
    rw [e]
    exact List.pairwise_map.mpr (h.nd.imp fun {a b} z e => z (Sum.inr.inj e))
  have k := (h2 b hb).2
  exact ⟨b.1.2, _, _, valV_in nd (List.mem_map.mpr ⟨b, hb, rfl⟩), dp_stk k, dp_stk k, shaped_four _ _ _ _, shaped_four _ _ _ _, eqv_four _ _ _ _⟩
theorem HeapAt.copy {H H' : Hp} {d p : Addr} {L : List (Str × S4)} (h : HeapAt H d L) {kvs : List (Key × V)} (hd : H d = some (.dK kvs)) (e : KeepT H H') (hp : H' p = some (.dK kvs)) : HeapAt H' p L := by
  obtain ⟨bs, h1, h2, h3⟩ := h.at'
  rw [hd] at h1
  cases h1
  exact ⟨⟨bs, hp, fun b hb => ⟨(h2 b hb).1, (h2 b hb).2.keep e⟩, h3⟩, h.nd, h.few, h.nm⟩
theorem heap_nil {H : Hp} {d : Addr} (h : H d = some (.dK [])) : HeapAt H d [] := ⟨⟨[], h, (fun b hb => by cases hb), rfl⟩, List.nodup_nil, Nat.zero_le _, fun p hp => by cases hp⟩
theorem AllCz.nil {cs : List Cause} (h : AllCz [] cs) : cs = [] := by
  obtain ⟨M, pM, _, pc⟩ := h.all
  have : M = [] := List.Perm.eq_nil pM
  subst this
  exact List.Perm.eq_nil pc
theorem AllCz.fit {L : List (Str × S4)} {cs : List Cause} (h : AllCz L cs) (nm : ∀ p ∈ L, NmOk p.1) : ∀ c ∈ cs, c.fit := fun c hc => by
  obtain ⟨M, pM, _, pc⟩ := h.all
  rcases List.mem_append.mp (pc.mem_iff.mp hc) with z | z
  · exact (end_ok nm c z).1
  · exact (cross_ok (fun p hp => nm p (pM.mem_iff.mp hp)) c z).1
end DM

namespace DM
open PySem L2
/-! ### rings of strokes round a center -/
def spSpotL : Sp := fun vs H Q _ => ∃ (b l pb : Addr) (x y m : Int), vs = [.ref b, .ref pb, .int m] ∧ BagAt H b l ∧ H pb = some (.lst [.int x, .int y]) ∧ pb ≠ b ∧ 0 < m ∧ m ≤ 1000 ∧ ∀ (p : Addr) (H' : Hp) (x' y' : Int), BagAt H' b l → But b H H' → H p = none → Pt H' p x' y' → Q (.ref p) H'
def spCenter : Sp := fun vs H Q _ => ∃ (b l : Addr), vs = [.ref b] ∧ BagAt H b l ∧ ∀ (p : Addr) (H' : Hp) (x y : Int), BagAt H' b l → But b H H' → p ≠ b → H' p = some (.lst [.int x, .int y]) → -29 ≤ x → x ≤ 29 → -29 ≤ y → y ≤ 29 → Q (.ref p) H'
def spRing : Sp := fun vs H Q _ => ∃ (b l pc : Addr) (x y : Int), vs = [.ref b, .ref pc] ∧ BagAt H b l ∧ H pc = some (.lst [.int x, .int y]) ∧ pc ≠ b ∧ (-29 ≤ x ∧ x ≤ 29 ∧ -29 ≤ y ∧ y ≤ 29) ∧ ∀ (p : Addr) (H' : Hp) (T : List S4), BagAt H' b l → But b H H' → p ≠ b → LstOf StkV H' p T → T.length ≤ 4 → Q (.ref p) H'
def spRings : Sp := fun vs H Q _ => ∃ (b l : Addr) (m : Nat), vs = [.ref b, .int (m : Nat)] ∧ BagAt H b l ∧ m ≤ 2 ∧ ∀ (p : Addr) (H' : Hp) (T : List S4), BagAt H' b l → But b H H' → p ≠ b → LstOf StkV H' p T → T.length ≤ 8 → Q (.ref p) H'
def spAnyHeap : Sp := fun vs H Q _ => ∃ (b l : Addr) (m : Nat), vs = [.ref b, .int (m : Nat)] ∧ BagAt H b l ∧ m ≤ 8 ∧ ∀ (d : Addr) (H' : Hp) (L : List (Str × S4)), BagAt H' b l → But b H H' → d ≠ b → d ≠ l → HeapAt H' d L → L.length ≤ 10 → Q (.ref d) H'
theorem BagAt.off {H J : Hp} {b l p : Addr} (h : BagAt H b l) (bt : But b H J) (hJ : BagAt J b l) (n : J p = none) : H p = none := by
  by_cases c : p = b
  · subst c
    obtain ⟨_, _, _, _, z, _⟩ := hJ
    rw [z] at n
    cases n
  · cases e : H p with
    | none => rfl
    | some o =>
      rw [bt _ _ c e] at n
      cases n
def PtV (H : Hp) (v : V) (s : Int × Int) : Prop := ∃ a : Addr, v = .ref a ∧ Pt H a s.1 s.2
theorem PtV.keep' (H H' : Hp) (v : V) (s : Int × Int) (h : PtV H v s) (e : KeepT H H') : PtV H' v s := by
  obtain ⟨a, rfl, h1, h2⟩ := h
  exact ⟨a, rfl, e _ _ h1, h2⟩
theorem depth_prD (p : Int × Int) : (prD p).depth ≤ 50 := by
  have : (prD p).depth = 1 := by simp [prD, PyData.depth, PyData.depthAll]
  omega
theorem at_last {xs : List V} {v : V} (h : xs[xs.length - 1]? = some v) : atI xs (-1) = some v := by
  rcases List.eq_nil_or_concat xs with rfl | ⟨ys, u, rfl⟩
  · cases h
  · rw [List.concat_eq_append] at *
    rw [List.length_append, List.length_singleton, Nat.add_sub_cancel, List.getElem?_concat_length] at h
    cases h
    exact atI_last ys v
def FourV (H : Hp) (v : V) (s : S4) : Prop := ∃ p : Addr, v = .ref p ∧ H p = some (.tup [.int s.1.1, .int s.1.2, .int s.2.1, .int s.2.2]) ∧ -40 ≤ s.1.1 ∧ s.1.1 ≤ 40 ∧ -40 ≤ s.1.2 ∧ s.1.2 ≤ 40 ∧ -40 ≤ s.2.1 ∧ s.2.1 ≤ 40 ∧ -40 ≤ s.2.2 ∧ s.2.2 ≤ 40
theorem FourV.keep' (H H' : Hp) (v : V) (s : S4) (h : FourV H v s) (e : KeepT H H') : FourV H' v s := by
  obtain ⟨a, rfl, h1, h2⟩ := h
  exact ⟨a, rfl, e _ _ h1, h2⟩
section
variable {P : Program} {w : World} {K : PySem.W.Frag} {mg : Str → Option Value} {base : Heap} {f : Addr} {fd : FuncData}
end
end DM

namespace L2
open PySem PySem.Spec PyProof.Rows
section
variable {X : Cx}
/-- x in t, t a tuple of data of any depth -/
def rInDT (K : PySem.W.Frag) : R2 := fun x y H Q => ∃ d ds, Dp K H x d ∧ Dp K H y (.tuple ds) ∧ SeqAt.shaped d = true ∧ SeqAt.shaped (.tuple ds) = true ∧ Q (.bl (ds.any fun z => PyData.eqv z d)) H
theorem op_inDT (hu : X.A.units + 65 < cLine) : OpR X (compareOp .In) (rInDT X.K) := by
  intro pins s σ H x y v u Q I rx ry h
  obtain ⟨d, ds, hd, he, sd, se, q⟩ := h
  obtain ⟨as, r1⟩ := Dp.reads I d x v hd rx
  obtain ⟨bs, r2⟩ := Dp.reads I (.tuple ds) y u he ry
  exact SeqAt.in_tuple_reads r2 r1 (SeqAt.canLay_of_shaped se) (SeqAt.canLay_of_shaped sd) (room_in_shaped sd hu) ⟨.bl _, H, I, rfl, q⟩
end
end L2

namespace DM
open PySem L2
/-! ### papers for heat -/
theorem op_ge_str {X : Cx} : OpR X (compareOp .GtE) (fun x y H Q => ∃ i j, x = .str i ∧ y = .str j ∧ Q (.bl (!decide (i.cps.toList < j.cps.toList))) H) := by
  intro pins s σ H x y v u Q I rx ry h
  obtain ⟨i, j, rfl, rfl, q⟩ := h
  obtain ⟨t, rfl⟩ := rx
  obtain ⟨t', rfl⟩ := ry
  exact PySem.P.ge_str ⟨.bl _, H, I, rfl, q⟩
theorem sq_thr {s t : S4} (hs : s.ok) (ht : t.ok) {p : Int × Int} (h : metSq s t = some p) : Thr s.1.1 s.1.2 s.2.1 s.2.2 p.1 p.2 := by
  unfold metSq at h
  have mo := meet_both hs.2 ht.2
  have mp := @met_part s.1.1 s.1.2 s.2.1 s.2.2 t.1.1 t.1.2 t.2.1 t.2.2 hs.1 ht.1
  cases e : meetL s.1.1 s.1.2 s.2.1 s.2.2 t.1.1 t.1.2 t.2.1 t.2.2 with
  | no => rw [e] at h; cases h
  | along a b c d => rw [e] at h; cases h
  | pt a b c d =>
    rw [e] at h mo
    cases h
    have pp := mp e
    have n1 := near_ok (a := a) pp.1.2.2.1
    have n2 := near_ok (a := c) pp.2.2.2.1
    exact On.thr mo.1 n1.1 n1.2 n2.1 n2.2
theorem ends_thr {s : S4} (hs : s.ok) : Thr s.1.1 s.1.2 s.2.1 s.2.2 s.1.1 s.1.2 ∧ Thr s.1.1 s.1.2 s.2.1 s.2.2 s.2.1 s.2.2 :=
  ⟨(on_line hs.2 (crs_end1 _ _ _ _) (by omega) (by omega)).spot, (on_line hs.2 (crs_end2 _ _ _ _) (by omega) (by omega)).spot⟩
def thruP (M : List (Str × S4)) (x y : Int) : List (Str × S4) := M.filter fun p => goesL p.2.1.1 p.2.1.2 p.2.2.1 p.2.2.2 x y
def thruN (M : List (Str × S4)) (x y : Int) : List Str := (thruP M x y).map (·.1)
def SrtOf (L M : List (Str × S4)) : Prop := M.Perm L ∧ PyProof.Rows.sortedS (M.map (·.1)) = true
def SmP (x y : Int) : Prop := -1000 ≤ x ∧ x ≤ 1000 ∧ -1000 ≤ y ∧ y ≤ 1000
theorem srt_lt {L M : List (Str × S4)} (h : SrtOf L M) (nd : (L.map (·.1)).Nodup) : M.Pairwise (fun a b => a.1.cps.toList < b.1.cps.toList) := by
  have h1 := List.pairwise_map.mp (sorted_le2 h.2)
  have nd' : (M.map (·.1)).Nodup := (h.1.map (·.1)).nodup_iff.mpr nd
  have h2 := List.pairwise_map.mp nd'
  exact (h1.and h2).imp fun {a b} z => Decidable.byContradiction fun c => z.2 (str_cps (List.le_antisymm z.1 c))
theorem mem_crossCz {c : Cause} : ∀ {M : List (Str × S4)}, c ∈ crossCz M ↔ ∃ (i j : Nat) (a b : Str × S4), i < j ∧ M[i]? = some a ∧ M[j]? = some b ∧ crossOf a b = some c
  | [] => by
    constructor
    · intro h
      cases h
    · rintro ⟨i, j, a, b, _, h, _⟩
      cases h
  | p :: M => by
    unfold crossCz
    rw [List.mem_append, mem_crossCz, List.mem_filterMap]
    constructor
    · rintro (⟨b, hb, e⟩ | ⟨i, j, a, b, lt, h1, h2, e⟩)
      · obtain ⟨j, hj⟩ := List.mem_iff_getElem?.mp hb
        exact ⟨0, j + 1, p, b, by omega, rfl, by rw [List.getElem?_cons_succ]; exact hj, e⟩
      · exact ⟨i + 1, j + 1, a, b, by omega, by rw [List.getElem?_cons_succ]; exact h1, by rw [List.getElem?_cons_succ]; exact h2, e⟩
    · rintro ⟨i, j, a, b, lt, h1, h2, e⟩
      obtain ⟨j, rfl⟩ : ∃ k, j = k + 1 := ⟨j - 1, by omega⟩
      rw [List.getElem?_cons_succ] at h2
      rcases i with _ | i
      · cases h1
        exact .inl ⟨b, List.mem_of_getElem? h2, e⟩
      · rw [List.getElem?_cons_succ] at h1
        exact .inr ⟨i, j, a, b, by omega, h1, h2, e⟩
def endAt (p : Str × S4) (k : Int) : Int × Int := if k = 0 then p.2.1 else p.2.2
/-- which causes there are -/
theorem AllCz.end_iff {L : List (Str × S4)} {cs : List Cause} (h : AllCz L cs) {x y k : Int} (hk : k = 0 ∨ k = 1) {n : Str} : (⟨x, y, "end", n, .inl k⟩ : Cause) ∈ cs ↔ ∃ p ∈ L, p.1 = n ∧ endAt p k = (x, y) := by
  obtain ⟨M, pM, _, pc⟩ := h.all
  rw [pc.mem_iff, List.mem_append]
  constructor
  · rintro (z | z)
    · obtain ⟨p, hp, hc⟩ := List.mem_flatMap.mp z
      simp only [endsCz, List.mem_cons, List.not_mem_nil, or_false] at hc
      rcases hc with e | e
      · injection e with e1 e2 e3 e4 e5
        have := Sum.inl.inj e5
        exact ⟨p, hp, e4.symm, by unfold endAt; rw [if_pos this, e1, e2]⟩
      · injection e with e1 e2 e3 e4 e5
        have := Sum.inl.inj e5
        exact ⟨p, hp, e4.symm, by unfold endAt; rw [if_neg (by omega), e1, e2]⟩
    · obtain ⟨i, j, a, b, _, _, _, e⟩ := mem_crossCz.mp z
      unfold crossOf at e
      cases m : metSq a.2 b.2 with
      | none => rw [m] at e; cases e
      | some q =>
        rw [m] at e
        have := Option.some.inj e
        injection this with e1 e2 e3 e4 e5
        cases e5
  · rintro ⟨p, hp, rfl, e⟩
    refine .inl (List.mem_flatMap.mpr ⟨p, hp, ?_⟩)
    simp only [endsCz, List.mem_cons, List.not_mem_nil, or_false]
    unfold endAt at e
    rcases hk with rfl | rfl
    · rw [if_pos rfl] at e
      left
      rw [e]
    · rw [if_neg (by decide)] at e
      right
      rw [e]
theorem AllCz.cross_iff {L : List (Str × S4)} {cs : List Cause} (h : AllCz L cs) (nd : (L.map (·.1)).Nodup) {x y : Int} {n m : Str} : (⟨x, y, "cross", n, .inr m⟩ : Cause) ∈ cs ↔ n.cps.toList < m.cps.toList ∧ ∃ p ∈ L, ∃ q ∈ L, p.1 = n ∧ q.1 = m ∧ metSq p.2 q.2 = some (x, y) := by
  obtain ⟨M, pM, so, pc⟩ := h.all
  have pw := srt_lt ⟨pM, so⟩ nd
  rw [pc.mem_iff, List.mem_append]
  constructor
  · rintro (z | z)
    · obtain ⟨p, hp, hc⟩ := List.mem_flatMap.mp z
      simp only [endsCz, List.mem_cons, List.not_mem_nil, or_false] at hc
      rcases hc with e | e <;> (injection e with e1 e2 e3 e4 e5; cases e5)
    · obtain ⟨i, j, a, b, lt, h1, h2, e⟩ := mem_crossCz.mp z
      unfold crossOf at e
      cases mm : metSq a.2 b.2 with
      | none => rw [mm] at e; cases e
      | some q =>
        rw [mm] at e
        have := Option.some.inj e
        injection this with e1 e2 e3 e4 e5
        have e5' := Sum.inr.inj e5
        have e4' : a.1 = n := e4
        refine ⟨?_, a, pM.mem_iff.mp (List.mem_of_getElem? h1), b, pM.mem_iff.mp (List.mem_of_getElem? h2), e4', e5', ?_⟩
        · rw [← e4', ← e5']
          obtain ⟨i1, g1⟩ := List.getElem?_eq_some_iff.mp h1
          obtain ⟨i2, g2⟩ := List.getElem?_eq_some_iff.mp h2
          have := List.pairwise_iff_getElem.mp pw i j i1 i2 lt
          rw [g1, g2] at this
          exact this
        · rw [← e1, ← e2]
          exact mm
  · rintro ⟨lt, p, hp, q, hq, rfl, rfl, e⟩
    refine .inr (mem_crossCz.mpr ?_)
    obtain ⟨i, hi⟩ := List.mem_iff_getElem?.mp (pM.mem_iff.mpr hp)
    obtain ⟨j, hj⟩ := List.mem_iff_getElem?.mp (pM.mem_iff.mpr hq)
    obtain ⟨i1, g1⟩ := List.getElem?_eq_some_iff.mp hi
    obtain ⟨i2, g2⟩ := List.getElem?_eq_some_iff.mp hj
    refine ⟨i, j, p, q, ?_, hi, hj, by unfold crossOf; rw [e]; rfl⟩
    rcases Nat.lt_trichotomy i j with z | z | z
    · exact z
    · subst z
      rw [hi] at hj
      cases hj
      exact absurd lt (List.lt_irrefl _)
    · have := List.pairwise_iff_getElem.mp pw j i i2 i1 z
      rw [g1, g2] at this
      exact absurd (List.lt_trans lt this) (List.lt_irrefl _)
/-- every cause is an end or a cross -/
def PapC (c : Cause) : Prop := (c.wd = "end" ∧ ∃ k, c.th = .inl k ∧ (k = 0 ∨ k = 1)) ∨ (c.wd = "cross" ∧ ∃ m, c.th = .inr m)
theorem AllCz.pap {L : List (Str × S4)} {cs : List Cause} (h : AllCz L cs) {c : Cause} (hc : c ∈ cs) : PapC c := by
  obtain ⟨M, pM, so, pc⟩ := h.all
  rcases List.mem_append.mp (pc.mem_iff.mp hc) with z | z
  · obtain ⟨p, hp, hc⟩ := List.mem_flatMap.mp z
    simp only [endsCz, List.mem_cons, List.not_mem_nil, or_false] at hc
    rcases hc with rfl | rfl
    · exact .inl ⟨rfl, 0, rfl, .inl rfl⟩
    · exact .inl ⟨rfl, 1, rfl, .inr rfl⟩
  · obtain ⟨i, j, a, b, _, _, _, e⟩ := mem_crossCz.mp z
    unfold crossOf at e
    cases m : metSq a.2 b.2 with
    | none => rw [m] at e; cases e
    | some q =>
      rw [m] at e
      have := Option.some.inj e
      subst this
      exact .inr ⟨rfl, b.1, rfl⟩
/-- no cause lies at a spot -/
def ColdAt (cs : List Cause) (x y : Int) : Prop := ∀ c ∈ cs, ¬ (c.x = x ∧ c.y = y)
def ColdI (N : List (Str × S4)) (x y : Int) (i : Nat) : Prop := ∀ a, a < i → ∀ p, N[a]? = some p → p.2.1 ≠ (x, y) ∧ p.2.2 ≠ (x, y) ∧ ∀ b, a < b → ∀ q, N[b]? = some q → metSq p.2 q.2 ≠ some (x, y)
theorem filter_at {α : Type} {f : α → Bool} : ∀ {M : List α} {i j : Nat} {a b : α}, i < j → M[i]? = some a → M[j]? = some b → f a = true → f b = true → ∃ i' j' : Nat, i' < j' ∧ (M.filter f)[i']? = some a ∧ (M.filter f)[j']? = some b
  | [], _, _, _, _, _, h, _, _, _ => by cases h
  | p :: M, i, j, a, b, lt, h1, h2, ta, tb => by
    obtain ⟨j, rfl⟩ : ∃ k, j = k + 1 := ⟨j - 1, by omega⟩
    rw [List.getElem?_cons_succ] at h2
    rcases i with _ | i
    · cases h1
      rw [List.filter_cons_of_pos ta]
      obtain ⟨k, hk⟩ := List.mem_iff_getElem?.mp (List.mem_filter.mpr ⟨List.mem_of_getElem? h2, tb⟩)
      exact ⟨0, k + 1, by omega, rfl, by rw [List.getElem?_cons_succ]; exact hk⟩
    · rw [List.getElem?_cons_succ] at h1
      obtain ⟨i', j', l', g1, g2⟩ := filter_at (by omega) h1 h2 ta tb
      by_cases c : f p = true
      · rw [List.filter_cons_of_pos c]
        exact ⟨i' + 1, j' + 1, by omega, by rw [List.getElem?_cons_succ]; exact g1, by rw [List.getElem?_cons_succ]; exact g2⟩
      · rw [List.filter_cons_of_neg c]
        exact ⟨i', j', l', g1, g2⟩
theorem cold_all {L M : List (Str × S4)} {cs : List Cause} (h : AllCz L cs) (nd : (L.map (·.1)).Nodup) (ok : ∀ p ∈ L, p.2.ok) (so : SrtOf L M) {x y : Int} (c : ColdI (thruP M x y) x y (thruP M x y).length) : ColdAt cs x y := fun c' hc e => by
  obtain ⟨M', pM', so', pc⟩ := h.all
  obtain rfl := names_only nd pM' so.1 so' so.2
  rcases List.mem_append.mp (pc.mem_iff.mp hc) with z | z
  · obtain ⟨p, hp, hc⟩ := List.mem_flatMap.mp z
    have et := ends_thr (ok p hp)
    have inT : goesL p.2.1.1 p.2.1.2 p.2.2.1 p.2.2.2 x y = true → p ∈ thruP M' x y := fun g => List.mem_filter.mpr ⟨pM'.mem_iff.mpr hp, g⟩
    simp only [endsCz, List.mem_cons, List.not_mem_nil, or_false] at hc
    rcases hc with rfl | rfl
    · dsimp only at e
      obtain ⟨i, hi⟩ := List.mem_iff_getElem?.mp (inT ((goesL_iff _ _ _ _ _ _).mpr (by rw [← e.1, ← e.2]; exact et.1)))
      exact (c i (List.getElem?_eq_some_iff.mp hi).1 p hi).1 (Prod.ext e.1 e.2)
    · dsimp only at e
      obtain ⟨i, hi⟩ := List.mem_iff_getElem?.mp (inT ((goesL_iff _ _ _ _ _ _).mpr (by rw [← e.1, ← e.2]; exact et.2)))
      exact (c i (List.getElem?_eq_some_iff.mp hi).1 p hi).2.1 (Prod.ext e.1 e.2)
  · obtain ⟨i, j, a, b, lt, h1, h2, ec⟩ := mem_crossCz.mp z
    unfold crossOf at ec
    cases m : metSq a.2 b.2 with
    | none => rw [m] at ec; cases ec
    | some q =>
      rw [m] at ec
      have := Option.some.inj ec
      subst this
      dsimp only at e
      have oa := ok a (pM'.mem_iff.mp (List.mem_of_getElem? h1))
      have ob := ok b (pM'.mem_iff.mp (List.mem_of_getElem? h2))
      have ta := sq_thr oa ob m
      have tb := sq_thr ob oa (by rw [metSq_swap oa ob]; exact m)
      rw [e.1, e.2] at ta tb
      obtain ⟨i', j', l', g1, g2⟩ := filter_at (f := fun p : Str × S4 => goesL p.2.1.1 p.2.1.2 p.2.2.1 p.2.2.2 x y) lt h1 h2 ((goesL_iff _ _ _ _ _ _).mpr ta) ((goesL_iff _ _ _ _ _ _).mpr tb)
      refine (c i' (List.getElem?_eq_some_iff.mp g1).1 a g1).2.2 j' l' b g2 ?_
      rw [m, ← e.1, ← e.2]
end DM

namespace DM
open PySem L2
theorem valV_miss {kvs : List (Key × V)} {k : Key} (h : ∀ p ∈ kvs, p.1 ≠ k) : valV kvs k = none := by
  induction kvs with
  | nil => rfl
  | cons p kvs ih =>
    obtain ⟨a, b⟩ := p
    rw [valV_neg (h _ List.mem_cons_self)]
    exact ih fun q hq => h q (List.mem_cons_of_mem _ hq)
/-- a name is in a heap, or is not -/
theorem HeapAt.look {H : Hp} {d : Addr} {L : List (Str × S4)} (h : HeapAt H d L) (n : Str) : (∃ p ∈ L, p.1 = n ∧ ∃ pa : Addr, DGet H d (.str n) (some (.ref pa)) ∧ Stk H pa p.2.1.1 p.2.1.2 p.2.2.1 p.2.2.2) ∨ ((∀ p ∈ L, p.1 ≠ n) ∧ DGet H d (.str n) none) := by
  by_cases c : ∃ p ∈ L, p.1 = n
  · obtain ⟨p, hp, rfl⟩ := c
    obtain ⟨v, g, pa, rfl, k⟩ := h.get hp
    exact .inl ⟨p, hp, rfl, pa, g, k⟩
  · have c' : ∀ p ∈ L, p.1 ≠ n := fun p hp e => c ⟨p, hp, e⟩
    obtain ⟨bs, h1, h2, h3⟩ := h.at'
    refine .inr ⟨c', .inl ⟨_, .inr n, .inl h1, rfl, (valV_miss fun q hq e => ?_).symm⟩⟩
    obtain ⟨b, hb, rfl⟩ := List.mem_map.mp hq
    rw [(h2 b hb).1] at e
    exact c' b.2 (by rw [← h3]; exact List.mem_map.mpr ⟨b, hb, rfl⟩) (Sum.inr.inj e)
theorem HeapAt.one {H : Hp} {d : Addr} {L : List (Str × S4)} (h : HeapAt H d L) {p q : Str × S4} (hp : p ∈ L) (hq : q ∈ L) (e : p.1 = q.1) : p = q := by
  obtain ⟨i, hi⟩ := List.mem_iff_getElem?.mp hp
  obtain ⟨j, hj⟩ := List.mem_iff_getElem?.mp hq
  have p1 : (L.map (·.1))[i]? = some p.1 := by rw [List.getElem?_map, hi]; rfl
  have p2 : (L.map (·.1))[j]? = some q.1 := by rw [List.getElem?_map, hj]; rfl
  rcases Nat.lt_trichotomy i j with z | z | z
  · exact absurd e (pair_at h.nd z p1 p2)
  · rw [z, hj] at hi
    exact (Option.some.inj hi).symm
  · exact absurd e.symm (pair_at h.nd z p2 p1)
def spThru : Sp := fun vs H Q _ => ∃ (d ps : Addr) (x y : Int) (L : List (Str × S4)), vs = [.ref d, .ref ps] ∧ HeapAt H d L ∧ H ps = some (.tup [.int x, .int y]) ∧ SmP x y ∧ ∀ (t : Addr) (H' : Hp) (M : List (Str × S4)), Same H H' → H t = none → SrtOf L M → H' t = some (.tup ((thruN M x y).map V.str)) → Q (.ref t) H'
def spEndsThere : Sp := fun vs H Q _ => ∃ (d ps : Addr) (x y k : Int) (n : Str) (L : List (Str × S4)), vs = [.ref d, .ref ps, .str n, .int k] ∧ HeapAt H d L ∧ H ps = some (.tup [.int x, .int y]) ∧ (k = 0 ∨ k = 1) ∧ ∀ (r : Bool) (H' : Hp), Same H H' → (r = true ↔ ∃ p ∈ L, p.1 = n ∧ endAt p k = (x, y)) → Q (.bl r) H'
def spCrossThere : Sp := fun vs H Q _ => ∃ (d ps : Addr) (x y : Int) (n m : Str) (L : List (Str × S4)), vs = [.ref d, .ref ps, .str n, .str m] ∧ HeapAt H d L ∧ H ps = some (.tup [.int x, .int y]) ∧ ∀ (r : Bool) (H' : Hp), Same H H' → (r = true ↔ n.cps.toList < m.cps.toList ∧ ∃ p ∈ L, ∃ q ∈ L, p.1 = n ∧ q.1 = m ∧ metSq p.2 q.2 = some (x, y)) → Q (.bl r) H'
def spLeaveCold : Sp := fun vs H Q _ => ∃ (d ps pt : Addr) (x y : Int) (L M : List (Str × S4)), vs = [.ref d, .ref ps, .ref pt] ∧ HeapAt H d L ∧ H ps = some (.tup [.int x, .int y]) ∧ SrtOf L M ∧ H pt = some (.tup ((thruN M x y).map V.str)) ∧ ∀ (r : Bool) (H' : Hp), Same H H' → (∀ cs, AllCz L cs → (r = true ↔ ColdAt cs x y)) → Q (.bl r) H'
section
variable {P : Program} {w : World} {K : PySem.W.Frag} {mg : Str → Option Value} {base : Heap} {f : Addr} {fd : FuncData}
abbrev s_through : Stmt := top 29
theorem sc_through : FnScope ["heap", "spot", "name"] ["heap", "spot"] (defScope s_through) := ⟨rfl, rfl, rfl, by decide +kernel, rfl, by decide +kernel, by decide +kernel⟩
theorem ok_through (B : Blt mg) (c_p_goes : Cal P w K mg base 3 "goes" ["stroke", "spot"] spGoes) (F : Fun K "through" "through" s_through f fd) : FnOk P w K mg base CX0 4 f fd ["heap", "spot"] spThru := by
  refine F.ok sc_through (fun vs H Q E h => ?_) (fun cdv A outer s H vs Q E hr h => ?_)
  · obtain ⟨d, ps, x, y, L, rfl, _⟩ := h
    rfl
  obtain ⟨d, ps, x, y, L, rfl, hH, hp, sm, q⟩ := h
  refine ⟨_, (pss_one (ps_ret (pe_callTy call_tuple_of rfl B.tuple bt_tuple (pa_cons (pe_lc (own := [("name", 2)]) (g := gName 2) (tt := _) rfl sc_through.nd (pi_list (pe_callB (call_sortedD rfl) rfl B.sorted bt_sorted (pa_cons (pv 0) pa_nil))) (blkOk_by (own := [("name", 2)]) (N := ["heap", "spot", "name"]) (sc := defScope s_through) (by decide +kernel)) (fun _ _ _ _ _ => pg_name (i := 2) sc_through.nd rfl (Or.inl rfl)) (fun _ _ _ _ _ => (pts_one (pt_val (pe_cal c_p_goes hr (pa_cons (pe_dget (hu_of hr) (pv 0) (pv 2) (fun _ _ => rfl)) (pa_cons (pv 1) pa_nil)))))) (fun _ _ _ _ _ => (pv 2))) pa_nil)))), ?_⟩
  obtain ⟨bs, hd, hb, hL⟩ := id hH.at'
  have few := hH.few
  have keys : (bs.map (·.1)).map (·.1) = (L.map (·.1)).map (fun n => (Sum.inr n : Key)) := by
    rw [← hL, List.map_map, List.map_map, List.map_map]
    exact List.map_congr_left fun b hb' => (hb b hb').1
  refine ⟨_, rfl, d, _, L.map (·.1), rfl, .inl hd, keys, (by rw [List.length_map]; omega), fun ys pn pm so npn => ?_⟩
  obtain ⟨M, pM, rfl⟩ := perm_map_from pm L rfl
  have lM : M.length = L.length := pM.length_eq
  have inM : ∀ p ∈ M, p ∈ L := fun p hp => pM.mem_iff.mp hp
  have g0 := same_new npn (.lst ((M.map (·.1)).map V.str))
  have hpn : upd H pn (.lst ((M.map (·.1)).map V.str)) pn = some (.lst ((M.map (·.1)).map V.str)) := upd_same
  generalize upd H pn (.lst ((M.map (·.1)).map V.str)) = H0 at *
  refine ⟨pn, rfl, ⟨_, SqL.of hpn⟩, fun D nD => ?_⟩
  have g1 := same_new nD (.lst [])
  refine lc_any (.l (K := K) (a := pn) (xs := (M.map (·.1)).map V.str)) (fun i J => Same H0 J ∧ J D = some (.lst ((thruN (M.take i) x y).map V.str))) ?_ ?_ ?_ ?_
  · exact ⟨g1, upd_same⟩
  · rintro i J _ ⟨e, _⟩
    exact e _ _ hpn
  · rintro i v J hv ⟨e, hD⟩
    obtain ⟨a, ha, rfl⟩ : ∃ a, M[i]? = some a ∧ v = V.str a.1 := by
      rw [List.getElem?_map, List.getElem?_map] at hv
      cases e : M[i]? with
      | none => rw [e] at hv; cases hv
      | some b => rw [e] at hv; exact ⟨b, rfl, (Option.some.inj hv).symm⟩
    have inA := inM a (List.mem_of_getElem? ha)
    have e0 := g0.trans e
    obtain ⟨va, ga, pa, rfl, ka⟩ := (hH.same e0).get inA
    refine ⟨rfl, _, rfl, _, rfl, d, .ref pa, rfl, ga, _, rfl, pa, ps, _, _, _, _, x, y, rfl, ka, e0 _ _ hp, sm, fun J2 s2 => ?_⟩
    have hD2 := s2 _ _ hD
    refine ⟨_, rfl, ?_⟩
    rw [take_snoc ha]
    unfold thruN thruP at *
    rw [List.filter_append]
    have f1 : goesL a.2.1.1 a.2.1.2 a.2.2.1 a.2.2.2 x y = true → [a].filter (fun p : Str × S4 => goesL p.2.1.1 p.2.1.2 p.2.2.1 p.2.2.2 x y) = [a] := fun z => by simp [z]
    have f2 : goesL a.2.1.1 a.2.1.2 a.2.2.1 a.2.2.2 x y = false → [a].filter (fun p : Str × S4 => goesL p.2.1.1 p.2.1.2 p.2.2.1 p.2.2.2 x y) = [] := fun z => by simp [z]
    cases eg : goesL a.2.1.1 a.2.1.2 a.2.2.1 a.2.2.2 x y with
    | true =>
      refine iteT ⟨_, rfl, _, hD2, ?_, fun c o z => ?_, ?_⟩
      · rw [List.length_map, List.length_map]
        have := List.length_filter_le (fun p : Str × S4 => goesL p.2.1.1 p.2.1.2 p.2.2.1 p.2.2.2 x y) (M.take i)
        rw [List.length_take] at this
        exact Nat.lt_of_lt_of_le (by omega : _ < 100000) (sz (Nat.le_refl _))
      · rw [upd_ne (ne_of_none z nD)]
        exact s2 _ _ (e _ _ z)
      · rw [upd_same, f1 eg, List.map_append, List.map_append]
        rfl
    | false =>
      refine iteF ⟨e.trans s2, ?_⟩
      rw [f2 eg, hD2, List.append_nil]
  · rintro J ⟨e, hD⟩
    have : ((M.map (·.1)).map V.str).length = M.length := by rw [List.length_map, List.length_map]
    rw [this, List.take_length] at hD
    refine ⟨D, _, rfl, .inl ⟨SqL.of hD, fun t nt => ?_⟩⟩
    have g3 := same_new nt (.tup ((thruN M x y).map V.str))
    have e3 := g0.trans (e.trans g3)
    exact q t _ M e3 ((g0.trans e).free nt) ⟨pM, so⟩ upd_same
abbrev s_ends_there : Stmt := top 31
theorem sc_ends_there : FnScope ["heap", "spot", "name", "which"] ["heap", "spot", "name", "which"] (defScope s_ends_there) := ⟨rfl, rfl, rfl, by decide +kernel, rfl, by decide +kernel, by decide +kernel⟩
theorem ok_ends_there (B : Blt mg) (c_ends_of : Cal P w K mg base 1 "ends_of" ["stroke"] spEnds) (F : Fun K "ends_there" "ends_there" s_ends_there f fd) : FnOk P w K mg base CX0 2 f fd ["heap", "spot", "name", "which"] spEndsThere := by
  refine F.ok sc_ends_there (fun vs H Q E h => ?_) (fun cdv A outer s H vs Q E hr h => ?_)
  · obtain ⟨d, ps, x, y, k, n, L, rfl, _⟩ := h
    rfl
  obtain ⟨d, ps, x, y, k, n, L, rfl, hH, hp, hk, q⟩ := h
  refine ⟨_, (pss_one (ps_ret (pe_and (pe_cmp (pc_din (hu_of hr) (pv 2) (pv 0)) rfl) (pe_one (pe_cmpR (op_eqD hr.units) (pe_ix ix_tup (pe_cal c_ends_of hr (pa_cons (pe_dget (hu_of hr) (pv 0) (pv 2) (fun _ _ => rfl)) pa_nil)) (pv 3) (fun _ _ => rfl)) (pv 1) (nomark _)))))), ?_⟩
  rcases hH.look n with ⟨p, hpL, en, pa, ga, ka⟩ | ⟨no, ga⟩
  · refine ⟨_, rfl, _, rfl, d, _, rfl, ga, _, rfl, iteT ?_⟩
    refine ⟨_, rfl, _, rfl, d, _, rfl, ga, pa, _, _, _, _, rfl, ka.1, fun r e0 e1 H' s1 hr' h0 h1 => ?_⟩
    have uniq : ∀ b : Bool, (b = true ↔ endAt p k = (x, y)) → (b = true ↔ ∃ p ∈ L, p.1 = n ∧ endAt p k = (x, y)) := fun b hb => by
      rw [hb]
      constructor
      · exact fun z => ⟨p, hpL, en, z⟩
      · rintro ⟨p', hp', e', z⟩
        rw [hH.one hpL hp' (en.trans e'.symm)]
        exact z
    rcases hk with rfl | rfl
    · refine ⟨_, rfl, r, _, _, .ref e0, rfl, rfl, SqT.of hr', rfl, _, rfl, _, _, dp_pair h0, dp_pair (s1 _ _ hp), shaped_pair _ _, shaped_pair _ _, ?_⟩
      rw [eqv_pair]
      refine q _ _ s1 (uniq _ ?_)
      rw [decide_eq_true_iff]
      unfold endAt
      rw [if_pos rfl]
      exact ⟨fun z => Prod.ext z.1 z.2, fun z => ⟨congrArg Prod.fst z, congrArg Prod.snd z⟩⟩
    · refine ⟨_, rfl, r, _, _, .ref e1, rfl, rfl, SqT.of hr', rfl, _, rfl, _, _, dp_pair h1, dp_pair (s1 _ _ hp), shaped_pair _ _, shaped_pair _ _, ?_⟩
      rw [eqv_pair]
      refine q _ _ s1 (uniq _ ?_)
      rw [decide_eq_true_iff]
      unfold endAt
      rw [if_neg (by decide)]
      exact ⟨fun z => Prod.ext z.1 z.2, fun z => ⟨congrArg Prod.fst z, congrArg Prod.snd z⟩⟩
  · refine ⟨_, rfl, _, rfl, d, _, rfl, ga, _, rfl, iteF ?_⟩
    exact q _ _ (fun _ _ z => z) ⟨fun z => (by cases z), fun ⟨p, hp, e, _⟩ => absurd e (no p hp)⟩
abbrev s_cross_there : Stmt := top 32
theorem sc_cross_there : FnScope ["heap", "spot", "name", "other"] ["heap", "spot", "name", "other"] (defScope s_cross_there) := ⟨rfl, rfl, rfl, by decide +kernel, rfl, by decide +kernel, by decide +kernel⟩
theorem ok_cross_there (B : Blt mg) (c_met_square : Cal P w K mg base 5 "met_square" ["one", "other"] spMetSq) (F : Fun K "cross_there" "cross_there" s_cross_there f fd) : FnOk P w K mg base CX0 6 f fd ["heap", "spot", "name", "other"] spCrossThere := by
  refine F.ok sc_cross_there (fun vs H Q E h => ?_) (fun cdv A outer s H vs Q E hr h => ?_)
  · obtain ⟨d, ps, x, y, n, m, L, rfl, _⟩ := h
    rfl
  obtain ⟨d, ps, x, y, n, m, L, rfl, hH, hp, q⟩ := h
  refine ⟨_, (pss_cons (ps_if (PW.pt (pw_or (pt_cmpR op_ge_str (pv 2) (pv 3) (nomark _)) (pw_or (pt_cmp (pc_dnotin (hu_of hr) (pv 2) (pv 0))) (pw_or1 (pt_cmp (pc_dnotin (hu_of hr) (pv 3) (pv 0)))))))
    (pss_one (ps_ret pe_bl))
    pss_nil)
    (pss_one (ps_ret (pe_cmpR (op_eqD hr.units) (pe_cal c_met_square hr (pa_cons (pe_dget (hu_of hr) (pv 0) (pv 2) (fun _ _ => rfl)) (pa_cons (pe_dget (hu_of hr) (pv 0) (pv 3) (fun _ _ => rfl)) pa_nil))) (pv 1) (nomark _))))), ?_⟩
  by_cases lt : n.cps.toList < m.cps.toList
  · rcases hH.look n with ⟨p, hpL, en, pa, ga, ka⟩ | ⟨no, ga⟩
    · rcases hH.look m with ⟨p', hpL', em, pb, gb, kb⟩ | ⟨no, gb⟩
      · refine ⟨_, rfl, _, rfl, _, _, rfl, rfl, _, rfl, ?_⟩
        rw [decide_eq_true lt]
        refine iteF ⟨_, rfl, _, rfl, d, _, rfl, ga, _, rfl, iteF ⟨_, rfl, _, rfl, d, _, rfl, gb, _, rfl, iteF ?_⟩⟩
        refine ⟨_, rfl, _, rfl, d, _, rfl, ga, _, rfl, _, rfl, d, _, rfl, gb, _, _, p.2, p'.2, rfl, ⟨pa, rfl, ka⟩, ⟨pb, rfl, kb⟩, fun r H' s1 sv => ?_⟩
        have fin : ∀ b : Bool, (b = true ↔ metSq p.2 p'.2 = some (x, y)) → (b = true ↔ n.cps.toList < m.cps.toList ∧ ∃ p ∈ L, ∃ q ∈ L, p.1 = n ∧ q.1 = m ∧ metSq p.2 q.2 = some (x, y)) := fun b hb => by
          rw [hb]
          constructor
          · exact fun z => ⟨lt, p, hpL, p', hpL', en, em, z⟩
          · rintro ⟨_, a, ha, b, hb, ea, eb, z⟩
            rw [hH.one hpL ha (en.trans ea.symm), hH.one hpL' hb (em.trans eb.symm)]
            exact z
        cases e : metSq p.2 p'.2 with
        | none =>
          rw [e] at sv fin
          obtain rfl : r = .non := sv
          refine ⟨_, rfl, _, _, .non, dp_pair (s1 _ _ hp), rfl, shaped_pair _ _, ?_⟩
          refine q _ _ s1 (fin _ ⟨fun z => ?_, fun z => by cases z⟩)
          simp [PyData.eqv] at z
        | some sq =>
          rw [e] at sv fin
          obtain ⟨pq, rfl, hq⟩ := sv
          refine ⟨_, rfl, _, _, dp_pair hq, dp_pair (s1 _ _ hp), shaped_pair _ _, shaped_pair _ _, ?_⟩
          rw [eqv_pair]
          refine q _ _ s1 (fin _ ?_)
          rw [decide_eq_true_iff]
          constructor
          · rintro ⟨z1, z2⟩
            exact congrArg some (Prod.ext z1 z2)
          · intro z
            cases z
            exact ⟨rfl, rfl⟩
      · refine ⟨_, rfl, _, rfl, _, _, rfl, rfl, _, rfl, ?_⟩
        rw [decide_eq_true lt]
        refine iteF ⟨_, rfl, _, rfl, d, _, rfl, ga, _, rfl, iteF ⟨_, rfl, _, rfl, d, _, rfl, gb, _, rfl, iteT ?_⟩⟩
        exact q _ _ (fun _ _ z => z) ⟨fun z => (by cases z), fun ⟨_, p, _, p', hp', _, e, _⟩ => absurd e (no p' hp')⟩
    · refine ⟨_, rfl, _, rfl, _, _, rfl, rfl, _, rfl, ?_⟩
      rw [decide_eq_true lt]
      refine iteF ⟨_, rfl, _, rfl, d, _, rfl, ga, _, rfl, iteT (iteT ?_)⟩
      exact q _ _ (fun _ _ z => z) ⟨fun z => (by cases z), fun ⟨_, p, hp, p', hp', e, _⟩ => absurd e (no p hp)⟩
  · refine ⟨_, rfl, _, rfl, _, _, rfl, rfl, _, rfl, ?_⟩
    rw [decide_eq_false lt]
    refine iteT (iteT ?_)
    exact q _ _ (fun _ _ z => z) ⟨fun z => (by cases z), fun ⟨z, _⟩ => absurd z lt⟩
end
end DM

namespace DM
open PySem L2
/-! ### a paper, and who judges it -/
def PapV (H : Hp) (v : V) : Cause ⊕ List Str → Prop
  | .inl c => CzT H v c
  | .inr ns => ∃ a t : Addr, v = .ref a ∧ H a = some (.tup [.str "cold", .ref t]) ∧ H t = some (.tup (ns.map V.str))
theorem PapV.same {H H' : Hp} {v : V} {pap : Cause ⊕ List Str} (h : PapV H v pap) (e : KeepT H H') : PapV H' v pap := by
  cases pap with
  | inl c => exact CzT.keep h e
  | inr ns =>
    obtain ⟨a, t, rfl, h1, h2⟩ := h
    exact ⟨a, t, rfl, e _ _ h1, e _ _ h2⟩
def PapAt (x y : Int) : Cause ⊕ List Str → Prop
  | .inl c => c.x = x ∧ c.y = y ∧ PapC c
  | .inr _ => True
def PapR (M : List (Str × S4)) (cs : List Cause) (x y : Int) : Cause ⊕ List Str → Prop
  | .inl c => c ∈ cs
  | .inr ns => ns = thruN M x y ∧ ColdAt cs x y
def PapFit : Cause ⊕ List Str → Prop
  | .inl c => c.fit
  | .inr ns => ∀ n ∈ ns, NmOk n
def spJudge : Sp := fun vs H Q _ => ∃ (d ps pp : Addr) (x y : Int) (L : List (Str × S4)) (pap : Cause ⊕ List Str), vs = [.ref d, .ref ps, .ref pp] ∧ HeapAt H d L ∧ H ps = some (.tup [.int x, .int y]) ∧ SmP x y ∧ PapV H (.ref pp) pap ∧ PapAt x y pap ∧ PapFit pap ∧ ∀ (r : Bool) (H' : Hp), Same H H' → (∀ cs M, AllCz L cs → SrtOf L M → (r = true ↔ PapR M cs x y pap)) → Q (.bl r) H'
/-- names as data -/
theorem dp_names {K : PySem.W.Frag} {H : Hp} {t : Addr} {ns : List Str} (h : H t = some (.tup (ns.map V.str))) : Dp K H (.ref t) (.tuple (ns.map PyData.str)) := by
  refine .tup (SqT.of h) ?_
  clear h
  induction ns with
  | nil => exact .nil
  | cons n ns ih => exact .cons (.str n) ih
theorem names_lay : ∀ {ns : List Str}, (∀ n ∈ ns, NmOk n) → PyData.canLayAll0 (ns.map PyData.str) = true ∧ PyData.depthAll (ns.map PyData.str) = 0
  | [], _ => ⟨rfl, rfl⟩
  | n :: ns, h => by
    have ih := names_lay fun x hx => h x (List.mem_cons_of_mem _ hx)
    have f : PyData.canLay0 (.str n) = true := h n List.mem_cons_self
    rw [List.map_cons]
    unfold PyData.canLayAll0 PyData.depthAll
    rw [ih.1, ih.2, f]
    exact ⟨rfl, rfl⟩
theorem names_shaped {ns : List Str} (h : ∀ n ∈ ns, NmOk n) : SeqAt.shaped (.tuple (ns.map PyData.str)) = true := by
  have z := names_lay h
  unfold SeqAt.shaped
  have e1 : PyData.canLay0 (.tuple (ns.map PyData.str)) = true := by unfold PyData.canLay0; exact z.1
  have e2 : PyData.depth (.tuple (ns.map PyData.str)) ≤ 64 := by unfold PyData.depth; omega
  rw [e1, decide_eq_true e2]
  rfl
theorem names_eqv : ∀ {ns ms : List Str}, PyData.eqvAll (ns.map PyData.str) (ms.map PyData.str) = decide (ns = ms)
  | [], [] => rfl
  | [], _ :: _ => rfl
  | _ :: _, [] => rfl
  | n :: ns, m :: ms => by
    rw [List.map_cons, List.map_cons]
    unfold PyData.eqvAll
    rw [names_eqv]
    by_cases c : n = m
    · subst c
      simp [PyData.eqv]
    · have : PyData.eqv (.str n) (.str m) = false := by simpa [PyData.eqv] using c
      rw [this]
      simp [c]
theorem thru_ok {L M : List (Str × S4)} (nm : ∀ p ∈ L, NmOk p.1) (so : SrtOf L M) {x y : Int} : ∀ n ∈ thruN M x y, NmOk n := fun n hn => by
  obtain ⟨p, hp, rfl⟩ := List.mem_map.mp hn
  exact nm p (so.1.mem_iff.mp ((List.mem_filter.mp hp).1))
section
variable {P : Program} {w : World} {K : PySem.W.Frag} {mg : Str → Option Value} {base : Heap} {f : Addr} {fd : FuncData}
abbrev s_leave_cold : Stmt := top 33
theorem sc_leave_cold : FnScope ["heap", "spot", "names", "at", "name", "other"] ["heap", "spot", "names"] (defScope s_leave_cold) := ⟨rfl, rfl, rfl, by decide +kernel, rfl, by decide +kernel, by decide +kernel⟩
theorem ok_leave_cold (B : Blt mg) (c_ends_of : Cal P w K mg base 1 "ends_of" ["stroke"] spEnds) (c_cross_there : Cal P w K mg base 6 "cross_there" ["heap", "spot", "name", "other"] spCrossThere) (F : Fun K "leave_cold" "leave_cold" s_leave_cold f fd) : FnOk P w K mg base CX0 7 f fd ["heap", "spot", "names"] spLeaveCold := by
  refine F.ok sc_leave_cold (fun vs H Q E h => ?_) (fun cdv A outer s H vs Q E hr h => ?_)
  · obtain ⟨d, ps, pt, x, y, L, M, rfl, _⟩ := h
    rfl
  obtain ⟨d, ps, pt, x, y, L, M, rfl, hH, hp, so, hpt, q⟩ := h
  refine ⟨_, (pss_cons (ps_for PassesOwn.never rfl (pi_enumT rfl B.enumerate (pa_cons (pv 2) pa_nil)) (pg_tup rfl (pgs_cons (pg_name (i := 3) sc_leave_cold.nd rfl (Or.inl rfl)) (pgs_cons (pg_name (i := 4) sc_leave_cold.nd rfl (Or.inr rfl)) pgs_nil)))
    (pss_cons (ps_if (pt_cmpR (op_inDT (u65 hr)) (pv 1) (pe_cal c_ends_of hr (pa_cons (pe_dget (hu_of hr) (pv 0) (pv 4) (fun _ _ => rfl)) pa_nil)) rfl)
    (pss_one (ps_ret pe_bl))
    pss_nil)
    (pss_one (ps_if (pt_val (pe_callB (cr_any rfl) rfl B.any bt_any (pa_cons (pe_lc (own := [("other", 5)]) (g := gName 5) (tt := tYes) rfl sc_leave_cold.nd (pi_tup (pe_slice sl_tup (pv 2) (po_some (pe_op op_add (pv 3) pe_int)) po_none)) (blkOk_by (own := [("other", 5)]) (N := ["heap", "spot", "names", "at", "name", "other"]) (sc := defScope s_leave_cold) (by decide +kernel)) (fun _ _ _ _ _ => pg_name (i := 5) sc_leave_cold.nd rfl (Or.inl rfl)) (fun _ _ _ _ _ => pts_nil) (fun _ _ _ _ _ => (pe_cal c_cross_there hr (pa_cons (pv 0) (pa_cons (pv 1) (pa_cons (pv 4) (pa_cons (pv 5) pa_nil))))))) pa_nil)))
    (pss_one (ps_ret pe_bl))
    pss_nil))))
    (pss_one (ps_ret pe_bl))), ?_⟩
  have nd := hH.nd
  have few := hH.few
  have lN : (thruP M x y).length ≤ 32 := by
    have := List.length_filter_le (fun p : Str × S4 => goesL p.2.1.1 p.2.1.2 p.2.2.1 p.2.2.2 x y) M
    have := so.1.length_eq
    unfold thruP
    omega
  have lens : ((thruN M x y).map V.str).length = (thruP M x y).length := by unfold thruN; rw [List.length_map, List.length_map]
  have inN : ∀ p ∈ thruP M x y, p ∈ L := fun p hp => so.1.mem_iff.mp ((List.mem_filter.mp hp).1)
  have pwN : (thruP M x y).Pairwise (fun a b => a.1.cps.toList < b.1.cps.toList) := (srt_lt so nd).sublist List.filter_sublist
  refine seq_with (fun σ' J => Same H J ∧ ColdI (thruP M x y) x y (thruP M x y).length) (fun R hR => ?_) ?_
  · refine ⟨_, rfl, pt, _, rfl, SqT.of hpt, ?_⟩
    refine for_it (walk_enumT (xs := (thruN M x y).map V.str)) (fun i σ J => (∃ c3 c4 c5, σ = [some (.ref d), some (.ref ps), some (.ref pt), c3, c4, c5]) ∧ Same H J ∧ ColdI (thruP M x y) x y i) ?_ ?_ ?_ ?_
    · exact ⟨⟨_, _, _, rfl⟩, fun _ _ z => z, fun a ha => absurd ha (Nat.not_lt_zero a)⟩
    · rintro i σ J _ ⟨_, e, _⟩
      exact SqT.of (e _ _ hpt)
    · rintro i v σ J J1 hi ⟨⟨c3, c4, c5, rfl⟩, e, cold⟩ ⟨T, kx, vx, rfl, nT, rfl, ek, ev⟩
      rw [lens] at hi
      obtain ⟨a, ha⟩ : ∃ a, (thruP M x y)[i]? = some a := ⟨_, List.getElem?_eq_getElem hi⟩
      have ev' : V.str a.1 = vx := by
        have ev2 : ((thruN M x y).map V.str)[i]? = some vx := ev
        unfold thruN at ev2
        rw [List.getElem?_map, List.getElem?_map, ha] at ev2
        exact Option.some.inj ev2
      subst ev'
      obtain rfl : V.int (i : Nat) = kx := Option.some.inj ek
      have inA := inN a (List.mem_of_getElem? ha)
      have gT := same_new nT (.tup [V.int (i : Nat), .str a.1])
      have e1 := e.trans gT
      refine ⟨T, _, rfl, SqT.of upd_same, rfl, _, _, rfl, _, _, rfl, rfl, ?_⟩
      dsimp only [gName, tNext, List.set]
      generalize upd J T (.tup [V.int (i : Nat), .str a.1]) = J1 at *
      obtain ⟨va, ga, pa, rfl, ka⟩ := (hH.same e1).get inA
      refine seq_with (fun σ' J' => σ' = [some (.ref d), some (.ref ps), some (.ref pt), some (.int (i : Nat)), some (.str a.1), c5] ∧ Same H J' ∧ a.2.1 ≠ (x, y) ∧ a.2.2 ≠ (x, y)) (fun R2 hR2 => ?_) ?_
      · refine ⟨_, rfl, _, rfl, _, rfl, d, _, rfl, ga, pa, _, _, _, _, rfl, ka.1, fun r e0 f1 J2 s2 hr' h0 h1 => ?_⟩
        have e2 := e1.trans s2
        refine ⟨_, _, dp_pair (e2 _ _ hp), .tup (SqT.of hr') (.cons (dp_pair h0) (.cons (dp_pair h1) .nil)), shaped_pair _ _, by first | rfl | simp [SeqAt.shaped, PyData.canLay0, PyData.depth], _, rfl, ?_⟩
        have any : ([PyData.tuple [.int a.2.1.1, .int a.2.1.2], .tuple [.int a.2.2.1, .int a.2.2.2]].any fun z => PyData.eqv z (.tuple [.int x, .int y])) = (decide (a.2.1.1 = x ∧ a.2.1.2 = y) || decide (a.2.2.1 = x ∧ a.2.2.2 = y)) := by
          rw [List.any_cons, List.any_cons, List.any_nil, eqv_pair, eqv_pair, Bool.or_false]
        rw [any]
        by_cases c1 : a.2.1.1 = x ∧ a.2.1.2 = y
        · rw [decide_eq_true c1]
          refine iteT ?_
          refine q _ _ e2 fun cs all => ⟨fun z => (by cases z), fun z => ?_⟩
          exact absurd c1 (z _ ((all.end_iff (.inl rfl)).mpr ⟨a, inA, rfl, rfl⟩))
        · by_cases c2 : a.2.2.1 = x ∧ a.2.2.2 = y
          · rw [decide_eq_false c1, decide_eq_true c2]
            refine iteT ?_
            refine q _ _ e2 fun cs all => ⟨fun z => (by cases z), fun z => ?_⟩
            exact absurd c2 (z _ ((all.end_iff (.inr rfl)).mpr ⟨a, inA, rfl, rfl⟩))
          · rw [decide_eq_false c1, decide_eq_false c2]
            refine iteF ?_
            exact hR2 _ _ ⟨rfl, e2, fun z => c1 ⟨congrArg Prod.fst z, congrArg Prod.snd z⟩, fun z => c2 ⟨congrArg Prod.fst z, congrArg Prod.snd z⟩⟩
      rintro _ J2 ⟨rfl, e2, n1, n2⟩
      refine ⟨_, rfl, _, rfl, _, _, rfl, rfl, _, rfl, pt, _, rfl, SqT.of (e2 _ _ hpt), ?_, fun p2 np2 => ?_⟩
      · rintro ⟨z, _⟩
        have ei : ((i : Int) + 1) = ((i + 1 : Nat) : Int) := by omega
        rw [ei, HT.sIx_nat, lens] at z
        omega
      have cut : cutV ((thruN M x y).map V.str) (some ((i : Int) + 1)) none = (((thruP M x y).drop (i + 1)).map (·.1)).map V.str := by
        have ei : ((i : Int) + 1) = ((i + 1 : Nat) : Int) := by omega
        rw [ei, cut_at]
        unfold thruN
        rw [List.map_drop, List.map_drop]
      rw [cut]
      have g3 := same_new np2 (.tup ((((thruP M x y).drop (i + 1)).map (·.1)).map V.str))
      have hp2 : upd J2 p2 (.tup ((((thruP M x y).drop (i + 1)).map (·.1)).map V.str)) p2 = some (.tup ((((thruP M x y).drop (i + 1)).map (·.1)).map V.str)) := upd_same
      have e3 := e2.trans g3
      generalize upd J2 p2 (.tup ((((thruP M x y).drop (i + 1)).map (·.1)).map V.str)) = J3 at *
      refine ⟨p2, rfl, ⟨_, SqT.of hp2⟩, fun D nD => ?_⟩
      have g4 := same_new nD (.lst [])
      refine lc_any (.t (K := K) (a := p2) (xs := ((((thruP M x y).drop (i + 1)).map (·.1)).map V.str))) (fun j J' => Same J3 J' ∧ ∃ bs : List Bool, J' D = some (.lst (bs.map V.bl)) ∧ bs.length = j ∧ (bs.any id = true ↔ ∃ b ∈ ((thruP M x y).drop (i + 1)).take j, metSq a.2 b.2 = some (x, y))) ?_ ?_ ?_ ?_
      · exact ⟨g4, [], upd_same, rfl, ⟨fun z => (by cases z), fun ⟨b, hb, _⟩ => (by cases hb)⟩⟩
      · rintro j J' _ ⟨z, _⟩
        exact z _ _ hp2
      · rintro j v J' hv ⟨e4, bs, hD, lb, an⟩
        obtain ⟨b, hb, rfl⟩ : ∃ b, ((thruP M x y).drop (i + 1))[j]? = some b ∧ v = V.str b.1 := by
          rw [List.getElem?_map, List.getElem?_map] at hv
          cases e : ((thruP M x y).drop (i + 1))[j]? with
          | none => rw [e] at hv; cases hv
          | some b => rw [e] at hv; exact ⟨b, rfl, (Option.some.inj hv).symm⟩
        have jl : j < ((thruP M x y).drop (i + 1)).length := (List.getElem?_eq_some_iff.mp hb).1
        rw [List.length_drop] at jl
        have hb' : (thruP M x y)[i + 1 + j]? = some b := by rw [← List.getElem?_drop]; exact hb
        have inB := inN b (List.mem_of_getElem? hb')
        have lt : a.1.cps.toList < b.1.cps.toList := by
          obtain ⟨i1, g1⟩ := List.getElem?_eq_some_iff.mp ha
          obtain ⟨i2, g2⟩ := List.getElem?_eq_some_iff.mp hb'
          have := List.pairwise_iff_getElem.mp pwN i (i + 1 + j) i1 i2 (by omega)
          rw [g1, g2] at this
          exact this
        have e34 := e3.trans e4
        refine ⟨rfl, lc_yes ?_⟩
        refine ⟨_, rfl, _, rfl, _, rfl, _, rfl, d, ps, x, y, a.1, b.1, L, rfl, hH.same e34, e34 _ _ hp, fun r J5 s5 hr' => ?_⟩
        refine ⟨_, s5 _ _ hD, by rw [List.length_map, lb]; exact Nat.lt_of_lt_of_le (by omega : j < 100000) (sz (Nat.le_refl _)), fun c o z => ?_, bs ++ [r], ?_, by rw [List.length_append, lb]; rfl, ?_⟩
        · rw [upd_ne (ne_of_none z nD)]
          exact s5 _ _ (e4 _ _ z)
        · rw [upd_same, List.map_append]
          rfl
        · rw [List.any_append, Bool.or_eq_true, an, take_snoc hb]
          have hr2 : ([r].any id = true) ↔ metSq a.2 b.2 = some (x, y) := by
            rw [List.any_cons, List.any_nil, Bool.or_false]
            show r = true ↔ _
            rw [hr']
            constructor
            · rintro ⟨_, p', hp', q', hq', ep, eq, z⟩
              rw [hH.one inA hp' ep.symm, hH.one inB hq' eq.symm]
              exact z
            · exact fun z => ⟨lt, a, inA, b, inB, rfl, rfl, z⟩
          rw [hr2]
          constructor
          · rintro (⟨c, hc, z⟩ | z)
            · exact ⟨c, List.mem_append_left _ hc, z⟩
            · exact ⟨b, List.mem_append_right _ (List.mem_singleton.mpr rfl), z⟩
          · rintro ⟨c, hc, z⟩
            rcases List.mem_append.mp hc with y' | y'
            · exact .inl ⟨c, y', z⟩
            · rw [List.mem_singleton.mp y'] at z
              exact .inr z
      · rintro J' ⟨e4, bs, hD, lb, an⟩
        have ll : ((((thruP M x y).drop (i + 1)).map (·.1)).map V.str).length = ((thruP M x y).drop (i + 1)).length := by rw [List.length_map, List.length_map]
        rw [ll, List.take_length] at an
        refine ⟨D, bs, rfl, SqL.of hD, _, rfl, ?_⟩
        cases ea : bs.any id with
        | true =>
          refine iteT ?_
          obtain ⟨b, hb, mb⟩ := an.mp ea
          obtain ⟨j, hj⟩ := List.mem_iff_getElem?.mp hb
          have hj' : (thruP M x y)[i + 1 + j]? = some b := by rw [← List.getElem?_drop]; exact hj
          have inB := inN b (List.mem_of_getElem? hj')
          have lt : a.1.cps.toList < b.1.cps.toList := by
            obtain ⟨i1, g1⟩ := List.getElem?_eq_some_iff.mp ha
            obtain ⟨i2, g2⟩ := List.getElem?_eq_some_iff.mp hj'
            have := List.pairwise_iff_getElem.mp pwN i (i + 1 + j) i1 i2 (by omega)
            rw [g1, g2] at this
            exact this
          refine q _ _ (e3.trans e4) fun cs all => ⟨fun z => (by cases z), fun z => ?_⟩
          exact absurd ⟨rfl, rfl⟩ (z _ ((all.cross_iff nd).mpr ⟨lt, a, inA, b, inB, rfl, rfl, mb⟩))
        | false =>
          refine iteF ⟨⟨_, _, _, rfl⟩, e3.trans e4, fun k hk p hpk => ?_⟩
          rcases Nat.lt_or_eq_of_le (Nat.le_of_lt_succ hk) with z | z
          · exact cold k z p hpk
          · subst z
            rw [ha] at hpk
            cases hpk
            refine ⟨n1, n2, fun b' hb' q' hq' mm => ?_⟩
            have eb : k + 1 + (b' - (k + 1)) = b' := by omega
            have : q' ∈ (thruP M x y).drop (k + 1) := List.mem_iff_getElem?.mpr ⟨b' - (k + 1), by rw [List.getElem?_drop, eb]; exact hq'⟩
            rw [an.mpr ⟨q', this, mm⟩] at ea
            cases ea
    · rintro σ J ⟨⟨c3, c4, c5, rfl⟩, e, cold⟩
      rw [lens] at cold
      exact hR _ _ ⟨e, cold⟩
  rintro σ J ⟨e, cold⟩
  refine q _ _ e fun cs all => ⟨fun _ => cold_all all nd hH.ok so cold, fun _ => rfl⟩
abbrev s_judge_heat : Stmt := top 30
theorem sc_judge_heat : FnScope ["heap", "spot", "paper"] ["heap", "spot", "paper"] (defScope s_judge_heat) := ⟨rfl, rfl, rfl, by decide +kernel, rfl, by decide +kernel, by decide +kernel⟩
theorem ok_judge_heat (B : Blt mg) (c_through : Cal P w K mg base 4 "through" ["heap", "spot"] spThru) (c_ends_there : Cal P w K mg base 2 "ends_there" ["heap", "spot", "name", "which"] spEndsThere) (c_cross_there : Cal P w K mg base 6 "cross_there" ["heap", "spot", "name", "other"] spCrossThere) (c_leave_cold : Cal P w K mg base 7 "leave_cold" ["heap", "spot", "names"] spLeaveCold) (F : Fun K "judge_heat" "judge_heat" s_judge_heat f fd) : FnOk P w K mg base CX0 8 f fd ["heap", "spot", "paper"] spJudge := by
  refine F.ok sc_judge_heat (fun vs H Q E h => ?_) (fun cdv A outer s H vs Q E hr h => ?_)
  · obtain ⟨d, ps, pp, x, y, L, pap, rfl, _⟩ := h
    rfl
  obtain ⟨d, ps, pp, x, y, L, pap, rfl, hH, hp, sm, pvv, pat, pok, q⟩ := h
  refine ⟨_, (pss_cons (ps_if (pt_cmpR op_eq (pe_ix ix_tup (pv 2) pe_int (fun _ _ => rfl)) pe_str (nomark _))
    (pss_one (ps_ret (pe_cal c_ends_there hr (pa_cons (pv 0) (pa_cons (pv 1) (pa_cons (pe_ix ix_tup (pv 2) pe_int (fun _ _ => rfl)) (pa_cons (pe_ix ix_tup (pv 2) pe_int (fun _ _ => rfl)) pa_nil)))))))
    pss_nil)
    (pss_cons (ps_if (pt_cmpR op_eq (pe_ix ix_tup (pv 2) pe_int (fun _ _ => rfl)) pe_str (nomark _))
    (pss_one (ps_ret (pe_cal c_cross_there hr (pa_cons (pv 0) (pa_cons (pv 1) (pa_cons (pe_ix ix_tup (pv 2) pe_int (fun _ _ => rfl)) (pa_cons (pe_ix ix_tup (pv 2) pe_int (fun _ _ => rfl)) pa_nil)))))))
    pss_nil)
    (pss_one (ps_ret (pe_and (pe_cmpR (op_eqD hr.units) (pe_ix ix_tup (pv 2) pe_int (fun _ _ => rfl)) (pe_cal c_through hr (pa_cons (pv 0) (pa_cons (pv 1) pa_nil))) (nomark _)) (pe_one (pe_cal c_leave_cold hr (pa_cons (pv 0) (pa_cons (pv 1) (pa_cons (pe_ix ix_tup (pv 2) pe_int (fun _ _ => rfl)) pa_nil)))))))))), ?_⟩
  cases pap with
  | inl c =>
    obtain ⟨cx, cy, wd, nm, th⟩ := c
    obtain ⟨rfl, rfl, pc⟩ := pat
    obtain ⟨a, ea, ha⟩ := pvv
    cases ea
    rcases pc with ⟨rfl, k, rfl, hk⟩ | ⟨rfl, m, rfl⟩
    · refine ⟨_, rfl, pp, _, _, _, rfl, rfl, SqT.of ha, rfl, rfl, _, rfl, iteDT rfl ?_⟩
      refine ⟨_, rfl, _, rfl, _, rfl, pp, _, _, _, rfl, rfl, SqT.of ha, rfl, _, rfl, pp, _, _, _, rfl, rfl, SqT.of ha, rfl, d, ps, cx, cy, k, nm, L, rfl, hH, hp, hk, fun r H' s1 hr' => ?_⟩
      exact q r H' s1 fun cs M all so => hr'.trans (all.end_iff hk).symm
    · refine ⟨_, rfl, pp, _, _, _, rfl, rfl, SqT.of ha, rfl, rfl, _, rfl, iteDF (fun z => absurd (show (Str.ofString "cross") = Str.ofString "end" from V.str.inj z) (by decide)) ?_⟩
      refine ⟨_, rfl, pp, _, _, _, rfl, rfl, SqT.of ha, rfl, rfl, _, rfl, iteDT rfl ?_⟩
      refine ⟨_, rfl, _, rfl, _, rfl, pp, _, _, _, rfl, rfl, SqT.of ha, rfl, _, rfl, pp, _, _, _, rfl, rfl, SqT.of ha, rfl, d, ps, cx, cy, nm, m, L, rfl, hH, hp, fun r H' s1 hr' => ?_⟩
      exact q r H' s1 fun cs M all so => hr'.trans (all.cross_iff hH.nd).symm
  | inr ns =>
    obtain ⟨a, t, ea, ha, ht⟩ := pvv
    cases ea
    have okn : ∀ n ∈ ns, NmOk n := pok
    refine ⟨_, rfl, pp, _, _, _, rfl, rfl, SqT.of ha, rfl, rfl, _, rfl, iteDF (fun z => absurd (V.str.inj z) (by decide)) ?_⟩
    refine ⟨_, rfl, pp, _, _, _, rfl, rfl, SqT.of ha, rfl, rfl, _, rfl, iteDF (fun z => absurd (V.str.inj z) (by decide)) ?_⟩
    refine ⟨_, rfl, pp, _, _, _, rfl, rfl, SqT.of ha, rfl, _, rfl, _, rfl, d, ps, x, y, L, rfl, hH, hp, sm, fun t' H1 M s1 nt so ht' => ?_⟩
    refine ⟨_, _, dp_names (s1 _ _ ht), dp_names ht', names_shaped okn, names_shaped (thru_ok hH.nm so), ?_⟩
    have ev : PyData.eqv (.tuple (ns.map PyData.str)) (.tuple ((thruN M x y).map PyData.str)) = decide (ns = thruN M x y) := by
      unfold PyData.eqv
      exact names_eqv
    rw [ev]
    refine ⟨_, rfl, ?_⟩
    by_cases c : ns = thruN M x y
    · refine iteDT c ?_
      subst c
      refine ⟨_, rfl, _, rfl, _, rfl, pp, _, _, _, rfl, rfl, SqT.of (s1 _ _ ha), rfl, d, ps, t, x, y, L, M, rfl, hH.same s1, s1 _ _ hp, so, s1 _ _ ht, fun r H' s2 hr' => ?_⟩
      refine q r H' (s1.trans s2) fun cs M' all so' => ?_
      obtain rfl := names_only hH.nd so.1 so'.1 so.2 so'.2
      rw [hr' cs all]
      exact ⟨fun z => ⟨rfl, z⟩, fun z => z.2⟩
    · refine iteDF c ?_
      refine q _ H1 s1 fun cs M' all so' => ?_
      obtain rfl := names_only hH.nd so.1 so'.1 so.2 so'.2
      exact ⟨fun z => (by cases z), fun z => absurd z.1 c⟩
end
end DM

namespace DM
open PySem L2
/-- what a clipping left at r -/
def CR (H : Hp) (r : Addr) : Option ((Int × Int) × (Int × Int)) → Prop
  | none => H r = some (.lst [])
  | some (p, q) => ∃ p1 p2 : Addr, H r = some (.lst [.ref p1, .ref p2]) ∧ fr H p1 p ∧ fr H p2 q
theorem CR.same {H H' : Hp} {r : Addr} : ∀ {o : Option ((Int × Int) × (Int × Int))}, CR H r o → Same H H' → CR H' r o
  | none, h, e => e _ _ h
  | some (p, q), ⟨p1, p2, a, b, c⟩, e => ⟨p1, p2, e _ _ a, e _ _ b, e _ _ c⟩
theorem shaped_two (a b c d : Int) : SeqAt.shaped (.list [.tuple [.int a, .int b], .tuple [.int c, .int d]]) = true := by
  first | rfl | simp [SeqAt.shaped, PyData.canLay0, PyData.depth]
theorem dp_cr {K : PySem.W.Frag} {H : Hp} {r : Addr} : ∀ {o : Option ((Int × Int) × (Int × Int))}, CR H r o → ∃ d, Dp K H (.ref r) d ∧ SeqAt.shaped d = true ∧ PyData.eqv d (.list []) = o.isNone
  | none, h => ⟨.list [], .lst (SqL.of h) .nil, rfl, rfl⟩
  | some (p, q), ⟨p1, p2, a, b, c⟩ => ⟨.list [.tuple [.int p.1, .int p.2], .tuple [.int q.1, .int q.2]], .lst (SqL.of a) (.cons (dp_pair b) (.cons (dp_pair c) .nil)), shaped_two _ _ _ _, rfl⟩
section
variable {P : Program} {w : World} {K : PySem.W.Frag} {mg : Str → Option Value} {base : Heap} {f : Addr} {fd : FuncData}
abbrev s_goes : Stmt := top 57
theorem sc_goes : FnScope ["_law_stroke_here", "_law_spot_here", "_law_one", "_law_other", "_law_comes", "_law_leaves", "_law_middle", "_law_when"] ["_law_stroke_here", "_law_spot_here"] (defScope s_goes) := ⟨rfl, rfl, rfl, by decide +kernel, rfl, by decide +kernel, by decide +kernel⟩
theorem ok_goes (B : Blt mg) (c_clip : Cal P w K mg base 1 "_law_clip" ["_law_begin", "_law_step", "_law_low_here", "_law_high"] spClp) (c_later : Cal P w K mg base 1 "_law_later" ["_law_one", "_law_other"] spLater) (c_sooner : Cal P w K mg base 1 "_law_sooner" ["_law_one", "_law_other"] spSooner) (c_inside : Cal P w K mg base 1 "_law_inside" ["_law_stroke_here", "_law_when", "_law_spot_here"] spInside) (F : Fun K "_law_goes" "_law_goes" s_goes f fd) : FnOk P w K mg base CX0 2 f fd ["_law_stroke_here", "_law_spot_here"] spGoes := by
  refine F.ok sc_goes (fun vs H Q E h => ?_) (fun cdv A outer s H vs Q E hr h => ?_)
  · obtain ⟨ps, pt, x1, y1, x2, y2, sx, sy, rfl, _⟩ := h
    rfl
  obtain ⟨ps, pt, x1, y1, x2, y2, sx, sy, rfl, hS, ht, bt, q⟩ := h
  have hs := hS.1
  have bs := hS.2.1
  refine ⟨_, (pss_cons (ps_set (i := 2) sc_goes.nd rfl (Or.inl rfl) (pe_cal c_clip hr (pa_cons (pe_op op_mul pe_int (pe_ix ix_tup (pv 0) pe_int (fun _ _ => rfl))) (pa_cons (pe_op op_mul pe_int (pe_op op_sub (pe_ix ix_tup (pv 0) pe_int (fun _ _ => rfl)) (pe_ix ix_tup (pv 0) pe_int (fun _ _ => rfl)))) (pa_cons (pe_op op_sub (pe_op op_mul pe_int (pe_ix ix_tup (pv 1) pe_int (fun _ _ => rfl))) pe_int) (pa_cons (pe_op op_add (pe_op op_mul pe_int (pe_ix ix_tup (pv 1) pe_int (fun _ _ => rfl))) pe_int) pa_nil))))))
    (pss_cons (ps_set (i := 3) sc_goes.nd rfl (Or.inl rfl) (pe_cal c_clip hr (pa_cons (pe_op op_mul pe_int (pe_ix ix_tup (pv 0) pe_int (fun _ _ => rfl))) (pa_cons (pe_op op_mul pe_int (pe_op op_sub (pe_ix ix_tup (pv 0) pe_int (fun _ _ => rfl)) (pe_ix ix_tup (pv 0) pe_int (fun _ _ => rfl)))) (pa_cons (pe_op op_sub (pe_op op_mul pe_int (pe_ix ix_tup (pv 1) pe_int (fun _ _ => rfl))) pe_int) (pa_cons (pe_op op_add (pe_op op_mul pe_int (pe_ix ix_tup (pv 1) pe_int (fun _ _ => rfl))) pe_int) pa_nil))))))
    (pss_cons (ps_if (PW.pt (pw_or (pt_cmpR (op_eqD hr.units) (pv 2) (pe_lst pa_nil) (nomark _)) (pw_or1 (pt_cmpR (op_eqD hr.units) (pv 3) (pe_lst pa_nil) (nomark _)))))
    (pss_one (ps_ret pe_bl))
    pss_nil)
    (pss_cons (ps_set (i := 4) sc_goes.nd rfl (Or.inl rfl) (pe_cal c_later hr (pa_cons (pe_tup (pa_cons pe_int (pa_cons pe_int pa_nil))) (pa_cons (pe_cal c_later hr (pa_cons (pe_ix ix_list (pv 2) pe_int (fun _ _ => rfl)) (pa_cons (pe_ix ix_list (pv 3) pe_int (fun _ _ => rfl)) pa_nil))) pa_nil))))
    (pss_cons (ps_set (i := 5) sc_goes.nd rfl (Or.inl rfl) (pe_cal c_sooner hr (pa_cons (pe_tup (pa_cons pe_int (pa_cons pe_int pa_nil))) (pa_cons (pe_cal c_sooner hr (pa_cons (pe_ix ix_list (pv 2) pe_int (fun _ _ => rfl)) (pa_cons (pe_ix ix_list (pv 3) pe_int (fun _ _ => rfl)) pa_nil))) pa_nil))))
    (pss_cons (ps_if (pt_cmpR op_lt (pe_op op_mul (pe_ix ix_tup (pv 5) pe_int (fun _ _ => rfl)) (pe_ix ix_tup (pv 4) pe_int (fun _ _ => rfl))) (pe_op op_mul (pe_ix ix_tup (pv 4) pe_int (fun _ _ => rfl)) (pe_ix ix_tup (pv 5) pe_int (fun _ _ => rfl))) (nomark _))
    (pss_one (ps_ret pe_bl))
    pss_nil)
    (pss_cons (ps_set (i := 6) sc_goes.nd rfl (Or.inl rfl) (pe_tup (pa_cons (pe_op op_add (pe_op op_mul (pe_ix ix_tup (pv 4) pe_int (fun _ _ => rfl)) (pe_ix ix_tup (pv 5) pe_int (fun _ _ => rfl))) (pe_op op_mul (pe_ix ix_tup (pv 5) pe_int (fun _ _ => rfl)) (pe_ix ix_tup (pv 4) pe_int (fun _ _ => rfl)))) (pa_cons (pe_op op_mul (pe_op op_mul pe_int (pe_ix ix_tup (pv 4) pe_int (fun _ _ => rfl))) (pe_ix ix_tup (pv 5) pe_int (fun _ _ => rfl))) pa_nil))))
    (pss_one (ps_ret (pe_callB (cr_any rfl) rfl B.any bt_any (pa_cons (pe_lc (own := [("_law_when", 7)]) (g := gName 7) (tt := tYes) rfl sc_goes.nd (pi_list (pe_lst (pa_cons (pv 4) (pa_cons (pv 5) (pa_cons (pv 6) pa_nil))))) (blkOk_by (own := [("_law_when", 7)]) (N := ["_law_stroke_here", "_law_spot_here", "_law_one", "_law_other", "_law_comes", "_law_leaves", "_law_middle", "_law_when"]) (sc := defScope s_goes) (by decide +kernel)) (fun _ _ _ _ _ => pg_name (i := 7) sc_goes.nd rfl (Or.inl rfl)) (fun _ _ _ _ _ => pts_nil) (fun _ _ _ _ _ => (pe_cal c_inside hr (pa_cons (pv 0) (pa_cons (pv 7) (pa_cons (pv 1) pa_nil)))))) pa_nil))))))))))), ?_⟩
  refine seq_with (fun σ' H' => ∃ r1, σ' = [some (.ref ps), some (.ref pt), some (.ref r1), none, none, none, none, none] ∧ Same H H' ∧ CR H' r1 (clip (2 * x1) (2 * (x2 - x1)) (2 * sx - 1) (2 * sx + 1))) (fun R hR => ?_) ?_
  · refine ⟨_, rfl, ps, _, _, _, rfl, rfl, SqT.of hs, rfl, _, _, rfl, rfl, .inl ⟨by decide, by decide⟩, _, rfl, ps, _, _, _, rfl, rfl, SqT.of hs, rfl, _, rfl, ps, _, _, _, rfl, rfl, SqT.of hs, rfl, _, _, rfl, rfl, _, _, rfl, rfl, .inl ⟨by decide, by decide⟩, ?_⟩
    refine ⟨_, rfl, pt, _, _, _, rfl, rfl, SqT.of ht, rfl, _, _, rfl, rfl, .inl ⟨by decide, by decide⟩, _, _, rfl, rfl, _, rfl, pt, _, _, _, rfl, rfl, SqT.of ht, rfl, _, _, rfl, rfl, .inl ⟨by decide, by decide⟩, _, _, rfl, rfl, ?_⟩
    refine ⟨_, _, _, _, rfl, fun hn r H1 s1 e1 => ?_, fun p q' hp r p1 p2 H1 s1 e1 f1 f2 => ?_⟩
    · exact hR _ _ ⟨r, rfl, s1, by rw [hn]; exact e1⟩
    · exact hR _ _ ⟨r, rfl, s1, by rw [hp]; exact ⟨p1, p2, e1, f1, f2⟩⟩
  rintro σ1 H1 ⟨r1, rfl, s1, hc1⟩
  have hs1 := s1 _ _ hs
  have ht1 := s1 _ _ ht
  refine seq_with (fun σ' H' => ∃ r2, σ' = [some (.ref ps), some (.ref pt), some (.ref r1), some (.ref r2), none, none, none, none] ∧ Same H1 H' ∧ CR H' r2 (clip (2 * y1) (2 * (y2 - y1)) (2 * sy - 1) (2 * sy + 1))) (fun R hR => ?_) ?_
  · refine ⟨_, rfl, ps, _, _, _, rfl, rfl, SqT.of hs1, rfl, _, _, rfl, rfl, .inl ⟨by decide, by decide⟩, _, rfl, ps, _, _, _, rfl, rfl, SqT.of hs1, rfl, _, rfl, ps, _, _, _, rfl, rfl, SqT.of hs1, rfl, _, _, rfl, rfl, _, _, rfl, rfl, .inl ⟨by decide, by decide⟩, ?_⟩
    refine ⟨_, rfl, pt, _, _, _, rfl, rfl, SqT.of ht1, rfl, _, _, rfl, rfl, .inl ⟨by decide, by decide⟩, _, _, rfl, rfl, _, rfl, pt, _, _, _, rfl, rfl, SqT.of ht1, rfl, _, _, rfl, rfl, .inl ⟨by decide, by decide⟩, _, _, rfl, rfl, ?_⟩
    refine ⟨_, _, _, _, rfl, fun hn r H1 s1 e1 => ?_, fun p q' hp r p1 p2 H1 s1 e1 f1 f2 => ?_⟩
    · exact hR _ _ ⟨r, rfl, s1, by rw [hn]; exact e1⟩
    · exact hR _ _ ⟨r, rfl, s1, by rw [hp]; exact ⟨p1, p2, e1, f1, f2⟩⟩
  rintro σ2 H2 ⟨r2, rfl, s2, hc2⟩
  have hc1 := hc1.same s2
  have s02 := s1.trans s2
  obtain ⟨d1, dp1, sh1, ev1⟩ := dp_cr (K := K) hc1
  refine ⟨_, rfl, sz (by decide : 0 ≤ 100000), fun e1 ne1 => ?_⟩
  have ge1 := same_new ne1 (.lst [])
  obtain ⟨d1', dp1', sh1', ev1'⟩ := dp_cr (K := K) (hc1.same ge1)
  refine ⟨_, _, dp1', .lst (SqL.of upd_same) .nil, sh1', rfl, _, rfl, ?_⟩
  rw [ev1']
  cases ex : clip (2 * x1) (2 * (x2 - x1)) (2 * sx - 1) (2 * sx + 1) with
  | none =>
    refine iteT (iteT ?_)
    have e : goesL x1 y1 x2 y2 sx sy = false := by unfold goesL; rw [ex]
    rw [e] at q
    exact q _ (s02.trans ge1)
  | some pq =>
    obtain ⟨px, qx⟩ := pq
    rw [ex] at hc1
    refine iteF ?_
    refine ⟨_, rfl, sz (by decide : 0 ≤ 100000), fun e2 ne2 => ?_⟩
    have ge2 := same_new ne2 (.lst [])
    have s24 := ge1.trans ge2
    obtain ⟨d2, dp2, sh2, ev2⟩ := dp_cr (K := K) (hc2.same s24)
    refine ⟨_, _, dp2, .lst (SqL.of upd_same) .nil, sh2, rfl, _, rfl, ?_⟩
    rw [ev2]
    cases ey : clip (2 * y1) (2 * (y2 - y1)) (2 * sy - 1) (2 * sy + 1) with
    | none =>
      refine iteT ?_
      have e : goesL x1 y1 x2 y2 sx sy = false := by unfold goesL; rw [ex, ey]
      rw [e] at q
      exact q _ (s02.trans s24)
    | some pq =>
      obtain ⟨py, qy⟩ := pq
      rw [ey] at hc2
      refine iteF ?_
      obtain ⟨a1, a2, k1, f1, f2⟩ := hc1
      obtain ⟨b1, b2, k2, g1, g2⟩ := hc2
      have smx := sm_clip ex (by omega) (by omega) (by omega) (by omega)
      have smy := sm_clip ey (by omega) (by omega) (by omega) (by omega)
      have sm0 : sm 10000 (0, 1) := ⟨by decide, by decide, by decide, by decide⟩
      have sm1 : sm 10000 (1, 1) := ⟨by decide, by decide, by decide, by decide⟩
      have up : ∀ {z : Int × Int}, sm 10000 z → sm 1000000000 z := fun {z} h => by unfold sm at *; omega
      -- comes
      refine ⟨sz (by decide : 2 ≤ 100000), fun z1 nz1 => ?_⟩
      have gz1 := same_new nz1 (.tup [.int 0, .int 1])
      have s25 := s24.trans gz1
      refine ⟨_, rfl, r1, _, _, _, rfl, rfl, SqL.of (s25 _ _ k1), rfl, _, rfl, r2, _, _, _, rfl, rfl, SqL.of (s25 _ _ k2), rfl, a1, b1, px, py, rfl, s25 _ _ f1, s25 _ _ g1, up smx.1, fun l1 hl1 => ?_⟩
      refine ⟨z1, l1, (0, 1), later px py, rfl, upd_same, hl1, up sm0, fun pc hpc => ?_⟩
      -- leaves
      refine ⟨sz (by decide : 2 ≤ 100000), fun z2 nz2 => ?_⟩
      have gz2 := same_new nz2 (.tup [.int 1, .int 1])
      have s26 := s25.trans gz2
      refine ⟨_, rfl, r1, _, _, _, rfl, rfl, SqL.of (s26 _ _ k1), rfl, _, rfl, r2, _, _, _, rfl, rfl, SqL.of (s26 _ _ k2), rfl, a2, b2, qx, qy, rfl, s26 _ _ f2, s26 _ _ g2, up smx.2, fun l2 hl2 => ?_⟩
      refine ⟨z2, l2, (1, 1), sooner qx qy, rfl, upd_same, hl2, up sm1, fun pe hpe => ?_⟩
      have smc : sm 10000 (later (0, 1) (later px py)) := sm_later sm0 (sm_later smx.1 smy.1)
      have sme : sm 10000 (sooner (1, 1) (sooner qx qy)) := sm_sooner sm1 (sm_sooner smx.2 smy.2)
      have hpc := gz2 _ _ hpc
      have eg : goesL x1 y1 x2 y2 sx sy = (if (sooner (1, 1) (sooner qx qy)).1 * (later (0, 1) (later px py)).2 < (later (0, 1) (later px py)).1 * (sooner (1, 1) (sooner qx qy)).2 then false else decide (Ins x1 y1 x2 y2 sx sy (later (0, 1) (later px py)).1 (later (0, 1) (later px py)).2) || (decide (Ins x1 y1 x2 y2 sx sy (sooner (1, 1) (sooner qx qy)).1 (sooner (1, 1) (sooner qx qy)).2) || decide (Ins x1 y1 x2 y2 sx sy ((later (0, 1) (later px py)).1 * (sooner (1, 1) (sooner qx qy)).2 + (sooner (1, 1) (sooner qx qy)).1 * (later (0, 1) (later px py)).2) (2 * (later (0, 1) (later px py)).2 * (sooner (1, 1) (sooner qx qy)).2)))) := by
        unfold goesL
        rw [ex, ey]
      rw [eg] at q
      unfold fr at hpe
      unfold sm at smc sme
      generalize later (0, 1) (later px py) = c at *
      generalize sooner (1, 1) (sooner qx qy) = e at *
      refine ⟨_, rfl, pe, _, _, _, rfl, rfl, SqT.of hpe, rfl, _, rfl, pc, _, _, _, rfl, rfl, SqT.of hpc, rfl, _, _, rfl, rfl, .inl ⟨by omega, by omega⟩, ?_⟩
      refine ⟨_, rfl, pc, _, _, _, rfl, rfl, SqT.of hpc, rfl, _, rfl, pe, _, _, _, rfl, rfl, SqT.of hpe, rfl, _, _, rfl, rfl, .inl ⟨by omega, by omega⟩, _, _, rfl, rfl, _, rfl, ?_⟩
      by_cases hlt : e.1 * c.2 < c.1 * e.2
      · refine iteDT hlt ?_
        rw [if_pos hlt] at q
        exact q _ (s02.trans s26)
      · refine iteDF hlt ?_
        rw [if_neg hlt] at q
        refine ⟨_, rfl, pc, _, _, _, rfl, rfl, SqT.of hpc, rfl, _, rfl, pe, _, _, _, rfl, rfl, SqT.of hpe, rfl, _, _, rfl, rfl, .inl ⟨by omega, by omega⟩, ?_⟩
        refine ⟨_, rfl, pe, _, _, _, rfl, rfl, SqT.of hpe, rfl, _, rfl, pc, _, _, _, rfl, rfl, SqT.of hpc, rfl, _, _, rfl, rfl, .inl ⟨by omega, by omega⟩, _, _, rfl, rfl, ?_⟩
        refine ⟨_, rfl, pc, _, _, _, rfl, rfl, SqT.of hpc, rfl, _, _, rfl, rfl, .inl ⟨by decide, by decide⟩, _, rfl, pe, _, _, _, rfl, rfl, SqT.of hpe, rfl, _, _, rfl, rfl, .inl ⟨by omega, by omega⟩, sz (by decide : 2 ≤ 100000), fun pm nm => ?_⟩
        have gm := same_new nm (.tup [.int (c.1 * e.2 + e.1 * c.2), .int (2 * c.2 * e.2)])
        have hpc := gm _ _ hpc
        have hpe := gm _ _ hpe
        refine ⟨_, rfl, _, rfl, _, rfl, sz (by decide : 3 ≤ 100000), fun pl nl => ?_⟩
        have gl := same_new nl (.lst [.ref pc, .ref pe, .ref pm])
        have s28 := s26.trans (gm.trans gl)
        refine ⟨pl, rfl, ⟨_, SqL.of upd_same⟩, fun D hD => ?_⟩
        have gD := same_new hD (.lst [])
        obtain ⟨bsl, hbs⟩ : ∃ bsl : List Bool, bsl = [decide (Ins x1 y1 x2 y2 sx sy c.1 c.2), decide (Ins x1 y1 x2 y2 sx sy e.1 e.2), decide (Ins x1 y1 x2 y2 sx sy (c.1 * e.2 + e.1 * c.2) (2 * c.2 * e.2))] := ⟨_, rfl⟩
        have hpc := gl _ _ hpc
        have hpe := gl _ _ hpe
        have hpm := gl _ _ (upd_same (H := _) (a := pm) (o := .tup [.int (c.1 * e.2 + e.1 * c.2), .int (2 * c.2 * e.2)]))
        have s08 := s02.trans s28
        have dl : pl ≠ D := ne_of_none upd_same hD
        have dc : pc ≠ D := ne_of_none hpc hD
        have de : pe ≠ D := ne_of_none hpe hD
        have dm : pm ≠ D := ne_of_none hpm hD
        refine lc_list (K := K) (a := pl) (xs := [.ref pc, .ref pe, .ref pm]) (fun i H' => Same H H' ∧ H' pl = some (.lst [.ref pc, .ref pe, .ref pm]) ∧ H' pc = some (.tup [.int c.1, .int c.2]) ∧ H' pe = some (.tup [.int e.1, .int e.2]) ∧ H' pm = some (.tup [.int (c.1 * e.2 + e.1 * c.2), .int (2 * c.2 * e.2)]) ∧ H' D = some (.lst ((bsl.take i).map V.bl))) ?_ ?_ ?_ ?_
        · exact ⟨s08.trans gD, gD _ _ upd_same, gD _ _ hpc, gD _ _ hpe, gD _ _ hpm, upd_same⟩
        · rintro i H' _ ⟨_, hl, _⟩
          exact SqL.of hl
        · rintro i x H' hx ⟨sm', hl', hc', he', hm', hd'⟩
          refine ⟨rfl, lc_yes ?_⟩
          have small : ((bsl.take i).map V.bl).length < sizeLine := by
            rw [List.length_map, List.length_take]
            exact Nat.lt_of_le_of_lt (Nat.min_le_right _ _) (by rw [hbs]; exact Nat.lt_of_lt_of_le (by decide : 3 < 100000) (sz (Nat.le_refl _)))
          have again : ∀ b : Bool, bsl[i]? = some b → Same H (upd H' D (.lst ((bsl.take i).map V.bl ++ [.bl b]))) ∧ upd H' D (.lst ((bsl.take i).map V.bl ++ [.bl b])) pl = some (.lst [.ref pc, .ref pe, .ref pm]) ∧ upd H' D (.lst ((bsl.take i).map V.bl ++ [.bl b])) pc = some (.tup [.int c.1, .int c.2]) ∧ upd H' D (.lst ((bsl.take i).map V.bl ++ [.bl b])) pe = some (.tup [.int e.1, .int e.2]) ∧ upd H' D (.lst ((bsl.take i).map V.bl ++ [.bl b])) pm = some (.tup [.int (c.1 * e.2 + e.1 * c.2), .int (2 * c.2 * e.2)]) ∧ upd H' D (.lst ((bsl.take i).map V.bl ++ [.bl b])) D = some (.lst ((bsl.take (i + 1)).map V.bl)) := fun b hb =>
            ⟨fun a o ea => by rw [upd_ne (ne_of_none (s08 _ _ ea) hD)]; exact sm' _ _ ea, by rw [upd_ne dl]; exact hl', by rw [upd_ne dc]; exact hc', by rw [upd_ne de]; exact he', by rw [upd_ne dm]; exact hm', by rw [upd_same, List.take_succ, hb, List.map_append]; rfl⟩
          match i, hx, hd', small, again with
          | 0, hx, hd', small, again => cases hx; exact ⟨_, rfl, _, rfl, _, rfl, ps, pt, pc, x1, y1, x2, y2, sx, sy, _, _, rfl, hS.same sm', hc', sm' _ _ ht, bt, _, hd', small, again _ (by rw [hbs]; rfl)⟩
          | 1, hx, hd', small, again => cases hx; exact ⟨_, rfl, _, rfl, _, rfl, ps, pt, pe, x1, y1, x2, y2, sx, sy, _, _, rfl, hS.same sm', he', sm' _ _ ht, bt, _, hd', small, again _ (by rw [hbs]; rfl)⟩
          | 2, hx, hd', small, again => cases hx; exact ⟨_, rfl, _, rfl, _, rfl, ps, pt, pm, x1, y1, x2, y2, sx, sy, _, _, rfl, hS.same sm', hm', sm' _ _ ht, bt, _, hd', small, again _ (by rw [hbs]; rfl)⟩
        · rintro H' ⟨sm', hl', hc', he', hm', hd'⟩
          refine ⟨D, bsl, rfl, SqL.of (by rw [hd', hbs]; rfl), ?_⟩
          have ea : bsl.any id = (decide (Ins x1 y1 x2 y2 sx sy c.1 c.2) || (decide (Ins x1 y1 x2 y2 sx sy e.1 e.2) || decide (Ins x1 y1 x2 y2 sx sy (c.1 * e.2 + e.1 * c.2) (2 * c.2 * e.2)))) := by
            rw [hbs]
            simp only [List.any_cons, List.any_nil, id, Bool.or_false]
          rw [ea]
          exact q _ sm'
end
end DM

namespace DM
open PySem L2
def paperOf (M : List (Str × S4)) (cs : List Cause) (x y : Int) : Cause ⊕ List Str :=
  match cs.filter (atSpot x y) with
  | [] => .inr (thruN M x y)
  | c :: _ => .inl c
def spHeatPaper : Sp := fun vs H Q _ => ∃ (d ps : Addr) (x y : Int) (L : List (Str × S4)), vs = [.ref d, .ref ps] ∧ HeapAt H d L ∧ H ps = some (.tup [.int x, .int y]) ∧ SmP x y ∧ ∀ (pp : Addr) (H' : Hp) (cs : List Cause) (M : List (Str × S4)), Same H H' → AllCz L cs → SrtOf L M → PapV H' (.ref pp) (paperOf M cs x y) → Q (.ref pp) H'
def spForm : Sp := fun vs H Q _ => ∃ (pp : Addr) (pap : Cause ⊕ List Str), vs = [.ref pp] ∧ PapV H (.ref pp) pap ∧ (∀ c, pap = .inl c → PapC c) ∧ PapFit pap ∧ ∀ H', Same H H' → Q (.bl true) H'
def spNear2 : Sp := fun vs H Q _ => ∃ (b l d : Addr) (L : List (Str × S4)), vs = [.ref b, .ref d] ∧ BagAt H b l ∧ HeapAt H d L ∧ ∀ (ps : Addr) (H' : Hp) (x y : Int), BagAt H' b l → But b H H' → H' ps = some (.tup [.int x, .int y]) → SmP x y → Q (.ref ps) H'
theorem dat_eqv (c c' : Cause) : PyData.eqv c.dat c'.dat = decide (c = c') := by
  obtain ⟨x, y, wd, nm, th⟩ := c
  obtain ⟨x', y', wd', nm', th'⟩ := c'
  have e : decide ((⟨x, y, wd, nm, th⟩ : Cause) = ⟨x', y', wd', nm', th'⟩) = (decide (x = x') && (decide (y = y') && (decide (wd = wd') && (decide (nm = nm') && decide (th = th'))))) := by
    rw [Bool.eq_iff_iff]
    simp only [decide_eq_true_eq, Bool.and_eq_true, Cause.mk.injEq]
  rw [e]
  have b1 : ∀ a b : Int, (a == b) = decide (a = b) := fun a b => by rw [Bool.eq_iff_iff]; simp
  have b2 : ∀ a b : Str, (a == b) = decide (a = b) := fun a b => by rw [Bool.eq_iff_iff]; simp
  cases th <;> cases th' <;> simp [Cause.dat, Cause.tail, thD, PyData.eqv, PyData.eqvAll, Bool.and_assoc, b1, b2]
theorem any_dat {cs : List Cause} {c : Cause} : ((cs.map Cause.dat).any fun z => PyData.eqv z c.dat) = true ↔ c ∈ cs := by
  rw [List.any_map, List.any_eq_true]
  constructor
  · rintro ⟨c', hc', e⟩
    have e' : PyData.eqv c'.dat c.dat = true := e
    rw [dat_eqv, decide_eq_true_iff] at e'
    rw [← e']
    exact hc'
  · intro h
    exact ⟨c, h, by show PyData.eqv c.dat c.dat = true; rw [dat_eqv]; exact decide_eq_true rfl⟩
theorem dp_czs {K : PySem.W.Frag} {H : Hp} {l : Addr} {cs : List Cause} (h : LstOf CzV H l cs) : Dp K H (.ref l) (.list (cs.map Cause.dat)) := by
  obtain ⟨bs, h1, h2, rfl⟩ := h
  refine .lst (SqL.of h1) ?_
  clear h1
  induction bs with
  | nil => exact .nil
  | cons b bs ih => exact .cons (dp_czV (h2 b List.mem_cons_self)) (ih fun x hx => h2 x (List.mem_cons_of_mem _ hx))
theorem dat_lay {c : Cause} (h : c.fit) : PyData.canLay0 c.dat = true ∧ PyData.depth c.dat = 2 := by
  have f : PyData.canLayAll0 c.tail = true := h
  have d : PyData.depth (.tuple c.tail) = 1 := by
    unfold Cause.tail
    cases c.th <;> simp [PyData.depth, PyData.depthAll, thD]
  constructor
  · unfold Cause.dat
    simp [PyData.canLay0, PyData.canLayAll0, f]
  · unfold Cause.dat
    simp [PyData.depth, PyData.depthAll] at d ⊢
    omega
theorem dats_lay : ∀ {cs : List Cause}, (∀ c ∈ cs, c.fit) → PyData.canLayAll0 (cs.map Cause.dat) = true ∧ PyData.depthAll (cs.map Cause.dat) ≤ 2
  | [], _ => ⟨rfl, by decide⟩
  | c :: cs, h => by
    have ih := dats_lay fun x hx => h x (List.mem_cons_of_mem _ hx)
    have z := dat_lay (h c List.mem_cons_self)
    rw [List.map_cons]
    unfold PyData.canLayAll0 PyData.depthAll
    rw [ih.1, z.1, z.2]
    exact ⟨rfl, by omega⟩
theorem dats_shaped {cs : List Cause} (h : ∀ c ∈ cs, c.fit) : SeqAt.shaped (.list (cs.map Cause.dat)) = true := by
  have z := dats_lay h
  unfold SeqAt.shaped
  have e1 : PyData.canLay0 (.list (cs.map Cause.dat)) = true := by unfold PyData.canLay0; exact z.1
  have e2 : PyData.depth (.list (cs.map Cause.dat)) ≤ 64 := by unfold PyData.depth; omega
  rw [e1, decide_eq_true e2]
  rfl
theorem dat_shaped {c : Cause} (h : c.fit) : SeqAt.shaped c.dat = true := by
  have z := dat_lay h
  unfold SeqAt.shaped
  rw [z.1, decide_eq_true (by omega : PyData.depth c.dat ≤ 64)]
  rfl
theorem tail_shaped {c : Cause} (h : c.fit) : SeqAt.shaped (.tuple c.tail) = true := by
  have f : PyData.canLayAll0 c.tail = true := h
  have d : PyData.depth (.tuple c.tail) = 1 := by
    unfold Cause.tail
    cases c.th <;> simp [PyData.depth, PyData.depthAll, thD]
  unfold SeqAt.shaped
  have e1 : PyData.canLay0 (.tuple c.tail) = true := by unfold PyData.canLay0; exact f
  rw [e1, decide_eq_true (by omega : PyData.depth (.tuple c.tail) ≤ 64)]
  rfl
theorem cold_shaped {ns : List Str} (h : ∀ n ∈ ns, NmOk n) : SeqAt.shaped (.tuple [.str "cold", .tuple (ns.map PyData.str)]) = true := by
  have z := names_lay h
  have e0 : PyData.canLay0 (.str "cold") = true := by decide +kernel
  unfold SeqAt.shaped
  have e1 : PyData.canLay0 (.tuple [.str "cold", .tuple (ns.map PyData.str)]) = true := by simp [PyData.canLay0, PyData.canLayAll0, z.1]; first | exact e0 | simpa [PyData.canLay0] using e0
  have e2 : PyData.depth (.tuple [.str "cold", .tuple (ns.map PyData.str)]) ≤ 64 := by simp [PyData.depth, PyData.depthAll, z.2]
  rw [e1, decide_eq_true e2]
  rfl
theorem AllCz.near {L : List (Str × S4)} {cs : List Cause} (h : AllCz L cs) (ok : ∀ p ∈ L, p.2.ok) : ∀ c ∈ cs, SmP c.x c.y := fun c hc => by
  obtain ⟨M, pM, so, pc⟩ := h.all
  unfold SmP
  rcases List.mem_append.mp (pc.mem_iff.mp hc) with z | z
  · obtain ⟨p, hp, hc⟩ := List.mem_flatMap.mp z
    have := (ok p hp).1
    simp only [endsCz, List.mem_cons, List.not_mem_nil, or_false] at hc
    rcases hc with rfl | rfl <;> (dsimp only; omega)
  · obtain ⟨i, j, a, b, _, h1, h2, e⟩ := mem_crossCz.mp z
    unfold crossOf at e
    cases m : metSq a.2 b.2 with
    | none => rw [m] at e; cases e
    | some q =>
      rw [m] at e
      have := Option.some.inj e
      subst this
      have oa := ok a (pM.mem_iff.mp (List.mem_of_getElem? h1))
      have ob := ok b (pM.mem_iff.mp (List.mem_of_getElem? h2))
      have t := thr_betw (sq_thr oa ob m)
      have := oa.1
      dsimp only
      omega
section
variable {P : Program} {w : World} {K : PySem.W.Frag} {mg : Str → Option Value} {base : Heap} {f : Addr} {fd : FuncData}
abbrev s_paper_right : Stmt := top 63
theorem sc_paper_right : FnScope ["_law_heap", "_law_spot_here", "_law_paper", "_law_names_here", "_law_name"] ["_law_heap", "_law_spot_here", "_law_paper"] (defScope s_paper_right) := ⟨rfl, rfl, rfl, by decide +kernel, rfl, by decide +kernel, by decide +kernel⟩
theorem ok_paper_right (B : Blt mg) (c_goes : Cal P w K mg base 2 "_law_goes" ["_law_stroke_here", "_law_spot_here"] spGoes) (c_causes : Cal P w K mg base 4 "_law_causes" ["_law_heap"] spCauses) (c_hot : Cal P w K mg base 5 "_law_hot" ["_law_heap"] spHotG) (F : Fun K "_law_paper_right" "_law_paper_right" s_paper_right f fd) : FnOk P w K mg base CX0 6 f fd ["_law_heap", "_law_spot_here", "_law_paper"] spJudge := by
  refine F.ok sc_paper_right (fun vs H Q E h => ?_) (fun cdv A outer s H vs Q E hr h => ?_)
  · obtain ⟨d, ps, pp, x, y, L, pap, rfl, _⟩ := h
    rfl
  obtain ⟨d, ps, pp, x, y, L, pap, rfl, hH, hp, sm, pvv, pat, pok, q⟩ := h
  refine ⟨_, (pss_cons (ps_if (pt_cmpR op_eq (pe_ix ix_tup (pv 2) pe_int (fun _ _ => rfl)) pe_str (nomark _))
    (pss_cons (ps_set (i := 3) sc_paper_right.nd rfl (Or.inl rfl) (pe_callTy call_tuple_of rfl B.tuple bt_tuple (pa_cons (pe_lc (own := [("_law_name", 4)]) (g := gName 4) (tt := _) rfl sc_paper_right.nd (pi_list (pe_callB (call_sortedD rfl) rfl B.sorted bt_sorted (pa_cons (pv 0) pa_nil))) (blkOk_by (own := [("_law_name", 4)]) (N := ["_law_heap", "_law_spot_here", "_law_paper", "_law_names_here", "_law_name"]) (sc := defScope s_paper_right) (by decide +kernel)) (fun _ _ _ _ _ => pg_name (i := 4) sc_paper_right.nd rfl (Or.inl rfl)) (fun _ _ _ _ _ => (pts_one (pt_val (pe_cal c_goes hr (pa_cons (pe_dget (hu_of hr) (pv 0) (pv 4) (fun _ _ => rfl)) (pa_cons (pv 1) pa_nil)))))) (fun _ _ _ _ _ => (pv 4))) pa_nil)))
    (pss_one (ps_ret (pe_and (pe_cmpR (op_eqD hr.units) (pe_ix ix_tup (pv 2) pe_int (fun _ _ => rfl)) (pv 3) (nomark _)) (pe_one (pe_cmpR (op_notInD (u65 hr)) (pv 1) (pe_cal c_hot hr (pa_cons (pv 0) pa_nil)) rfl))))))
    pss_nil)
    (pss_one (ps_ret (pe_cmpR (op_inD (u65 hr)) (pe_tup (pa_cons (pv 1) (pa_cons (pv 2) pa_nil))) (pe_cal c_causes hr (pa_cons (pv 0) pa_nil)) rfl)))), ?_⟩
  cases pap with
  | inl c =>
    obtain ⟨rfl, rfl, pc⟩ := pat
    obtain ⟨a, ea, ha⟩ := pvv
    cases ea
    have fc : c.fit := pok
    have nc : ¬ V.str c.wd = V.str "cold" := fun z => by
      have z' := V.str.inj z
      rcases pc with ⟨e, _⟩ | ⟨e, _⟩ <;> (rw [e] at z'; revert z'; decide)
    refine ⟨_, rfl, pp, _, _, _, rfl, rfl, SqT.of ha, rfl, rfl, _, rfl, iteDF nc ?_⟩
    refine ⟨_, rfl, _, rfl, sz (by decide : 2 ≤ 100000), fun p0 n0 => ?_⟩
    have g0 := same_new n0 (.tup [.ref ps, .ref pp])
    refine ⟨_, rfl, d, L, rfl, hH.same g0, fun l H1 cs s1 n1 all z1 => ?_⟩
    have e1 := g0.trans s1
    refine ⟨_, _, dp_czV (c := c) ⟨p0, ps, .ref pp, rfl, s1 _ _ upd_same, e1 _ _ hp, ⟨pp, rfl, e1 _ _ ha⟩⟩, dp_czs z1, dat_shaped fc, dats_shaped (all.fit hH.nm), ?_⟩
    refine q _ _ e1 fun cs' M all' so => ?_
    obtain rfl := AllCz.one hH.nd all all'
    exact any_dat
  | inr ns =>
    obtain ⟨a, t, ea, ha, ht⟩ := pvv
    cases ea
    have okn : ∀ n ∈ ns, NmOk n := pok
    refine ⟨_, rfl, pp, _, _, _, rfl, rfl, SqT.of ha, rfl, rfl, _, rfl, iteDT rfl ?_⟩
    refine seq_with (fun σ' J => ∃ (pn : Addr) (c4 : Option V) (M : List (Str × S4)), σ' = [some (.ref d), some (.ref ps), some (.ref pp), some (.ref pn), c4] ∧ Same H J ∧ SrtOf L M ∧ J pn = some (.tup ((thruN M x y).map V.str))) (fun R hR => ?_) ?_
    · obtain ⟨bs, hd, hb, hL⟩ := id hH.at'
      have few := hH.few
      have keys : (bs.map (·.1)).map (·.1) = (L.map (·.1)).map (fun n => (Sum.inr n : Key)) := by
        rw [← hL, List.map_map, List.map_map, List.map_map]
        exact List.map_congr_left fun b hb' => (hb b hb').1
      refine ⟨_, rfl, d, _, L.map (·.1), rfl, .inl hd, keys, (by rw [List.length_map]; omega), fun ys pn pm so npn => ?_⟩
      obtain ⟨M, pM, rfl⟩ := perm_map_from pm L rfl
      have lM : M.length = L.length := pM.length_eq
      have inM : ∀ p ∈ M, p ∈ L := fun p hp => pM.mem_iff.mp hp
      have g0 := same_new npn (.lst ((M.map (·.1)).map V.str))
      have hpn : upd H pn (.lst ((M.map (·.1)).map V.str)) pn = some (.lst ((M.map (·.1)).map V.str)) := upd_same
      generalize upd H pn (.lst ((M.map (·.1)).map V.str)) = H0 at *
      refine ⟨pn, rfl, ⟨_, SqL.of hpn⟩, fun D nD => ?_⟩
      have g1 := same_new nD (.lst [])
      refine lc_any (.l (K := K) (a := pn) (xs := (M.map (·.1)).map V.str)) (fun i J => Same H0 J ∧ J D = some (.lst ((thruN (M.take i) x y).map V.str))) ?_ ?_ ?_ ?_
      · exact ⟨g1, upd_same⟩
      · rintro i J _ ⟨e, _⟩
        exact e _ _ hpn
      · rintro i v J hv ⟨e, hD⟩
        obtain ⟨a, ha, rfl⟩ : ∃ a, M[i]? = some a ∧ v = V.str a.1 := by
          rw [List.getElem?_map, List.getElem?_map] at hv
          cases e : M[i]? with
          | none => rw [e] at hv; cases hv
          | some b => rw [e] at hv; exact ⟨b, rfl, (Option.some.inj hv).symm⟩
        have inA := inM a (List.mem_of_getElem? ha)
        have e0 := g0.trans e
        obtain ⟨va, ga, pa, rfl, ka⟩ := (hH.same e0).get inA
        refine ⟨rfl, _, rfl, _, rfl, d, .ref pa, rfl, ga, _, rfl, pa, ps, _, _, _, _, x, y, rfl, ka, e0 _ _ hp, sm, fun J2 s2 => ?_⟩
        have hD2 := s2 _ _ hD
        refine ⟨_, rfl, ?_⟩
        rw [take_snoc ha]
        unfold thruN thruP at *
        rw [List.filter_append]
        have f1 : goesL a.2.1.1 a.2.1.2 a.2.2.1 a.2.2.2 x y = true → [a].filter (fun p : Str × S4 => goesL p.2.1.1 p.2.1.2 p.2.2.1 p.2.2.2 x y) = [a] := fun z => by simp [z]
        have f2 : goesL a.2.1.1 a.2.1.2 a.2.2.1 a.2.2.2 x y = false → [a].filter (fun p : Str × S4 => goesL p.2.1.1 p.2.1.2 p.2.2.1 p.2.2.2 x y) = [] := fun z => by simp [z]
        cases eg : goesL a.2.1.1 a.2.1.2 a.2.2.1 a.2.2.2 x y with
        | true =>
          refine iteT ⟨_, rfl, _, hD2, ?_, fun c o z => ?_, ?_⟩
          · rw [List.length_map, List.length_map]
            have := List.length_filter_le (fun p : Str × S4 => goesL p.2.1.1 p.2.1.2 p.2.2.1 p.2.2.2 x y) (M.take i)
            rw [List.length_take] at this
            exact Nat.lt_of_lt_of_le (by omega : _ < 100000) (sz (Nat.le_refl _))
          · rw [upd_ne (ne_of_none z nD)]
            exact s2 _ _ (e _ _ z)
          · rw [upd_same, f1 eg, List.map_append, List.map_append]
            rfl
        | false =>
          refine iteF ⟨e.trans s2, ?_⟩
          rw [f2 eg, hD2, List.append_nil]
      · rintro J ⟨e, hD⟩
        have : ((M.map (·.1)).map V.str).length = M.length := by rw [List.length_map, List.length_map]
        rw [this, List.take_length] at hD
        refine ⟨D, _, rfl, .inl ⟨SqL.of hD, fun t nt => ?_⟩⟩
        have g3 := same_new nt (.tup ((thruN M x y).map V.str))
        exact hR _ _ ⟨t, _, M, rfl, g0.trans (e.trans g3), ⟨pM, so⟩, upd_same⟩
    rintro _ J ⟨pn, c4, M, rfl, e, so, hpn⟩
    refine ⟨_, rfl, pp, _, _, _, rfl, rfl, SqT.of (e _ _ ha), rfl, _, rfl, _, _, dp_names (e _ _ ht), dp_names hpn, names_shaped okn, names_shaped (thru_ok hH.nm so), ?_⟩
    have ev : PyData.eqv (.tuple (ns.map PyData.str)) (.tuple ((thruN M x y).map PyData.str)) = decide (ns = thruN M x y) := by
      unfold PyData.eqv
      exact names_eqv
    rw [ev]
    refine ⟨_, rfl, ?_⟩
    by_cases c : ns = thruN M x y
    · refine iteDT c ?_
      refine ⟨_, rfl, _, rfl, d, L, rfl, hH.same e, fun l H1 cs xs S s1 n1 all hl pS rise mS => ?_⟩
      have e1 := e.trans s1
      refine ⟨_, _, dp_pair (e1 _ _ hp), dp_prs hl pS, shaped_pair _ _, shaped_prs _, ?_⟩
      refine q _ _ e1 fun cs' M' all' so' => ?_
      obtain rfl := AllCz.one hH.nd all all'
      obtain rfl := names_only hH.nd so.1 so'.1 so.2 so'.2
      rw [Bool.not_eq_true', Bool.eq_false_iff, Ne, List.any_map, List.any_eq_true]
      constructor
      · refine fun z => ⟨c, fun c' hc' e' => z ⟨(x, y), (mS _).mpr ⟨c', hc', Prod.ext e'.1 e'.2⟩, ?_⟩⟩
        show PyData.eqv (.tuple [.int x, .int y]) (.tuple [.int x, .int y]) = true
        rw [eqv_pair]
        exact decide_eq_true ⟨rfl, rfl⟩
      · rintro ⟨_, cold⟩ ⟨p, hp', ev'⟩
        have ev2 : PyData.eqv (.tuple [.int p.1, .int p.2]) (.tuple [.int x, .int y]) = true := ev'
        rw [eqv_pair, decide_eq_true_iff] at ev2
        obtain ⟨c', hc', e'⟩ := (mS p).mp hp'
        refine cold c' hc' ⟨?_, ?_⟩
        · rw [← ev2.1, ← e']
        · rw [← ev2.2, ← e']
    · refine iteDF c ?_
      refine q _ _ e fun cs' M' all' so' => ?_
      obtain rfl := names_only hH.nd so.1 so'.1 so.2 so'.2
      exact ⟨fun z => (by cases z), fun z => absurd z.1 c⟩
end
end DM

namespace DM
open PySem L2
def spNamesN : Sp := fun vs H Q _ => ∃ (b l : Addr), vs = [.ref b] ∧ BagAt H b l ∧ ∀ (pn : Addr) (H' : Hp) (ys : List Str), BagAt H' b l → But b H H' → H pn = none → pn ≠ b → H' pn = some (.lst (ys.map V.str)) → ys.Perm NAMES → Q (.ref pn) H'
theorem namesN_of (vs : List V) (H : Hp) (Q : VK) (E : XK) (h : spNames vs H Q E) : spNamesN vs H Q E := by
  obtain ⟨b, l, rfl, hB, q⟩ := h
  exact ⟨b, l, rfl, hB, fun pn H' ys h1 h2 h3 h4 h5 pm => q pn H' ys h1 h2 h3 h4 h5 (pm.nodup_iff.mpr names_nd) pm.length_eq fun n hn => names_ok n (pm.mem_iff.mp hn)⟩
theorem HeapAt.valP {H : Hp} {d : Addr} {L : List (Str × S4)} {kvs : List (Key × V)} (h : HeapAt H d L) (hd : H d = some (.dK kvs)) {p : Str × S4} (hp : p ∈ L) : ∃ v, valV kvs (.inr p.1) = some v ∧ StkV H v p.2 := by
  obtain ⟨v, g, sv⟩ := h.get hp
  rcases g with ⟨kvs', k, e, ek, ev⟩ | ⟨kvs', k, b, e, ek, _⟩
  · rcases e with e | ⟨o, e⟩
    · rw [hd] at e
      cases e
      cases k with
      | inl i => cases ek
      | inr n => cases ek; exact ⟨v, ev.symm, sv⟩
    · rw [hd] at e
      cases e
  · cases ek
def ODD : List Str := ["", " ", "end", "cold", "Z 9", "0"]
theorem odd_nd {ys : List Str} (pm : ys.Perm NAMES) : (ODD ++ ys).Nodup := by
  refine List.nodup_append.mpr ⟨by decide +kernel, pm.nodup_iff.mpr names_nd, fun a ha b hb e => ?_⟩
  have : ∀ n ∈ ODD, n ∉ NAMES := by
    have z : ODD.all (fun n => !NAMES.contains n) = true := by decide +kernel
    intro n hn hc
    have := List.all_eq_true.mp z n hn
    rw [Bool.not_eq_true', List.contains_iff_mem.mpr hc] at this
    cases this
  exact this a ha (pm.mem_iff.mp (by rw [e]; exact hb))
theorem odd_ok {ys : List Str} (pm : ys.Perm NAMES) : ∀ n ∈ ODD ++ ys, NmOk n := fun n hn => by
  rcases List.mem_append.mp hn with z | z
  · have : ODD.all (fun n => PyData.canLay0 (.str n)) = true := by decide +kernel
    exact List.all_eq_true.mp this n z
  · exact names_ok n (pm.mem_iff.mp z)
theorem heapedN {H : Hp} {d : Addr} {ys : List Str} {bs : List (V × S4)} (hb : ∀ b ∈ bs, StkV H b.1 b.2) (nd : ys.Nodup) (l32 : bs.length ≤ 32) (nm : ∀ n ∈ ys, NmOk n) (hd : H d = none) : HeapAt (upd H d (.dK (mergeK [] (kvOf ys bs)))) d (ys.zip (bs.map (·.2))) := by
  have em : mergeK [] (kvOf ys bs) = kvOf ys bs := merge_new (kvOf ys bs) [] (kv_keys ys bs nd)
  rw [em]
  have kt : KeepT H (upd H d (.dK (kvOf ys bs))) := .new hd
  refine ⟨⟨(ys.zip bs).map fun q => ((.inr q.1, q.2.1), (q.1, q.2.2)), ?_, fun b hbm => ?_, ?_⟩, nd.sublist (zip_fst_sub ys _), ?_, fun p hp => ?_⟩
  · rw [upd_same, List.map_map]
    rfl
  · obtain ⟨q, hq, rfl⟩ := List.mem_map.mp hbm
    exact ⟨rfl, (hb q.2 (List.of_mem_zip hq).2).keep kt⟩
  · rw [List.map_map, List.zip_map_right]
    rfl
  · rw [List.length_zip, List.length_map]
    omega
  · exact nm p.1 (List.of_mem_zip (show (p.1, p.2) ∈ _ from hp)).1
theorem paper_right {L M : List (Str × S4)} {cs : List Cause} {x y : Int} (all : AllCz L cs) : PapR M cs x y (paperOf M cs x y) ∧ PapAt x y (paperOf M cs x y) := by
  unfold paperOf
  cases e : cs.filter (atSpot x y) with
  | nil =>
    refine ⟨⟨rfl, fun c hc z => ?_⟩, trivial⟩
    have : c ∈ cs.filter (atSpot x y) := List.mem_filter.mpr ⟨hc, decide_eq_true z⟩
    rw [e] at this
    cases this
  | cons c r =>
    have hc : c ∈ cs.filter (atSpot x y) := by rw [e]; exact List.mem_cons_self
    obtain ⟨h1, h2⟩ := List.mem_filter.mp hc
    have h2' := of_decide_eq_true h2
    exact ⟨h1, h2'.1, h2'.2, all.pap h1⟩
theorem paper_fit {L M : List (Str × S4)} {cs : List Cause} {x y : Int} (all : AllCz L cs) (so : SrtOf L M) (nm : ∀ p ∈ L, NmOk p.1) : PapFit (paperOf M cs x y) := by
  unfold paperOf
  cases e : cs.filter (atSpot x y) with
  | nil => exact thru_ok nm so
  | cons c r =>
    have hc : c ∈ cs.filter (atSpot x y) := by rw [e]; exact List.mem_cons_self
    exact all.fit nm c (List.mem_filter.mp hc).1
/-- a paper as data -/
def papD : Cause ⊕ List Str → PyData
  | .inl c => .tuple c.tail
  | .inr ns => .tuple [.str "cold", .tuple (ns.map PyData.str)]
theorem dp_pap {K : PySem.W.Frag} {H : Hp} {v : V} {pap : Cause ⊕ List Str} (h : PapV H v pap) : Dp K H v (papD pap) := by
  cases pap with
  | inl c => exact dp_czT h
  | inr ns =>
    obtain ⟨a, t, rfl, h1, h2⟩ := h
    exact .tup (SqT.of h1) (.cons (.str _) (.cons (dp_names h2) .nil))
theorem pap_shaped {pap : Cause ⊕ List Str} (h : PapFit pap) : SeqAt.shaped (papD pap) = true := by
  cases pap with
  | inl c => exact tail_shaped h
  | inr ns => exact cold_shaped h
theorem pap_eqv (pap : Cause ⊕ List Str) : PyData.eqv (papD pap) (papD pap) = true := by
  cases pap with
  | inl c =>
    obtain ⟨x, y, wd, nm, th⟩ := c
    unfold papD Cause.tail
    cases th <;> simp [thD, PyData.eqv, PyData.eqvAll]
  | inr ns =>
    have : PyData.eqvAll (ns.map PyData.str) (ns.map PyData.str) = true := by rw [names_eqv]; exact decide_eq_true rfl
    unfold papD
    simp [PyData.eqv, PyData.eqvAll, this]
theorem srt_one {L M N : List (Str × S4)} (nd : (L.map (·.1)).Nodup) (h : SrtOf L M) (h' : SrtOf L N) : M = N := names_only nd h.1 h'.1 h.2 h'.2
theorem names_sorted {ns ms : List Str} (h : ns.Pairwise fun a b : Str => a.cps.toList < b.cps.toList) (pm : ms.Perm ns) (so : PyProof.Rows.sortedS ms = true) : ms = ns :=
  pm.eq_of_pairwise (fun a b _ _ h1 h2 => str_cps (List.le_antisymm h1 h2)) (sorted_le2 so) (h.imp fun {a b} z => List.le_of_lt z)
section
variable {P : Program} {w : World} {K : PySem.W.Frag} {mg : Str → Option Value} {base : Heap} {f : Addr} {fd : FuncData}
theorem zk_names (c_pull : Cal P w K mg base 1 "_law_pull" ["_law_bag_here", "_law_amount"] spPull) (F : Fun K "_law_names" "_law_names" s_names f fd) : FnOk P w K mg base CX0 2 f fd ["_law_bag_here"] spNamesN := by
  refine F.ok sc_names (fun vs H Q E h => ?_) (fun cdv A outer s H vs Q E hr h => ?_)
  · obtain ⟨b, l, rfl, _⟩ := h
    rfl
  obtain ⟨b, l, rfl, hB, q⟩ := h
  refine ⟨_, (pss_cons (ps_set (i := 1) sc_names.nd rfl (Or.inl rfl) (pe_lst (pa_cons pe_str (pa_cons pe_str (pa_cons pe_str (pa_cons pe_str (pa_cons pe_str (pa_cons pe_str (pa_cons pe_str (pa_cons pe_str (pa_cons pe_str (pa_cons pe_str (pa_cons pe_str (pa_cons pe_str (pa_cons pe_str (pa_cons pe_str (pa_cons pe_str (pa_cons pe_str pa_nil))))))))))))))))))
    (pss_cons (ps_set (i := 2) sc_names.nd rfl (Or.inl rfl) (pe_cal c_pull hr (pa_cons (pv 0) (pa_cons pe_int pa_nil))))
    (pss_one (ps_ret (pe_op op_cat (pe_slice sl_list (pv 1) (po_some (pv 2)) po_none) (pe_slice sl_list (pv 1) po_none (po_some (pv 2)))))))), ?_⟩
  refine ⟨sz (by decide : 16 ≤ 100000), fun p1 n1 => ?_⟩
  have g1 := same_new n1 (.lst (NAMES.map V.str))
  have hp1 : upd H p1 (.lst (NAMES.map V.str)) p1 = some (.lst (NAMES.map V.str)) := upd_same
  refine ⟨_, rfl, b, _, _, rfl, hB.same g1, by decide, by decide, fun r H2 hB2 bt2 r0 r1 => ?_⟩
  have p1b := (hB.new n1).1
  have hp2 := bt2 _ _ p1b hp1
  refine ⟨_, rfl, _, rfl, _, rfl, p1, _, rfl, SqL.of hp2, fun p3 n3 => ?_⟩
  have g3 := same_new n3 (.lst (cutV (NAMES.map V.str) (some r) none))
  refine ⟨_, rfl, _, rfl, _, rfl, p1, _, rfl, SqL.of (g3 _ _ hp2), fun p4 n4 => ?_⟩
  have g4 := same_new n4 (.lst (cutV (NAMES.map V.str) none (some r)))
  refine ⟨p3, p4, _, _, rfl, rfl, g4 _ _ upd_same, upd_same, ?_, fun p5 n5 => ?_⟩
  · have h1 := cutV_length (NAMES.map V.str) (some r) none
    have h2 := cutV_length (NAMES.map V.str) none (some r)
    have h3 : (NAMES.map V.str).length = 16 := rfl
    exact sz (by omega)
  obtain ⟨k, rfl⟩ : ∃ k : Nat, r = (k : Int) := ⟨r.toNat, by omega⟩
  have c1 : cutV (NAMES.map V.str) (some (k : Int)) none = (NAMES.drop k).map V.str := by rw [cut_at, List.map_drop]
  have c2 : cutV (NAMES.map V.str) none (some (k : Int)) = (NAMES.take k).map V.str := by
    unfold cutV
    rw [HT.sIx_nat, HT.sIx_none]
    have h3 : (NAMES.map V.str).length = 16 := rfl
    rw [Nat.min_eq_left (by omega), Nat.sub_zero, List.map_take]
    rfl
  have g5 := same_new n5 (.lst (cutV (NAMES.map V.str) (some (k : Int)) none ++ cutV (NAMES.map V.str) none (some (k : Int))))
  have gA := g3.trans (g4.trans g5)
  have pm : (NAMES.drop k ++ NAMES.take k).Perm NAMES := by
    have := List.perm_append_comm (l₁ := NAMES.drop k) (l₂ := NAMES.take k)
    rw [List.take_append_drop] at this
    exact this
  have bt : But b H H2 := (But.of g1).trans bt2
  refine q p5 _ (NAMES.drop k ++ NAMES.take k) (hB2.same gA) (bt.trans (But.of gA)) ?_ ?_ ?_ pm
  · have z : H2 p5 = none := (g3.trans g4).free n5
    cases e : H p5 with
    | none => rfl
    | some o =>
      have pb : p5 ≠ b := fun y => by
        obtain ⟨_, hb⟩ := hB2.hasB
        rw [y, hb] at z
        cases z
      rw [bt _ _ pb e] at z
      cases z
  · exact fun y => by
      obtain ⟨_, hb⟩ := (hB2.same (g3.trans g4)).hasB
      rw [y, hb] at n5
      cases n5
  · rw [upd_same, c1, c2, List.map_append]
end
end DM

namespace L2
open PySem PySem.Spec PyProof.Rows
/-! ### xs[::k], k 1 or -1 -/
def tStepL (K : PySem.W.Frag) (te ts : TE) : TE := fun σ H Q => te σ H fun x H1 => ts σ H1 fun y H2 => ∃ a xs i, x = .ref a ∧ y = .int i ∧ (i = 1 ∨ i = -1) ∧ SqL K H2 a xs ∧ ∀ p, H2 p = none → Q (.ref p) (upd H2 p (.lst (if i = 1 then xs else xs.reverse)))
theorem pick_all (items : Array Value) : slicePick items none none (some 1) = items := by
  have e : slicePick items none none (some 1) = slicePick items none none none := rfl
  rw [e, PySem.W.kmk_pick_nat (lo := none) (hi := none) items (a := 0) (b := items.size) rfl]
  rw [List.drop_zero, Nat.sub_zero, ← Array.length_toList, List.take_length]
theorem pe_stepL {X : Cx} {e se : Expr} {te ts : TE} {p3 pos : Pos} (he : PE X e te) (hs : PE X se ts) : PE X (.Subscript e (.Slice none none (some se) p3) pos) (tStepL X.K te ts) := by
  refine ⟨fun pins s σ H Q I h => ?_⟩
  refine Subscript_ (thn (he.run pins s σ H _ I h) fun v s1 ⟨x, H1, I1, r1, q1⟩ => ?_)
  refine wpAny_Slice (thn (po_none.run pins s1 σ H1 (fun o H2 => o = none ∧ H2 = H1) I1 ⟨rfl, rfl⟩) fun vl s2 ⟨l, H2, I2, pl, el, e2⟩ => ?_)
  subst el e2
  refine thn (po_none.run pins s2 σ H2 (fun o H3 => o = none ∧ H3 = H2) I2 ⟨rfl, rfl⟩) fun vu s3 ⟨u, H3, I3, pu, eu, e3⟩ => ?_
  subst eu e3
  rw [evalPart_some]
  refine thn (hs.run pins s3 σ H3 _ I3 q1) fun vy s4 ⟨y, H4, I4, ry, q4⟩ => ?_
  obtain ⟨a, xs, i, ex, ey, hi, hx, q⟩ := q4
  subst ex ey
  cases r1
  obtain ⟨t, rfl⟩ := ry
  have I5 : Inv X pins σ H4 { s4 with heap := s4.heap.push { cls := .type "slice", data := .fields #[vl, vu, .int i t] } } := I4.kept (t' := s4.toks) fun b ob q => Heap.get?_push_of_some _ q
  obtain ⟨its, r, ht, hz⟩ := I5.list hx
  have hlen := r.length
  show wpAny (model X.prog X.w) X.A (subscriptTail e (.Slice none none (some se) p3) (.ref a) (.ref s4.heap.objs.size)) (EP X pins σ Q) X.xe { s4 with heap := s4.heap.push { cls := .type "slice", data := .fields #[vl, vu, .int i t] } }
  refine tail_any (ops := [.ref a, .ref s4.heap.objs.size]) ht.isList.typeIs (PySem.slot_list_getitem.lookup) ?_ (by with_unfolding_all rfl)
  refine wpAny_getItem_list_slice ht.isList (Heap.IsSliceOf.new _ vl vu (.int i t)) pl pu (.int i t) (by intro z; have := Option.some.inj z; omega) ?_ (by rw [List.size_toArray]; omega)
  rcases hi with rfl | rfl
  · rw [pick_all]
    refine ⟨.ref _, _, I5.laid (t' := s4.toks) (o := .lst xs) (fun b ob q => Heap.get?_push_of_some _ q) (Nat.le_refl _) ?_, rfl, q _ (I5.hok.fresh (Nat.le_refl _))⟩
    exact ⟨hz, _, 0, r, Heap.get?_push_size _ rfl⟩
  · rw [PySem.W.krv_pick]
    refine ⟨.ref _, _, I5.laid (t' := s4.toks) (o := .lst xs.reverse) (fun b ob q => Heap.get?_push_of_some _ q) (Nat.le_refl _) ?_, rfl, q _ (I5.hok.fresh (Nat.le_refl _))⟩
    exact ⟨by rw [List.length_reverse]; exact hz, _, 0, r.reverse, Heap.get?_push_size _ rfl⟩
end L2

namespace DM
open PySem L2
def spAnyPaper : Sp := fun vs H Q _ => ∃ (b l d ps : Addr) (x y : Int) (L : List (Str × S4)), vs = [.ref b, .ref d, .ref ps] ∧ BagAt H b l ∧ d ≠ b ∧ HeapAt H d L ∧ H ps = some (.tup [.int x, .int y]) ∧ SmP x y ∧ ∀ (pp : Addr) (H' : Hp) (pap : Cause ⊕ List Str), BagAt H' b l → But b H H' → PapV H' (.ref pp) pap → PapAt x y pap → PapFit pap → Q (.ref pp) H'
def spNear3 : Sp := fun vs H Q _ => ∃ (b l d : Addr) (L : List (Str × S4)), vs = [.ref b, .ref d] ∧ BagAt H b l ∧ HeapAt H d L ∧ ∀ (ps : Addr) (H' : Hp) (x y : Int), BagAt H' b l → But b H H' → H' ps = some (.tup [.int x, .int y]) → SmP x y → (∃ cs, AllCz L cs) → Q (.ref ps) H'
def CzE (H : Hp) (v : V) (c : Cause) : Prop := CzT H v c ∧ PapC c ∧ c.fit
theorem CzE.keep' (H H' : Hp) (v : V) (c : Cause) (h : CzE H v c) (e : KeepT H H') : CzE H' v c := ⟨h.1.keep e, h.2⟩
theorem tail_fit {a n : Str} {t : Int ⊕ Str} (ha : NmOk a) (hn : NmOk n) (ht : PyData.canLay0 (thD t) = true) (x y : Int) : (⟨x, y, a, n, t⟩ : Cause).fit := by
  show PyData.canLayAll0 [.str a, .str n, thD t] = true
  have h1 : PyData.canLay0 (.str a) = true := ha
  have h2 : PyData.canLay0 (.str n) = true := hn
  unfold PyData.canLayAll0 PyData.canLayAll0 PyData.canLayAll0 PyData.canLayAll0
  rw [h1, h2, ht]
  rfl
section
variable {P : Program} {w : World} {K : PySem.W.Frag} {mg : Str → Option Value} {base : Heap} {f : Addr} {fd : FuncData}
abbrev s_any_paper : Stmt := top 64
theorem sc_any_paper : FnScope ["_law_bag_here", "_law_heap", "_law_spot_here", "_law_names_here", "_law_one", "_law_other", "_law_through", "_law_name", "_law_fork", "_law_some", "_law_at", "_law_cause"] ["_law_bag_here", "_law_heap", "_law_spot_here"] (defScope s_any_paper) := ⟨rfl, rfl, rfl, by decide +kernel, rfl, by decide +kernel, by decide +kernel⟩
theorem ok_any_paper (B : Blt mg) (c_pull : Cal P w K mg base 1 "_law_pull" ["_law_bag_here", "_law_amount"] spPull) (c_of : Cal P w K mg base 2 "_law_of" ["_law_bag_here", "_law_things"] spOf) (c_goes : Cal P w K mg base 2 "_law_goes" ["_law_stroke_here", "_law_spot_here"] spGoes) (c_causes : Cal P w K mg base 4 "_law_causes" ["_law_heap"] spCauses) (F : Fun K "_law_any_paper" "_law_any_paper" s_any_paper f fd) : FnOk P w K mg base CX0 5 f fd ["_law_bag_here", "_law_heap", "_law_spot_here"] spAnyPaper := by
  refine F.ok sc_any_paper (fun vs H Q E h => ?_) (fun cdv A outer s H vs Q E hr h => ?_)
  · obtain ⟨b, l, d, ps, x, y, L, rfl, _⟩ := h
    rfl
  obtain ⟨b, l, d, ps, x, y, L, rfl, hB, db, hH, hp, sm, q⟩ := h
  refine ⟨_, (pss_cons (ps_set (i := 3) sc_any_paper.nd rfl (Or.inl rfl) (pe_op op_cat (pe_callB (call_sortedD rfl) rfl B.sorted bt_sorted (pa_cons (pv 1) pa_nil)) (pe_lst (pa_cons pe_str pa_nil))))
    (pss_cons (ps_par (i := 4) (j := 5) (by rfl) sc_any_paper.nd rfl rfl (by decide) rfl rfl (pa_cons (pe_cal c_of hr (pa_cons (pv 0) (pa_cons (pv 3) pa_nil))) (pa_cons (pe_cal c_of hr (pa_cons (pv 0) (pa_cons (pv 3) pa_nil))) pa_nil)) (by rfl))
    (pss_cons (ps_setLc (i := 6) (own := [("_law_name", 7)]) (g := gName 7) (tt := _) rfl sc_any_paper.nd rfl rfl (sw_true rfl rfl rfl (by decide +kernel)) (pi_list (pe_callB (call_sortedD rfl) rfl B.sorted bt_sorted (pa_cons (pv 1) pa_nil))) (blkOk_by (own := [("_law_name", 7)]) (N := ["_law_bag_here", "_law_heap", "_law_spot_here", "_law_names_here", "_law_one", "_law_other", "_law_through", "_law_name", "_law_fork", "_law_some", "_law_at", "_law_cause"]) (sc := defScope s_any_paper) (by decide +kernel)) (fun _ _ _ _ _ => pg_name (i := 7) sc_any_paper.nd rfl (Or.inl rfl)) (fun _ _ _ _ _ => (pts_one (pt_val (pe_cal c_goes hr (pa_cons (pe_dget (hu_of hr) (pv 1) (pv 7) (fun _ _ => rfl)) (pa_cons (pv 2) pa_nil)))))) (fun _ _ _ _ _ => (pv 7)))
    (pss_cons (ps_set (i := 8) sc_any_paper.nd rfl (Or.inr rfl) (pe_cal c_pull hr (pa_cons (pv 0) (pa_cons pe_int pa_nil))))
    (pss_cons (ps_if (pt_cmpR op_eq (pv 8) pe_int (nomark _))
    (pss_one (ps_ret (pe_tup (pa_cons pe_str (pa_cons (pv 4) (pa_cons (pe_cal c_pull hr (pa_cons (pv 0) (pa_cons pe_int pa_nil))) pa_nil))))))
    pss_nil)
    (pss_cons (ps_if (pt_cmpR op_eq (pv 8) pe_int (nomark _))
    (pss_one (ps_ret (pe_tup (pa_cons pe_str (pa_cons (pv 4) (pa_cons (pv 5) pa_nil))))))
    pss_nil)
    (pss_cons (ps_if (pt_cmpR op_eq (pv 8) pe_int (nomark _))
    (pss_one (ps_ret (pe_tup (pa_cons pe_str (pa_cons (pe_callTy call_tuple_of rfl B.tuple bt_tuple (pa_cons (pe_op op_cat (pe_slice sl_list (pv 6) (po_some (pe_cal c_pull hr (pa_cons (pv 0) (pa_cons pe_int pa_nil)))) po_none) (pe_slice sl_list (pv 3) po_none (po_some (pe_cal c_pull hr (pa_cons (pv 0) (pa_cons pe_int pa_nil)))))) pa_nil)) pa_nil)))))
    pss_nil)
    (pss_cons (ps_if (pt_cmpR op_eq (pv 8) pe_int (nomark _))
    (pss_one (ps_ret (pe_tup (pa_cons pe_str (pa_cons (pe_callTy call_tuple_of rfl B.tuple bt_tuple (pa_cons (pe_stepL (pv 6) (pe_op op_sub pe_int (pe_op op_mul pe_int (pe_cal c_pull hr (pa_cons (pv 0) (pa_cons pe_int pa_nil)))))) pa_nil)) pa_nil)))))
    pss_nil)
    (pss_cons (ps_setLc (i := 9) (own := [("_law_at", 10), ("_law_cause", 11)]) (g := gTup K 2 (gCons (gName 10) (gCons (gName 11) gNil))) (tt := _) rfl sc_any_paper.nd rfl rfl (sw_true rfl rfl rfl (by decide +kernel)) (pi_list (pe_cal c_causes hr (pa_cons (pv 1) pa_nil))) (blkOk_by (own := [("_law_at", 10), ("_law_cause", 11)]) (N := ["_law_bag_here", "_law_heap", "_law_spot_here", "_law_names_here", "_law_one", "_law_other", "_law_through", "_law_name", "_law_fork", "_law_some", "_law_at", "_law_cause"]) (sc := defScope s_any_paper) (by decide +kernel)) (fun _ _ _ _ _ => pg_tup rfl (pgs_cons (pg_name (i := 10) sc_any_paper.nd rfl (Or.inl rfl)) (pgs_cons (pg_name (i := 11) sc_any_paper.nd rfl (Or.inl rfl)) pgs_nil))) (fun _ _ _ _ _ => (pts_one (PW.pt (pw_or (pt_cmpR (r := rEqD K) (op_eqD hr.units) (pv 10) (pv 2) (nomark _)) (pw_or1 (pt_cmpR op_eq (pv 8) pe_int (nomark _))))))) (fun _ _ _ _ _ => (pv 11)))
    (pss_one (ps_ret (pe_cal c_of hr (pa_cons (pv 0) (pa_cons (pe_op op_cat (pv 9) (pe_lst (pa_cons (pe_tup (pa_cons pe_str (pa_cons (pe_callTy call_tuple_of rfl B.tuple bt_tuple (pa_cons (pv 6) pa_nil)) pa_nil))) pa_nil))) pa_nil)))))))))))))), ?_⟩
  obtain ⟨bs, hd, hb, hL⟩ := id hH.at'
  have few := hH.few
  have keys : (bs.map (·.1)).map (·.1) = (L.map (·.1)).map (fun n => (Sum.inr n : Key)) := by
    rw [← hL, List.map_map, List.map_map, List.map_map]
    exact List.map_congr_left fun b hb' => (hb b hb').1
  have nmL : ∀ n ∈ L.map (·.1), NmOk n := fun n hn => by
    obtain ⟨p, hp, rfl⟩ := List.mem_map.mp hn
    exact hH.nm p hp
  refine seq_with (fun σ' J => ∃ (pn : Addr) (NS : List Str), σ' = [some (.ref b), some (.ref d), some (.ref ps), some (.ref pn), none, none, none, none, none, none, none, none] ∧ Same H J ∧ pn ≠ b ∧ J pn = some (.lst (NS.map V.str)) ∧ (∀ n ∈ NS, NmOk n) ∧ 1 ≤ NS.length ∧ NS.length ≤ 33) (fun R hR => ?_) ?_
  · refine ⟨_, rfl, d, _, L.map (·.1), rfl, .inl hd, keys, (by rw [List.length_map]; omega), fun ys pn pm so npn => ?_⟩
    have g0 := same_new npn (.lst (ys.map V.str))
    have ly : ys.length = L.length := by rw [pm.length_eq, List.length_map]
    refine ⟨sz (by decide : 1 ≤ 100000), fun po npo => ?_⟩
    have g1 := same_new npo (.lst [.str "other"])
    refine ⟨pn, po, _, _, rfl, rfl, g1 _ _ upd_same, upd_same, ?_, fun pz npz => ?_⟩
    · rw [List.length_map]
      exact Nat.le_trans (by simp only [List.length_cons, List.length_nil]; omega : ys.length + [V.str "other"].length ≤ 100000) (sz (Nat.le_refl _))
    have g2 := same_new npz (.lst (ys.map V.str ++ [.str "other"]))
    refine hR _ _ ⟨pz, ys ++ [Str.ofString "other"], rfl, g0.trans (g1.trans g2), ((hB.same (g0.trans g1)).new npz).1, by rw [upd_same, List.map_append]; rfl, fun n hn => ?_, by rw [List.length_append]; simp, by rw [List.length_append, List.length_singleton]; omega⟩
    rcases List.mem_append.mp hn with z | z
    · exact nmL n (pm.mem_iff.mp z)
    · rw [List.mem_singleton.mp z]
      show PyData.canLay0 (.str "other") = true
      decide +kernel
  rintro _ H1 ⟨pn, NS, rfl, s1, pnb, hpn, okN, lN1, lN⟩
  have lNS : (NS.map V.str).length = NS.length := List.length_map ..
  have hB1 := hB.same s1
  have hH1 := hH.same s1
  refine seq_with (fun σ' J => ∃ (n1 n2 : Str), σ' = [some (.ref b), some (.ref d), some (.ref ps), some (.ref pn), some (.str n1), some (.str n2), none, none, none, none, none, none] ∧ BagAt J b l ∧ But b H1 J ∧ NmOk n1 ∧ NmOk n2) (fun R hR => ?_) ?_
  · refine ⟨_, rfl, _, rfl, b, _, pn, _, rfl, hB1, hpn, pnb, by rw [lNS]; omega, by rw [lNS]; omega, fun v1 J1 hBJ1 btJ1 hv1 => ?_⟩
    obtain ⟨n1, hn1, rfl⟩ := List.mem_map.mp hv1
    refine ⟨_, rfl, _, rfl, b, _, pn, _, rfl, hBJ1, btJ1 _ _ pnb hpn, pnb, by rw [lNS]; omega, by rw [lNS]; omega, fun v2 J2 hBJ2 btJ2 hv2 => ?_⟩
    obtain ⟨n2, hn2, rfl⟩ := List.mem_map.mp hv2
    exact ⟨_, _, rfl, hR _ _ ⟨n1, n2, rfl, hBJ2, btJ1.trans btJ2, okN n1 hn1, okN n2 hn2⟩⟩
  rintro _ H2 ⟨n1, n2, rfl, hB2, bt2, ok1, ok2⟩
  have hH2 : HeapAt H2 d L := hH1.keep (KeepT.but hB1 bt2) fun kvs z => bt2 _ _ db z
  have hp2 : H2 ps = some (.tup [.int x, .int y]) := KeepT.but hB1 bt2 _ _ (s1 _ _ hp)
  have hpn2 := bt2 _ _ pnb hpn
  have btH : But b H H2 := (But.of s1).trans bt2
  refine seq_with (fun σ' J => ∃ (pt : Addr) (TS : List Str) (c7 : Option V), σ' = [some (.ref b), some (.ref d), some (.ref ps), some (.ref pn), some (.str n1), some (.str n2), some (.ref pt), c7, none, none, none, none] ∧ Same H2 J ∧ pt ≠ b ∧ J pt = some (.lst (TS.map V.str)) ∧ (∀ n ∈ TS, NmOk n) ∧ TS.length ≤ 32) (fun R hR => ?_) ?_
  · obtain ⟨bs2, hd2, hb2, hL2⟩ := id hH2.at'
    have keys2 : (bs2.map (·.1)).map (·.1) = (L.map (·.1)).map (fun n => (Sum.inr n : Key)) := by
      rw [← hL2, List.map_map, List.map_map, List.map_map]
      exact List.map_congr_left fun b hb' => (hb2 b hb').1
    refine ⟨_, rfl, d, _, L.map (·.1), rfl, .inl hd2, keys2, (by rw [List.length_map]; omega), fun ys pk pm so npk => ?_⟩
    obtain ⟨M, pM, rfl⟩ := perm_map_from pm L rfl
    have lM : M.length = L.length := pM.length_eq
    have inM : ∀ p ∈ M, p ∈ L := fun p hp => pM.mem_iff.mp hp
    have g0 := same_new npk (.lst ((M.map (·.1)).map V.str))
    have hpk : upd H2 pk (.lst ((M.map (·.1)).map V.str)) pk = some (.lst ((M.map (·.1)).map V.str)) := upd_same
    generalize upd H2 pk (.lst ((M.map (·.1)).map V.str)) = H3 at *
    refine ⟨pk, rfl, ⟨_, SqL.of hpk⟩, fun D nD => ?_⟩
    have g1 := same_new nD (.lst [])
    have Db := ((hB2.same g0).new nD).1
    refine lc_any (.l (K := K) (a := pk) (xs := (M.map (·.1)).map V.str)) (fun i J => Same H3 J ∧ ∃ TS : List Str, J D = some (.lst (TS.map V.str)) ∧ (∀ n ∈ TS, NmOk n) ∧ TS.length ≤ i) ?_ ?_ ?_ ?_
    · exact ⟨g1, [], upd_same, (fun n hn => by cases hn), Nat.le_refl _⟩
    · rintro i J _ ⟨e, _⟩
      exact e _ _ hpk
    · rintro i v J hv ⟨e, TS, hD, okT, lT⟩
      obtain ⟨a, ha, rfl⟩ : ∃ a, M[i]? = some a ∧ v = V.str a.1 := by
        rw [List.getElem?_map, List.getElem?_map] at hv
        cases e : M[i]? with
        | none => rw [e] at hv; cases hv
        | some b => rw [e] at hv; exact ⟨b, rfl, (Option.some.inj hv).symm⟩
      have il : i < M.length := (List.getElem?_eq_some_iff.mp ha).1
      have inA := inM a (List.mem_of_getElem? ha)
      have e0 := g0.trans e
      obtain ⟨va, ga, pa, rfl, ka⟩ := (hH2.same e0).get inA
      refine ⟨rfl, _, rfl, _, rfl, d, .ref pa, rfl, ga, _, rfl, pa, ps, _, _, _, _, x, y, rfl, ka, e0 _ _ hp2, sm, fun J2 s2 => ?_⟩
      have hD2 := s2 _ _ hD
      refine ⟨_, rfl, ?_⟩
      cases goesL a.2.1.1 a.2.1.2 a.2.2.1 a.2.2.2 x y with
      | true =>
        refine iteT ⟨_, rfl, _, hD2, ?_, fun c o z => ?_, TS ++ [a.1], ?_, fun n hn => ?_, ?_⟩
        · rw [List.length_map]
          exact Nat.lt_of_lt_of_le (by omega : TS.length < 100000) (sz (Nat.le_refl _))
        · rw [upd_ne (ne_of_none z nD)]
          exact s2 _ _ (e _ _ z)
        · rw [upd_same, List.map_append]
          rfl
        · rcases List.mem_append.mp hn with z | z
          · exact okT n z
          · rw [List.mem_singleton.mp z]
            exact hH.nm a inA
        · rw [List.length_append, List.length_singleton]
          omega
      | false =>
        exact iteF ⟨e.trans s2, TS, hD2, okT, by omega⟩
    · rintro J ⟨e, TS, hD, okT, lT⟩
      have : ((M.map (·.1)).map V.str).length = M.length := by rw [List.length_map, List.length_map]
      exact hR _ _ ⟨D, TS, _, rfl, g0.trans e, Db, hD, okT, by omega⟩
  rintro _ H3 ⟨pt, TS, c7, rfl, s3, ptb, hpt, okT, lT⟩
  have hB3 := hB2.same s3
  have hpn3 := s3 _ _ hpn2
  have btA : But b H H3 := btH.trans (.of s3)
  refine ⟨_, rfl, b, _, _, rfl, hB3, by decide, by decide, fun r H4 hB4 bt4 r0 r1 => ?_⟩
  dsimp only [gName, tNext, List.set]
  have btB := btA.trans bt4
  have hpt4 := bt4 _ _ ptb hpt
  have hpn4 := bt4 _ _ pnb hpn3
  have hp4 : H4 ps = some (.tup [.int x, .int y]) := KeepT.but hB3 bt4 _ _ (s3 _ _ hp2)
  have hH4 : HeapAt H4 d L := (hH2.same s3).keep (KeepT.but hB3 bt4) fun kvs z => bt4 _ _ db z
  have cold : ∀ {J : Hp} {t : Addr} {ms : List Str}, BagAt J b l → But b H J → J t = some (.tup (ms.map V.str)) → (∀ n ∈ ms, NmOk n) → ∀ pp, J pp = none → Q (.ref pp) (upd J pp (.tup [.str "cold", .ref t])) := fun {J t ms} hBJ btJ ht okm pp npp => by
    have g := same_new npp (.tup [.str "cold", .ref t])
    exact q pp _ (.inr ms) (hBJ.same g) (btJ.trans (.of g)) ⟨pp, t, rfl, upd_same, g _ _ ht⟩ trivial okm
  by_cases c0 : r = 0
  · refine ⟨_, rfl, rfl, _, rfl, iteDT (congrArg V.int c0) ?_⟩
    refine ⟨_, rfl, _, rfl, b, _, _, rfl, hB4, by decide, by decide, fun k J hBJ btJ k0 k1 => ⟨sz (by decide : 3 ≤ 100000), fun pp npp => ?_⟩⟩
    have g := same_new npp (.tup [.str "end", .str n1, .int k])
    refine q pp _ (.inl ⟨x, y, "end", n1, .inl k⟩) (hBJ.same g) (btB.trans (btJ.trans (.of g))) ⟨pp, rfl, upd_same⟩ ⟨rfl, rfl, .inl ⟨rfl, k, rfl, by omega⟩⟩ (tail_fit (by show PyData.canLay0 (.str "end") = true; decide +kernel) ok1 rfl x y)
  refine ⟨_, rfl, rfl, _, rfl, iteDF (fun z => c0 (V.int.inj z)) ?_⟩
  by_cases c1 : r = 1
  · refine ⟨_, rfl, rfl, _, rfl, iteDT (congrArg V.int c1) ?_⟩
    refine ⟨_, rfl, _, rfl, sz (by decide : 3 ≤ 100000), fun pp npp => ?_⟩
    have g := same_new npp (.tup [.str "cross", .str n1, .str n2])
    refine q pp _ (.inl ⟨x, y, "cross", n1, .inr n2⟩) (hB4.same g) (btB.trans (.of g)) ⟨pp, rfl, upd_same⟩ ⟨rfl, rfl, .inr ⟨rfl, n2, rfl⟩⟩ (tail_fit (by show PyData.canLay0 (.str "cross") = true; decide +kernel) ok1 (t := .inr n2) ok2 x y)
  refine ⟨_, rfl, rfl, _, rfl, iteDF (fun z => c1 (V.int.inj z)) ?_⟩
  by_cases c2 : r = 2
  · refine ⟨_, rfl, rfl, _, rfl, iteDT (congrArg V.int c2) ?_⟩
    refine ⟨_, rfl, _, rfl, b, _, _, rfl, hB4, by decide, by decide, fun k1 J1 hBJ1 btJ1 k10 k11 => ?_⟩
    refine ⟨_, rfl, pt, _, rfl, SqL.of (btJ1 _ _ ptb hpt4), fun p5 np5 => ?_⟩
    obtain ⟨j1, rfl⟩ := Int.eq_ofNat_of_zero_le k10
    rw [cut_at, ← List.map_drop]
    have g5 := same_new np5 (.lst ((TS.drop j1).map V.str))
    have hB5 := hBJ1.same g5
    have p5b := (hBJ1.new np5).1
    refine ⟨_, rfl, _, rfl, b, _, _, rfl, hB5, by decide, by decide, fun k2 J2 hBJ2 btJ2 k20 k21 => ?_⟩
    refine ⟨_, rfl, pn, _, rfl, SqL.of (btJ2 _ _ pnb (g5 _ _ (btJ1 _ _ pnb hpn4))), fun p6 np6 => ?_⟩
    obtain ⟨j2, rfl⟩ := Int.eq_ofNat_of_zero_le k20
    rw [cut_to, ← List.map_take]
    have g6 := same_new np6 (.lst ((NS.take j2).map V.str))
    have hp5 := g6 _ _ (btJ2 _ _ p5b upd_same)
    refine ⟨p5, p6, _, _, rfl, rfl, hp5, upd_same, ?_, fun p7 np7 => ?_⟩
    · rw [List.length_map, List.length_map, List.length_drop, List.length_take]
      exact Nat.le_trans (by omega : _ ≤ 100000) (sz (Nat.le_refl _))
    have g7 := same_new np7 (.lst ((TS.drop j1).map V.str ++ (NS.take j2).map V.str))
    refine ⟨p7, _, rfl, .inl ⟨SqL.of upd_same, fun p8 np8 => ⟨sz (by decide : 2 ≤ 100000), fun pp npp => ?_⟩⟩⟩
    have g8 := same_new np8 (.tup ((TS.drop j1).map V.str ++ (NS.take j2).map V.str))
    have g68 := g6.trans (g7.trans g8)
    refine cold (ms := TS.drop j1 ++ NS.take j2) (hBJ2.same g68) (btB.trans (btJ1.trans ((But.of g5).trans (btJ2.trans (.of g68))))) (by rw [upd_same, List.map_append]) (fun n hn => ?_) pp npp
    rcases List.mem_append.mp hn with z | z
    · exact okT n (List.mem_of_mem_drop z)
    · exact okN n (List.mem_of_mem_take z)
  refine ⟨_, rfl, rfl, _, rfl, iteDF (fun z => c2 (V.int.inj z)) ?_⟩
  by_cases c3 : r = 3
  · refine ⟨_, rfl, rfl, _, rfl, iteDT (congrArg V.int c3) ?_⟩
    refine ⟨_, rfl, _, rfl, b, _, _, rfl, hB4, by decide, by decide, fun k1 J1 hBJ1 btJ1 k10 k11 => ?_⟩
    refine ⟨_, _, rfl, rfl, .inl ⟨by decide, by decide⟩, _, _, rfl, rfl, pt, _, _, rfl, rfl, by omega, SqL.of (btJ1 _ _ ptb hpt4), fun p5 np5 => ?_⟩
    obtain ⟨ms, ems, okm⟩ : ∃ ms : List Str, (if 1 - 2 * k1 = 1 then TS.map V.str else (TS.map V.str).reverse) = ms.map V.str ∧ ∀ n ∈ ms, NmOk n := by
      by_cases z : 1 - 2 * k1 = 1
      · exact ⟨TS, by rw [if_pos z], okT⟩
      · exact ⟨TS.reverse, by rw [if_neg z, List.map_reverse], fun n hn => okT n (List.mem_reverse.mp hn)⟩
    rw [ems]
    have g5 := same_new np5 (.lst (ms.map V.str))
    refine ⟨p5, _, rfl, .inl ⟨SqL.of upd_same, fun p8 np8 => ⟨sz (by decide : 2 ≤ 100000), fun pp npp => ?_⟩⟩⟩
    have g8 := same_new np8 (.tup (ms.map V.str))
    exact cold (hBJ1.same (g5.trans g8)) (btB.trans (btJ1.trans (.of (g5.trans g8)))) upd_same okm pp npp
  refine ⟨_, rfl, rfl, _, rfl, iteDF (fun z => c3 (V.int.inj z)) ?_⟩
  dsimp only [tNext]
  refine seq_with (fun σ' J => ∃ (pz : Addr) (zs : List Cause) (c10 c11 : Option V), σ' = [some (.ref b), some (.ref d), some (.ref ps), some (.ref pn), some (.str n1), some (.str n2), some (.ref pt), c7, some (.int r), some (.ref pz), c10, c11] ∧ Same H4 J ∧ pz ≠ b ∧ LstOf CzE J pz zs ∧ zs.length ≤ 560) (fun R hR => ?_) ?_
  · refine ⟨_, rfl, d, L, rfl, hH4, fun l1 H5 cs s5 n5 all z5 => ?_⟩
    have lcs := all.len2 few
    obtain ⟨ds, h1, h2, h3⟩ := z5
    have ld : ds.length = cs.length := by rw [← h3, List.length_map]
    refine ⟨l1, rfl, ⟨_, SqL.of h1⟩, fun D nD => ?_⟩
    have Db := ((hB4.same s5).new nD).1
    have g0 := same_new nD (.lst [])
    refine lc_any (.l (K := K) (a := l1) (xs := ds.map (·.1))) (fun i J => Same H5 J ∧ ∃ zs : List Cause, LstOf CzE J D zs ∧ zs.length ≤ i) ?_ ?_ ?_ ?_
    · exact ⟨g0, [], ⟨[], upd_same, (fun c hc => by cases hc), rfl⟩, Nat.le_refl _⟩
    · rintro i J _ ⟨e, _⟩
      exact e _ _ h1
    · rintro i v J hv ⟨e, zs, cz, lz⟩
      obtain ⟨t, ht, rfl⟩ : ∃ t, ds[i]? = some t ∧ t.1 = v := by
        rw [List.getElem?_map] at hv
        cases eb : ds[i]? with
        | none => rw [eb] at hv; cases hv
        | some b => rw [eb] at hv; exact ⟨b, rfl, Option.some.inj hv⟩
      have il : i < ds.length := (List.getElem?_eq_some_iff.mp ht).1
      have hc : t.2 ∈ cs := by rw [← h3]; exact List.mem_map.mpr ⟨t, List.mem_of_getElem? ht, rfl⟩
      have kb := (h2 t (List.mem_of_getElem? ht)).keep (.of e)
      obtain ⟨v, c⟩ := t
      dsimp only at kb hc ⊢
      obtain ⟨a, p, tv, rfl, k1, k2, k3⟩ := kb
      refine ⟨a, _, rfl, SqT.of k1, rfl, _, _, rfl, _, _, rfl, rfl, rfl, ?_⟩
      have put : ∃ acc, J D = some (.lst acc) ∧ acc.length < sizeLine ∧ (Same H5 (upd J D (.lst (acc ++ [tv]))) ∧ ∃ zs : List Cause, LstOf CzE (upd J D (.lst (acc ++ [tv]))) D zs ∧ zs.length ≤ i + 1) := by
        obtain ⟨ms, m1, m2, m3⟩ := cz
        have lm : ms.length = zs.length := by rw [← m3, List.length_map]
        have kl := KeepT.lst (o := .lst (ms.map (·.1) ++ [tv])) m1
        refine ⟨_, m1, by rw [List.length_map]; exact Nat.lt_of_lt_of_le (by omega : ms.length < 100000) (sz (Nat.le_refl _)), fun c o z => ?_, zs ++ [c], ⟨ms ++ [(tv, c)], ?_, fun c' hc' => ?_, ?_⟩, ?_⟩
        · rw [upd_ne (ne_of_none z nD)]
          exact e _ _ z
        · rw [upd_same, List.map_append]
          rfl
        · rcases List.mem_append.mp hc' with z | z
          · exact CzE.keep' _ _ _ _ (m2 c' z) kl
          · rw [List.mem_singleton.mp z]
            exact ⟨k3.keep kl, all.pap hc, all.fit hH.nm c hc⟩
        · rw [List.map_append, m3]
          rfl
        · rw [List.length_append, List.length_singleton]
          omega
      refine ⟨_, rfl, _, rfl, _, _, dp_pair k2, dp_pair (e _ _ (s5 _ _ hp4)), shaped_pair _ _, shaped_pair _ _, _, rfl, ?_⟩
      rw [eqv_pair]
      by_cases c1 : c.x = x ∧ c.y = y
      · exact iteDT c1 (iteT ⟨_, rfl, put⟩)
      · refine iteDF c1 ⟨_, rfl, rfl, _, rfl, ?_⟩
        by_cases c5 : r = 5
        · exact iteDT (congrArg V.int c5) ⟨_, rfl, put⟩
        · exact iteDF (fun z => c5 (V.int.inj z)) ⟨e, zs, cz, by omega⟩
    · rintro J ⟨e, zs, cz, lz⟩
      rw [List.length_map] at lz
      exact hR _ _ ⟨D, zs, _, _, rfl, s5.trans e, Db, cz, by omega⟩
  rintro _ H5 ⟨pz, zs, c10, c11, rfl, s5, pzb, cz, lz⟩
  have hB5 := hB4.same s5
  refine ⟨_, rfl, _, rfl, _, rfl, pt, _, rfl, .inl ⟨SqL.of (s5 _ _ hpt4), fun p6 np6 => ⟨sz (by decide : 2 ≤ 100000), fun p7 np7 => ⟨sz (by decide : 1 ≤ 100000), fun p8 np8 => ?_⟩⟩⟩⟩
  have g6 := same_new np6 (.tup (TS.map V.str))
  have g7 := same_new np7 (.tup [.str "cold", .ref p6])
  have g8 := same_new np8 (.lst [.ref p7])
  have g68 := g6.trans (g7.trans g8)
  obtain ⟨ms, m1, m2, m3⟩ := cz.keep CzE.keep' (.of g68) fun xs z => g68 _ _ z
  have lm : ms.length = zs.length := by rw [← m3, List.length_map]
  refine ⟨pz, p8, _, _, rfl, rfl, m1, upd_same, ?_, fun p9 np9 => ?_⟩
  · rw [List.length_map]
    exact Nat.le_trans (by simp only [List.length_cons, List.length_nil]; omega : ms.length + [V.ref p7].length ≤ 100000) (sz (Nat.le_refl _))
  have g9 := same_new np9 (.lst (ms.map (·.1) ++ [.ref p7]))
  have hB8 := hB5.same g68
  refine ⟨b, _, p9, _, rfl, hB8.same g9, upd_same, (hB8.new np9).1, by rw [List.length_append]; simp, by rw [List.length_append, List.length_map]; simp only [List.length_cons, List.length_nil]; omega, fun v J hBJ btJ hv => ?_⟩
  have ktJ := (KeepT.of g9).trans (KeepT.but (hB8.same g9) btJ)
  have btZ := btB.trans ((But.of (s5.trans (g68.trans g9))).trans btJ)
  rcases List.mem_append.mp hv with z | z
  · obtain ⟨m, hm, rfl⟩ := List.mem_map.mp z
    obtain ⟨⟨a, ea, ha⟩, pc, fc⟩ := m2 m hm
    rw [ea]
    exact q a J (.inl ⟨x, y, m.2.wd, m.2.nm, m.2.th⟩) hBJ btZ ⟨a, rfl, ktJ _ _ ha⟩ ⟨rfl, rfl, pc⟩ fc
  · rw [List.mem_singleton.mp z]
    exact q p7 J (.inr TS) hBJ btZ ⟨p7, p6, rfl, ktJ _ _ (g8 _ _ upd_same), ktJ _ _ ((g7.trans g8) _ _ upd_same)⟩ trivial okT
end
end DM

namespace DM
open PySem L2
/-! ### papers for a bent row -/
abbrev Pap := Cause ⊕ List Str
def atPap (x y : Int) : Pap → Pap
  | .inl c => .inl ⟨x, y, c.wd, c.nm, c.th⟩
  | .inr ns => .inr ns
def PapG : Pap → Prop
  | .inl c => PapC c ∧ c.fit
  | .inr ns => ∀ n ∈ ns, NmOk n
theorem PapV.at' {H : Hp} {v : V} {p : Pap} (h : PapV H v p) (x y : Int) : PapV H v (atPap x y p) := by
  cases p <;> exact h
theorem PapG.at' {p : Pap} (h : PapG p) (x y : Int) : PapAt x y (atPap x y p) ∧ PapFit (atPap x y p) := by
  cases p with
  | inl c => exact ⟨⟨rfl, rfl, h.1⟩, h.2⟩
  | inr ns => exact ⟨trivial, h⟩
/-- an entry: a square and its paper -/
abbrev Ent := (Int × Int) × Pap
def EnV (H : Hp) (v : V) (e : Ent) : Prop := ∃ a p t : Addr, v = .ref a ∧ H a = some (.tup [.ref p, .ref t]) ∧ H p = some (.tup [.int e.1.1, .int e.1.2]) ∧ PapV H (.ref t) e.2 ∧ SmP e.1.1 e.1.2 ∧ PapG e.2
theorem EnV.keep' (H H' : Hp) (v : V) (e : Ent) (h : EnV H v e) (k : KeepT H H') : EnV H' v e := by
  obtain ⟨a, p, t, rfl, h1, h2, h3, h4⟩ := h
  exact ⟨a, p, t, rfl, k _ _ h1, k _ _ h2, h3.same k, h4⟩
def lastP (M : List (Str × S4)) (cs : List Cause) (q : Int × Int) : Pap :=
  match (cs.filter (atSpot q.1 q.2)).getLast? with
  | none => .inr (thruN M q.1 q.2)
  | some c => .inl c
def spNamed : Sp := fun vs H Q _ => ∃ (d : Addr) (p : Str × S4) (L : List (Str × S4)), vs = [.ref d, .str p.1] ∧ HeapAt H d L ∧ p ∈ L ∧ Q .non H
def spBendP : Sp := fun vs H Q _ => ∃ (d : Addr) (p : Str × S4) (L : List (Str × S4)), vs = [.ref d, .str p.1] ∧ HeapAt H d L ∧ p ∈ L ∧ ∀ (r : Addr) (H' : Hp) (cs : List Cause) (M : List (Str × S4)) (Lq : List (Int × Int)), Same H H' → H r = none → AllCz L cs → SrtOf L M → Row p.2.1.1 p.2.1.2 p.2.2.1 p.2.2.2 Lq → LstOf EnV H' r (Lq.map fun q => (q, lastP M cs q)) → Q (.ref r) H'
/-- where entries go wrong -/
def GoodE (M : List (Str × S4)) (cs : List Cause) (Lq : List (Int × Int)) (es : List Ent) (i : Nat) : Prop := ∃ e : Ent, es[i]? = some e ∧ Lq[i]? = some e.1 ∧ PapR M cs e.1.1 e.1.2 (atPap e.1.1 e.1.2 e.2)
def DueIs (M : List (Str × S4)) (cs : List Cause) (Lq : List (Int × Int)) (es : List Ent) (v : V) : Prop :=
  (∃ i : Nat, i < es.length ∧ ¬ GoodE M cs Lq es i ∧ (∀ j, j < i → GoodE M cs Lq es j) ∧ v = .int (i : Nat)) ∨ ((∀ i, i < es.length → GoodE M cs Lq es i) ∧ v = if es.length < Lq.length then .int (es.length : Nat) else .non)
theorem DueIs.one {M : List (Str × S4)} {cs : List Cause} {Lq : List (Int × Int)} {es : List Ent} {v u : V} (h : DueIs M cs Lq es v) (h' : DueIs M cs Lq es u) : v = u := by
  rcases h with ⟨i, hi, bi, gi, rfl⟩ | ⟨g, rfl⟩ <;> rcases h' with ⟨j, hj, bj, gj, rfl⟩ | ⟨g', rfl⟩
  · rcases Nat.lt_trichotomy i j with z | z | z
    · exact absurd (gj i z) bi
    · rw [z]
    · exact absurd (gi j z) bj
  · exact absurd (g' i hi) bi
  · exact absurd (g j hj) bj
  · rfl
def spJudgeB : Sp := fun vs H Q _ => ∃ (d r : Addr) (p : Str × S4) (L : List (Str × S4)) (bs : List (V × Ent)) (o : HO), vs = [.ref d, .str p.1, .ref r] ∧ HeapAt H d L ∧ p ∈ L ∧ SeqO (bs.map (·.1)) o ∧ H r = some o ∧ (∀ b ∈ bs, EnV H b.1 b.2) ∧ bs.length ≤ 1000 ∧ ∀ (v : V) (H' : Hp), Same H H' → (∀ cs M Lq, AllCz L cs → SrtOf L M → Row p.2.1.1 p.2.1.2 p.2.2.1 p.2.2.2 Lq → DueIs M cs Lq (bs.map (·.2)) v) → Q v H'
def hotE (e : Ent) : Bool := match e.2 with | .inl _ => true | .inr _ => false
def spShown : Sp := fun vs H Q _ => ∃ (r : Addr) (es : List Ent), vs = [.ref r] ∧ LstOf EnV H r es ∧ es.length ≤ 1000 ∧ ∀ (r' : Addr) (H' : Hp) (xs : List V), Same H H' → H' r' = some (.lst xs) → Prs H' xs ((es.filter hotE).map (·.1)) → Q (.ref r') H'
theorem Prs.keepT {H H' : Hp} {vs : List V} {L : List (Int × Int)} (h : Prs H vs L) (e : KeepT H H') : Prs H' vs L := by
  induction h with
  | nil => exact .nil
  | cons a _ ih =>
    obtain ⟨b, rfl, hb⟩ := a
    exact .cons ⟨b, rfl, e _ _ hb⟩ ih
def KnownAt (J : Hp) (kvs : List (List Key × V)) (cs : List Cause) : Prop := ∀ q : Int × Int, match (cs.filter (atSpot q.1 q.2)).getLast? with
  | none => valV kvs (keyP q) = none
  | some c => ∃ t : Addr, valV kvs (keyP q) = some (.ref t) ∧ CzT J (.ref t) c
theorem KnownAt.keep {J J' : Hp} {kvs : List (List Key × V)} {cs : List Cause} (h : KnownAt J kvs cs) (e : KeepT J J') : KnownAt J' kvs cs := fun q => by
  have z := h q
  split at z
  · exact z
  · obtain ⟨t, h1, h2⟩ := z
    exact ⟨t, h1, h2.keep e⟩
theorem KnownAt.put {J : Hp} {kvs : List (List Key × V)} {cs : List Cause} {c : Cause} {t : Addr} (h : KnownAt J kvs cs) (ht : CzT J (.ref t) c) : KnownAt J (putK kvs (keyP (c.x, c.y)) (.ref t)) (cs ++ [c]) := fun q => by
  rw [List.filter_append, valV_put]
  by_cases e : c.x = q.1 ∧ c.y = q.2
  · have f : [c].filter (atSpot q.1 q.2) = [c] := by simp [atSpot, e]
    have eq : q = (c.x, c.y) := Prod.ext e.1.symm e.2.symm
    rw [f, List.getLast?_concat, if_pos (by rw [eq])]
    exact ⟨t, rfl, ht⟩
  · have f : [c].filter (atSpot q.1 q.2) = [] := by simp [atSpot, e]
    rw [f, List.append_nil, if_neg (fun z => e (by have := keyP_inj.mp z; rw [this]; exact ⟨rfl, rfl⟩))]
    exact h q
section
variable {P : Program} {w : World} {K : PySem.W.Frag} {mg : Str → Option Value} {base : Heap} {f : Addr} {fd : FuncData}
abbrev s_need_named : Stmt := top 23
theorem sc_need_named : FnScope ["heap", "name"] ["heap", "name"] (defScope s_need_named) := ⟨rfl, rfl, rfl, by decide +kernel, rfl, by decide +kernel, by decide +kernel⟩
theorem ok_need_named (B : Blt mg) (F : Fun K "need_named" "need_named" s_need_named f fd) : FnOk P w K mg base CX0 1 f fd ["heap", "name"] spNamed := by
  refine F.ok sc_need_named (fun vs H Q E h => ?_) (fun cdv A outer s H vs Q E hr h => ?_)
  · obtain ⟨d, p, L, rfl, _⟩ := h
    rfl
  obtain ⟨d, p, L, rfl, hH, hp, q⟩ := h
  refine ⟨_, (pss_one (ps_if (pt_cmp (pc_dnotin (hu_of hr) (pv 1) (pv 0)))
    (pss_one ps_never)
    pss_nil)), ?_⟩
  obtain ⟨v, g, pa, rfl, k⟩ := hH.get hp
  refine ⟨_, rfl, _, rfl, d, _, rfl, g, _, rfl, iteF ?_⟩
  exact q
abbrev s_bend_paper : Stmt := top 34
theorem sc_bend_paper : FnScope ["heap", "name", "known", "spot", "cause"] ["heap", "name"] (defScope s_bend_paper) := ⟨rfl, rfl, rfl, by decide +kernel, rfl, by decide +kernel, by decide +kernel⟩
theorem ok_bend_paper (B : Blt mg) (c_need_named : Cal P w K mg base 1 "need_named" ["heap", "name"] spNamed) (c_p_causes : Cal P w K mg base 7 "causes" ["heap"] spCauses) (c_through : Cal P w K mg base 4 "through" ["heap", "spot"] spThru) (c_p_squares : Cal P w K mg base 5 "squares" ["stroke"] spSquares) (F : Fun K "bend_paper" "bend_paper" s_bend_paper f fd) : FnOk P w K mg base CX0 8 f fd ["heap", "name"] spBendP := by
  refine F.ok sc_bend_paper (fun vs H Q E h => ?_) (fun cdv A outer s H vs Q E hr h => ?_)
  · obtain ⟨d, p, L, rfl, _⟩ := h
    rfl
  obtain ⟨d, p, L, rfl, hH, hp, q⟩ := h
  refine ⟨_, (pss_cons (ps_expr (pe_cal c_need_named hr (pa_cons (pv 0) (pa_cons (pv 1) pa_nil))))
    (pss_cons (ps_set (i := 2) sc_bend_paper.nd rfl (Or.inr rfl) (pe_dcT (own := [("spot", 3), ("cause", 4)]) (g := gTup K 2 (gCons (gName 3) (gCons (gName 4) gNil))) (tt := tYes) rfl (hu_of hr) sc_bend_paper.nd (pi_list (pe_cal c_p_causes hr (pa_cons (pv 0) pa_nil))) (blkOk_by (own := [("spot", 3), ("cause", 4)]) (N := ["heap", "name", "known", "spot", "cause"]) (sc := defScope s_bend_paper) (by decide +kernel)) (fun _ _ _ _ _ => pg_tup rfl (pgs_cons (pg_name (i := 3) sc_bend_paper.nd rfl (Or.inl rfl)) (pgs_cons (pg_name (i := 4) sc_bend_paper.nd rfl (Or.inl rfl)) pgs_nil))) (fun _ _ _ _ _ => pts_nil) (fun _ _ _ _ _ => (pv 3)) (fun _ _ _ _ _ => (pv 4))))
    (pss_one (ps_ret (pe_lc (own := [("spot", 3)]) (g := gName 3) (tt := tYes) rfl sc_bend_paper.nd (pi_list (pe_cal c_p_squares hr (pa_cons (pe_dget (hu_of hr) (pv 0) (pv 1) (fun _ _ => rfl)) pa_nil))) (blkOk_by (own := [("spot", 3)]) (N := ["heap", "name", "known", "spot", "cause"]) (sc := defScope s_bend_paper) (by decide +kernel)) (fun _ _ _ _ _ => pg_name (i := 3) sc_bend_paper.nd rfl (Or.inl rfl)) (fun _ _ _ _ _ => pts_nil) (fun _ _ _ _ _ => (pe_tup (pa_cons (pv 3) (pa_cons (pe_ifExp (pt_cmp (pc_din (hu_of hr) (pv 3) (pv 2))) (pe_dget (hu_of hr) (pv 2) (pv 3) (fun _ _ => rfl)) (pe_tup (pa_cons pe_str (pa_cons (pe_cal c_through hr (pa_cons (pv 0) (pa_cons (pv 3) pa_nil))) pa_nil)))) pa_nil))))))))), ?_⟩
  refine ⟨_, rfl, _, rfl, d, p, L, rfl, hH, hp, ?_⟩
  dsimp only
  refine seq_with (fun σ' J => ∃ (Dk : Addr) (kvs : List (List Key × V)) (cs : List Cause) (c3 c4 : Option V), σ' = [some (.ref d), some (.str p.1), some (.ref Dk), c3, c4] ∧ Same H J ∧ J Dk = some (.dT kvs) ∧ AllCz L cs ∧ KnownAt J kvs cs) (fun R hR => ?_) ?_
  · refine ⟨_, rfl, d, L, rfl, hH, fun l1 H1 cs s1 n1 all z1 => ?_⟩
    have few := hH.few
    have lcs := all.len2 few
    obtain ⟨bs, a1, b1, e1⟩ := z1
    have lb : (bs.map (·.1)).length = cs.length := by rw [← e1, List.length_map, List.length_map]
    refine ⟨l1, rfl, ⟨_, SqL.of a1⟩, fun D nD => ?_⟩
    have g0 := same_new nD (.dT [])
    refine any_walk (.l (K := K) (a := l1) (xs := bs.map (·.1))) (fun i J => Same H1 J ∧ ∃ kvs : List (List Key × V), J D = some (.dT kvs) ∧ kvs.length ≤ i ∧ KnownAt J kvs (cs.take i)) ?_ ?_ ?_ ?_
    · exact ⟨g0, [], upd_same, Nat.le_refl _, fun q => rfl⟩
    · rintro i J _ ⟨e, _⟩
      exact e _ _ a1
    · rintro i v J hx ⟨e, kvs, hD, lk, kn⟩
      obtain ⟨b, hb, rfl⟩ : ∃ b, bs[i]? = some b ∧ b.1 = v := by
        rw [List.getElem?_map] at hx
        cases eb : bs[i]? with
        | none => rw [eb] at hx; cases hx
        | some b => rw [eb] at hx; exact ⟨b, rfl, Option.some.inj hx⟩
      have hc : cs[i]? = some b.2 := by rw [← e1, List.getElem?_map, hb]; rfl
      have il : i < cs.length := (List.getElem?_eq_some_iff.mp hc).1
      have kb := (b1 b (List.mem_of_getElem? hb)).keep (.of e)
      obtain ⟨v, c⟩ := b
      dsimp only at kb hc ⊢
      obtain ⟨a, pp, tv, rfl, k1, k2, k3⟩ := kb
      obtain ⟨t, rfl, ht⟩ := k3
      refine ⟨a, _, rfl, SqT.of k1, rfl, _, _, rfl, _, _, rfl, rfl, rfl, lc_yes ?_⟩
      have hkey : J pp = some (.tup ((keyP (c.x, c.y)).map kV)) := k2
      refine ⟨_, rfl, _, rfl, kvs, keyP (c.x, c.y), pp, rfl, hkey, hD, Nat.lt_of_lt_of_le (by omega : kvs.length < 100000) (sz (Nat.le_refl _)), fun x o z => ?_, _, upd_same, ?_, ?_⟩
      · rw [upd_ne (ne_of_none z nD)]
        exact e _ _ z
      · have := length_putK kvs (keyP (c.x, c.y)) (V.ref t)
        omega
      · rw [take_snoc hc]
        exact KnownAt.keep (kn.put ⟨t, rfl, ht⟩) (.put fun xs z => by rw [hD] at z; cases z)
    · rintro J ⟨e, kvs, hD, lk, kn⟩
      rw [lb, List.take_length] at kn
      exact hR _ _ ⟨D, kvs, cs, _, _, rfl, s1.trans e, hD, all, kn⟩
  rintro _ H2 ⟨Dk, kvs, cs, c3, c4, rfl, s2, hDk, all, kn⟩
  obtain ⟨M, so⟩ : ∃ M, SrtOf L M := by
    obtain ⟨M, pM, so, _⟩ := all.all
    exact ⟨M, pM, so⟩
  have hH2 := hH.same s2
  obtain ⟨va, ga, pa, rfl, ka⟩ := hH2.get hp
  have okp := hH.ok p hp
  refine ⟨_, rfl, _, rfl, d, .ref pa, rfl, ga, pa, _, _, _, _, rfl, ka, fun rq H3 xs Lq s3 n3 hq pq row => ?_⟩
  refine ⟨rq, rfl, ⟨_, SqL.of hq⟩, fun D2 nD2 => ?_⟩
  have g3 := same_new nD2 (.lst [])
  have lq : Lq.length ≤ 161 := row_len (S := fun _ => True) ⟨fun q => by rw [row.1]; exact ⟨fun z => ⟨trivial, z⟩, fun z => z.2⟩, row.2⟩ (by have := okp.1; omega)
  refine lc_any (.l (K := K) (a := rq) (xs := xs)) (fun i J => Same H3 J ∧ LstOf EnV J D2 ((Lq.take i).map fun q => (q, lastP M cs q))) ?_ ?_ ?_ ?_
  · exact ⟨g3, [], upd_same, (fun b hb => by cases hb), rfl⟩
  · rintro i J _ ⟨e, _⟩
    exact e _ _ hq
  · rintro i v J hv ⟨e, cz⟩
    obtain ⟨qq, hqq, sp, rfl, hsp⟩ := pq.at hv
    have il : i < Lq.length := (List.getElem?_eq_some_iff.mp hqq).1
    have e23 := s3.trans e
    have hDkJ := e23 _ _ hDk
    have hspJ := e _ _ hsp
    have smq : SmP qq.1 qq.2 := by
      have t := thr_betw ((row.1 qq).mp (List.mem_of_getElem? hqq))
      have := okp.1
      unfold SmP
      omega
    have fin : ∀ {J2 : Hp} {t : Addr}, Same J J2 → PapV J2 (.ref t) (lastP M cs qq) → PapG (lastP M cs qq) → ∀ ee, J2 ee = none → ∃ acc, upd J2 ee (.tup [.ref sp, .ref t]) D2 = some (.lst acc) ∧ acc.length < sizeLine ∧ (Same H3 (upd (upd J2 ee (.tup [.ref sp, .ref t])) D2 (.lst (acc ++ [.ref ee]))) ∧ LstOf EnV (upd (upd J2 ee (.tup [.ref sp, .ref t])) D2 (.lst (acc ++ [.ref ee]))) D2 ((Lq.take (i + 1)).map fun q => (q, lastP M cs q))) := fun {J2 t} s5 pv5 pg5 ee nee => by
      have g5 := s5.trans (same_new nee (.tup [.ref sp, .ref t]))
      obtain ⟨ms, m1, m2, m3⟩ := cz.keep EnV.keep' (.of g5) fun xs z => g5 _ _ z
      have lm : ms.length = i := by
        have := congrArg List.length m3
        rw [List.length_map, List.length_map, List.length_take] at this
        omega
      have kl := KeepT.lst (o := .lst (ms.map (·.1) ++ [.ref ee])) m1
      refine ⟨_, m1, by rw [List.length_map]; exact Nat.lt_of_lt_of_le (by omega : ms.length < 100000) (sz (Nat.le_refl _)), fun x o z => ?_, ms ++ [(.ref ee, (qq, lastP M cs qq))], ?_, fun b hb => ?_, ?_⟩
      · rw [upd_ne (ne_of_none z nD2)]
        exact g5 _ _ (e _ _ z)
      · rw [upd_same, List.map_append]
        rfl
      · rcases List.mem_append.mp hb with z | z
        · exact EnV.keep' _ _ _ _ (m2 b z) kl
        · rw [List.mem_singleton.mp z]
          exact ⟨ee, sp, t, rfl, kl _ _ upd_same, kl _ _ (g5 _ _ hspJ), (pv5.same (.of (same_new nee _))).same kl, smq, pg5⟩
      · rw [List.map_append, m3, take_snoc hqq, List.map_append]
        rfl
    have k := kn qq
    have dget : DGet J Dk (.ref sp) (valV kvs (keyP qq)) := .inr ⟨kvs, keyP qq, sp, .inl hDkJ, rfl, hspJ, rfl⟩
    refine ⟨rfl, lc_yes ?_⟩
    refine ⟨_, rfl, _, rfl, _, rfl, Dk, _, rfl, dget, _, rfl, ?_⟩
    cases el : (cs.filter (atSpot qq.1 qq.2)).getLast? with
    | none =>
      rw [el] at k
      have k' : valV kvs (keyP qq) = none := k
      rw [k']
      refine iteF ⟨_, rfl, _, rfl, d, sp, qq.1, qq.2, L, rfl, hH2.same e23, hspJ, smq, fun t J4 M' s4 nt so' ht => ⟨sz (by decide : 2 ≤ 100000), fun p5 n5 => ⟨sz (by decide : 2 ≤ 100000), fun ee nee => ?_⟩⟩⟩
      obtain rfl := srt_one hH.nd so so'
      have g5 := same_new n5 (.tup [.str "cold", .ref t])
      have el' : lastP M cs qq = .inr (thruN M qq.1 qq.2) := by unfold lastP; rw [el]
      refine fin (s4.trans g5) ?_ ?_ ee nee
      · rw [el']
        exact ⟨p5, t, rfl, upd_same, g5 _ _ ht⟩
      · rw [el']
        exact thru_ok hH.nm so
    | some c =>
      rw [el] at k
      obtain ⟨t, kt, ct⟩ := k
      have hc : c ∈ cs := (List.mem_filter.mp (List.mem_of_getLast? el)).1
      rw [kt]
      refine iteT ⟨_, rfl, _, rfl, Dk, .ref t, rfl, ?_, sz (by decide : 2 ≤ 100000), fun ee nee => ?_⟩
      · rw [← kt]
        exact dget
      have el' : lastP M cs qq = .inl c := by unfold lastP; rw [el]
      refine fin (fun _ _ z => z) ?_ ?_ ee nee
      · rw [el']
        exact ct.keep (.of e23)
      · rw [el']
        exact ⟨all.pap hc, all.fit hH.nm c hc⟩
  · rintro J ⟨e, cz⟩
    rw [pq.len, List.take_length] at cz
    exact q D2 J cs M Lq (s2.trans (s3.trans e)) ((s2.trans s3).free nD2) all so row cz
abbrev s_judge_bend : Stmt := top 35
theorem sc_judge_bend : FnScope ["heap", "name", "rows", "due", "at", "spot", "paper"] ["heap", "name", "rows"] (defScope s_judge_bend) := ⟨rfl, rfl, rfl, by decide +kernel, rfl, by decide +kernel, by decide +kernel⟩
theorem ok_judge_bend (B : Blt mg) (c_need_named : Cal P w K mg base 1 "need_named" ["heap", "name"] spNamed) (c_judge_heat : Cal P w K mg base 8 "judge_heat" ["heap", "spot", "paper"] spJudge) (c_p_squares : Cal P w K mg base 5 "squares" ["stroke"] spSquares) (F : Fun K "judge_bend" "judge_bend" s_judge_bend f fd) : FnOk P w K mg base CX0 9 f fd ["heap", "name", "rows"] spJudgeB := by
  refine F.ok sc_judge_bend (fun vs H Q E h => ?_) (fun cdv A outer s H vs Q E hr h => ?_)
  · obtain ⟨d, r, p, L, bs, o, rfl, _⟩ := h
    rfl
  obtain ⟨d, r, p, L, bs, o, rfl, hH, hp, sq, hr0, hb, few, q⟩ := h
  obtain ⟨va, ga, pa, rfl, ka⟩ := hH.get hp
  have okp := hH.ok p hp
  rcases sq with rfl | rfl
  · skip
    refine ⟨_, (pss_cons (ps_expr (pe_cal c_need_named hr (pa_cons (pv 0) (pa_cons (pv 1) pa_nil))))
    (pss_cons (ps_set (i := 3) sc_judge_bend.nd rfl (Or.inl rfl) (pe_cal c_p_squares hr (pa_cons (pe_dget (hu_of hr) (pv 0) (pv 1) (fun _ _ => rfl)) pa_nil)))
    (pss_cons (ps_for PassesOwn.never rfl (pi_enum rfl B.enumerate (pa_cons (pv 2) pa_nil)) (pg_tup rfl (pgs_cons (pg_name (i := 4) sc_judge_bend.nd rfl (Or.inl rfl)) (pgs_cons (pg_tup rfl (pgs_cons (pg_name (i := 5) sc_judge_bend.nd rfl (Or.inl rfl)) (pgs_cons (pg_name (i := 6) sc_judge_bend.nd rfl (Or.inl rfl)) pgs_nil))) pgs_nil)))
    (pss_one (ps_if (PW.pt (pw_or (pt_cmpR op_ge (pv 4) (pe_callB call_len_seq rfl B.len bt_len (pa_cons (pv 3) pa_nil)) (nomark _)) (pw_or (pt_cmpR (op_neD hr.units) (pv 5) (pe_ix ix_list (pv 3) (pv 4) (fun _ _ => rfl)) (nomark _)) (pw_or1 (pt_not (pt_val (pe_cal c_judge_heat hr (pa_cons (pv 0) (pa_cons (pv 5) (pa_cons (pv 6) pa_nil))))))))))
    (pss_one (ps_ret (pv 4)))
    pss_nil)))
    (pss_one (ps_ret (pe_ifExp (pt_cmpR op_lt (pe_callB call_len_seq rfl B.len bt_len (pa_cons (pv 2) pa_nil)) (pe_callB call_len_seq rfl B.len bt_len (pa_cons (pv 3) pa_nil)) (nomark _)) (pe_callB call_len_seq rfl B.len bt_len (pa_cons (pv 2) pa_nil)) pe_non)))))), ?_⟩
    refine ⟨_, rfl, _, rfl, d, p, L, rfl, hH, hp, ?_⟩
    dsimp only
    refine ⟨_, rfl, _, rfl, d, .ref pa, rfl, ga, pa, _, _, _, _, rfl, ka, fun rq H3 xs Lq s3 n3 hq pq row => ?_⟩
    dsimp only [gName, tNext, List.set]
    have lq : Lq.length ≤ 161 := row_len (S := fun _ => True) ⟨fun q => by rw [row.1]; exact ⟨fun z => ⟨trivial, z⟩, fun z => z.2⟩, row.2⟩ (by have := okp.1; omega)
    have lx := pq.len
    have hr3 := s3 _ _ hr0
    refine seq_with (fun σ' J => (∃ c4 c5 c6, σ' = [some (.ref d), some (.str p.1), some (.ref r), some (.ref rq), c4, c5, c6]) ∧ Same H3 J ∧ ∀ cs M, AllCz L cs → SrtOf L M → ∀ j, j < bs.length → GoodE M cs Lq (bs.map (·.2)) j) (fun R hR => ?_) ?_
    · refine ⟨_, rfl, r, _, rfl, SqL.of hr3, ?_⟩
      refine for_it (walk_enum (xs := bs.map (·.1))) (fun i σ J => (∃ c4 c5 c6, σ = [some (.ref d), some (.str p.1), some (.ref r), some (.ref rq), c4, c5, c6]) ∧ Same H3 J ∧ ∀ cs M, AllCz L cs → SrtOf L M → ∀ j, j < i → GoodE M cs Lq (bs.map (·.2)) j) ?_ ?_ ?_ ?_
      · exact ⟨⟨_, _, _, rfl⟩, fun _ _ z => z, fun cs M _ _ j hj => absurd hj (Nat.not_lt_zero j)⟩
      · rintro i σ J _ ⟨_, e, _⟩
        exact SqL.of (e _ _ hr3)
      · rintro i v σ J J1 hi ⟨⟨c4, c5, c6, rfl⟩, e, good⟩ ⟨T, kx, vx, rfl, nT, rfl, ek, ev⟩
        rw [List.length_map] at hi
        obtain ⟨b, hbi⟩ : ∃ b, bs[i]? = some b := ⟨_, List.getElem?_eq_getElem hi⟩
        have ev' : b.1 = vx := by
          have ev2 : (bs.map (·.1))[i]? = some vx := ev
          rw [List.getElem?_map, hbi] at ev2
          exact Option.some.inj ev2
        have hes : (bs.map (·.2))[i]? = some b.2 := by rw [List.getElem?_map, hbi]; rfl
        subst ev'
        obtain rfl : V.int (i : Nat) = kx := Option.some.inj ek
        have gT := same_new nT (.tup [V.int (i : Nat), b.1])
        have e1 := e.trans gT
        have eH := s3.trans e1
        have kb := EnV.keep' _ _ _ _ (hb b (List.mem_of_getElem? hbi)) (.of eH)
        obtain ⟨bv, en⟩ := b
        dsimp only at kb hes gT e1 eH ⊢
        obtain ⟨ae, sp, t, rfl, k1, k2, k3, k4, k5⟩ := kb
        refine ⟨T, _, rfl, SqT.of upd_same, rfl, _, _, rfl, _, _, rfl, ae, _, rfl, SqT.of k1, rfl, _, _, rfl, _, _, rfl, rfl, rfl, ?_⟩
        dsimp only [gName, tNext, List.set]
        generalize upd J T (.tup [V.int (i : Nat), .ref ae]) = J1 at *
        have bad : ∀ {J2 : Hp}, Same H J2 → (∀ cs M, AllCz L cs → SrtOf L M → ¬ GoodE M cs Lq (bs.map (·.2)) i) → Q (.int (i : Nat)) J2 := fun {J2} s5 ng => q _ _ s5 fun cs M Lq' all so row' => by
          obtain rfl := Row.one row row'
          exact .inl ⟨i, by rw [List.length_map]; exact hi, ng cs M all so, good cs M all so, rfl⟩
        refine ⟨_, rfl, _, rfl, rq, _, rfl, .inl (SqL.of (e1 _ _ hq)), _, _, rfl, rfl, _, rfl, ?_⟩
        by_cases c1 : (xs.length : Int) ≤ (i : Int)
        · refine iteDT c1 (iteT ⟨_, rfl, bad eH fun cs M _ _ g => ?_⟩)
          obtain ⟨e', _, h', _⟩ := g
          have := (List.getElem?_eq_some_iff.mp h').1
          omega
        · refine iteDF c1 ?_
          obtain ⟨qq, hqq⟩ : ∃ qq, Lq[i]? = some qq := ⟨_, List.getElem?_eq_getElem (by omega)⟩
          obtain ⟨xq, hxq⟩ : ∃ xq, xs[i]? = some xq := ⟨_, List.getElem?_eq_getElem (by omega)⟩
          obtain ⟨qq', hqq', s2, rfl, hs2⟩ := pq.at hxq
          rw [hqq] at hqq'
          cases hqq'
          refine ⟨_, rfl, _, rfl, _, rfl, rq, _, _, _, rfl, rfl, SqL.of (e1 _ _ hq), at_of (j := i) rfl hxq, _, _, dp_pair k2, dp_pair (e1 _ _ hs2), shaped_pair _ _, shaped_pair _ _, _, rfl, ?_⟩
          rw [eqv_pair]
          by_cases c2 : en.1.1 = qq.1 ∧ en.1.2 = qq.2
          · rw [decide_eq_true c2]
            refine iteF ?_
            obtain ⟨pat, fit⟩ := k5.at' en.1.1 en.1.2
            refine ⟨_, rfl, _, rfl, _, rfl, d, sp, t, en.1.1, en.1.2, L, atPap en.1.1 en.1.2 en.2, rfl, hH.same eH, k2, k4, k3.at' _ _, pat, fit, fun rr J4 s4 hr4 => ⟨_, rfl, ?_⟩⟩
            cases rr with
            | true =>
              refine iteF ⟨⟨_, _, _, rfl⟩, e1.trans s4, fun cs M all so j hj => ?_⟩
              rcases Nat.lt_or_eq_of_le (Nat.le_of_lt_succ hj) with z | z
              · exact good cs M all so j z
              · subst z
                exact ⟨en, hes, by rw [hqq]; exact congrArg some (Prod.ext c2.1.symm c2.2.symm), (hr4 cs M all so).mp rfl⟩
            | false =>
              refine iteT ⟨_, rfl, bad (eH.trans s4) fun cs M all so g => ?_⟩
              obtain ⟨e', h1', h2', h3'⟩ := g
              rw [hes] at h1'
              cases h1'
              have := (hr4 cs M all so).mpr h3'
              cases this
          · rw [decide_eq_false c2]
            refine iteT (iteT ⟨_, rfl, bad eH fun cs M _ _ g => ?_⟩)
            obtain ⟨e', h1', h2', _⟩ := g
            rw [hes] at h1'
            cases h1'
            rw [hqq] at h2'
            have := Option.some.inj h2'
            exact c2 ⟨by rw [this], by rw [this]⟩
      · rintro σ J ⟨⟨c4, c5, c6, rfl⟩, e, good⟩
        rw [List.length_map] at good
        exact hR _ _ ⟨⟨_, _, _, rfl⟩, e, good⟩
    rintro _ J ⟨⟨c4, c5, c6, rfl⟩, e, good⟩
    have eH := s3.trans e
    refine ⟨_, rfl, r, _, rfl, .inl (SqL.of (e _ _ hr3)), _, rfl, rq, _, rfl, .inl (SqL.of (e _ _ hq)), _, _, rfl, rfl, _, rfl, ?_⟩
    have lbs : (bs.map (·.1)).length = bs.length := List.length_map ..
    by_cases c : ((bs.map (·.1)).length : Int) < (xs.length : Int)
    · refine iteDT c ⟨_, rfl, r, _, rfl, .inl (SqL.of (e _ _ hr3)), ?_⟩
      refine q _ _ eH fun cs M Lq' all so row' => ?_
      obtain rfl := Row.one row row'
      refine .inr ⟨fun i hi => good cs M all so i (by rw [List.length_map] at hi; exact hi), ?_⟩
      rw [if_pos (by rw [List.length_map]; omega), lbs, List.length_map]
    · refine iteDF c ?_
      refine q _ _ eH fun cs M Lq' all so row' => ?_
      obtain rfl := Row.one row row'
      refine .inr ⟨fun i hi => good cs M all so i (by rw [List.length_map] at hi; exact hi), ?_⟩
      rw [if_neg (by rw [List.length_map]; omega)]
  · skip
    refine ⟨_, (pss_cons (ps_expr (pe_cal c_need_named hr (pa_cons (pv 0) (pa_cons (pv 1) pa_nil))))
    (pss_cons (ps_set (i := 3) sc_judge_bend.nd rfl (Or.inl rfl) (pe_cal c_p_squares hr (pa_cons (pe_dget (hu_of hr) (pv 0) (pv 1) (fun _ _ => rfl)) pa_nil)))
    (pss_cons (ps_for PassesOwn.never rfl (pi_enumT rfl B.enumerate (pa_cons (pv 2) pa_nil)) (pg_tup rfl (pgs_cons (pg_name (i := 4) sc_judge_bend.nd rfl (Or.inl rfl)) (pgs_cons (pg_tup rfl (pgs_cons (pg_name (i := 5) sc_judge_bend.nd rfl (Or.inl rfl)) (pgs_cons (pg_name (i := 6) sc_judge_bend.nd rfl (Or.inl rfl)) pgs_nil))) pgs_nil)))
    (pss_one (ps_if (PW.pt (pw_or (pt_cmpR op_ge (pv 4) (pe_callB call_len_seq rfl B.len bt_len (pa_cons (pv 3) pa_nil)) (nomark _)) (pw_or (pt_cmpR (op_neD hr.units) (pv 5) (pe_ix ix_list (pv 3) (pv 4) (fun _ _ => rfl)) (nomark _)) (pw_or1 (pt_not (pt_val (pe_cal c_judge_heat hr (pa_cons (pv 0) (pa_cons (pv 5) (pa_cons (pv 6) pa_nil))))))))))
    (pss_one (ps_ret (pv 4)))
    pss_nil)))
    (pss_one (ps_ret (pe_ifExp (pt_cmpR op_lt (pe_callB call_len_seq rfl B.len bt_len (pa_cons (pv 2) pa_nil)) (pe_callB call_len_seq rfl B.len bt_len (pa_cons (pv 3) pa_nil)) (nomark _)) (pe_callB call_len_seq rfl B.len bt_len (pa_cons (pv 2) pa_nil)) pe_non)))))), ?_⟩
    refine ⟨_, rfl, _, rfl, d, p, L, rfl, hH, hp, ?_⟩
    dsimp only
    refine ⟨_, rfl, _, rfl, d, .ref pa, rfl, ga, pa, _, _, _, _, rfl, ka, fun rq H3 xs Lq s3 n3 hq pq row => ?_⟩
    dsimp only [gName, tNext, List.set]
    have lq : Lq.length ≤ 161 := row_len (S := fun _ => True) ⟨fun q => by rw [row.1]; exact ⟨fun z => ⟨trivial, z⟩, fun z => z.2⟩, row.2⟩ (by have := okp.1; omega)
    have lx := pq.len
    have hr3 := s3 _ _ hr0
    refine seq_with (fun σ' J => (∃ c4 c5 c6, σ' = [some (.ref d), some (.str p.1), some (.ref r), some (.ref rq), c4, c5, c6]) ∧ Same H3 J ∧ ∀ cs M, AllCz L cs → SrtOf L M → ∀ j, j < bs.length → GoodE M cs Lq (bs.map (·.2)) j) (fun R hR => ?_) ?_
    · refine ⟨_, rfl, r, _, rfl, SqT.of hr3, ?_⟩
      refine for_it (walk_enumT (xs := bs.map (·.1))) (fun i σ J => (∃ c4 c5 c6, σ = [some (.ref d), some (.str p.1), some (.ref r), some (.ref rq), c4, c5, c6]) ∧ Same H3 J ∧ ∀ cs M, AllCz L cs → SrtOf L M → ∀ j, j < i → GoodE M cs Lq (bs.map (·.2)) j) ?_ ?_ ?_ ?_
      · exact ⟨⟨_, _, _, rfl⟩, fun _ _ z => z, fun cs M _ _ j hj => absurd hj (Nat.not_lt_zero j)⟩
      · rintro i σ J _ ⟨_, e, _⟩
        exact SqT.of (e _ _ hr3)
      · rintro i v σ J J1 hi ⟨⟨c4, c5, c6, rfl⟩, e, good⟩ ⟨T, kx, vx, rfl, nT, rfl, ek, ev⟩
        rw [List.length_map] at hi
        obtain ⟨b, hbi⟩ : ∃ b, bs[i]? = some b := ⟨_, List.getElem?_eq_getElem hi⟩
        have ev' : b.1 = vx := by
          have ev2 : (bs.map (·.1))[i]? = some vx := ev
          rw [List.getElem?_map, hbi] at ev2
          exact Option.some.inj ev2
        have hes : (bs.map (·.2))[i]? = some b.2 := by rw [List.getElem?_map, hbi]; rfl
        subst ev'
        obtain rfl : V.int (i : Nat) = kx := Option.some.inj ek
        have gT := same_new nT (.tup [V.int (i : Nat), b.1])
        have e1 := e.trans gT
        have eH := s3.trans e1
        have kb := EnV.keep' _ _ _ _ (hb b (List.mem_of_getElem? hbi)) (.of eH)
        obtain ⟨bv, en⟩ := b
        dsimp only at kb hes gT e1 eH ⊢
        obtain ⟨ae, sp, t, rfl, k1, k2, k3, k4, k5⟩ := kb
        refine ⟨T, _, rfl, SqT.of upd_same, rfl, _, _, rfl, _, _, rfl, ae, _, rfl, SqT.of k1, rfl, _, _, rfl, _, _, rfl, rfl, rfl, ?_⟩
        dsimp only [gName, tNext, List.set]
        generalize upd J T (.tup [V.int (i : Nat), .ref ae]) = J1 at *
        have bad : ∀ {J2 : Hp}, Same H J2 → (∀ cs M, AllCz L cs → SrtOf L M → ¬ GoodE M cs Lq (bs.map (·.2)) i) → Q (.int (i : Nat)) J2 := fun {J2} s5 ng => q _ _ s5 fun cs M Lq' all so row' => by
          obtain rfl := Row.one row row'
          exact .inl ⟨i, by rw [List.length_map]; exact hi, ng cs M all so, good cs M all so, rfl⟩
        refine ⟨_, rfl, _, rfl, rq, _, rfl, .inl (SqL.of (e1 _ _ hq)), _, _, rfl, rfl, _, rfl, ?_⟩
        by_cases c1 : (xs.length : Int) ≤ (i : Int)
        · refine iteDT c1 (iteT ⟨_, rfl, bad eH fun cs M _ _ g => ?_⟩)
          obtain ⟨e', _, h', _⟩ := g
          have := (List.getElem?_eq_some_iff.mp h').1
          omega
        · refine iteDF c1 ?_
          obtain ⟨qq, hqq⟩ : ∃ qq, Lq[i]? = some qq := ⟨_, List.getElem?_eq_getElem (by omega)⟩
          obtain ⟨xq, hxq⟩ : ∃ xq, xs[i]? = some xq := ⟨_, List.getElem?_eq_getElem (by omega)⟩
          obtain ⟨qq', hqq', s2, rfl, hs2⟩ := pq.at hxq
          rw [hqq] at hqq'
          cases hqq'
          refine ⟨_, rfl, _, rfl, _, rfl, rq, _, _, _, rfl, rfl, SqL.of (e1 _ _ hq), at_of (j := i) rfl hxq, _, _, dp_pair k2, dp_pair (e1 _ _ hs2), shaped_pair _ _, shaped_pair _ _, _, rfl, ?_⟩
          rw [eqv_pair]
          by_cases c2 : en.1.1 = qq.1 ∧ en.1.2 = qq.2
          · rw [decide_eq_true c2]
            refine iteF ?_
            obtain ⟨pat, fit⟩ := k5.at' en.1.1 en.1.2
            refine ⟨_, rfl, _, rfl, _, rfl, d, sp, t, en.1.1, en.1.2, L, atPap en.1.1 en.1.2 en.2, rfl, hH.same eH, k2, k4, k3.at' _ _, pat, fit, fun rr J4 s4 hr4 => ⟨_, rfl, ?_⟩⟩
            cases rr with
            | true =>
              refine iteF ⟨⟨_, _, _, rfl⟩, e1.trans s4, fun cs M all so j hj => ?_⟩
              rcases Nat.lt_or_eq_of_le (Nat.le_of_lt_succ hj) with z | z
              · exact good cs M all so j z
              · subst z
                exact ⟨en, hes, by rw [hqq]; exact congrArg some (Prod.ext c2.1.symm c2.2.symm), (hr4 cs M all so).mp rfl⟩
            | false =>
              refine iteT ⟨_, rfl, bad (eH.trans s4) fun cs M all so g => ?_⟩
              obtain ⟨e', h1', h2', h3'⟩ := g
              rw [hes] at h1'
              cases h1'
              have := (hr4 cs M all so).mpr h3'
              cases this
          · rw [decide_eq_false c2]
            refine iteT (iteT ⟨_, rfl, bad eH fun cs M _ _ g => ?_⟩)
            obtain ⟨e', h1', h2', _⟩ := g
            rw [hes] at h1'
            cases h1'
            rw [hqq] at h2'
            have := Option.some.inj h2'
            exact c2 ⟨by rw [this], by rw [this]⟩
      · rintro σ J ⟨⟨c4, c5, c6, rfl⟩, e, good⟩
        rw [List.length_map] at good
        exact hR _ _ ⟨⟨_, _, _, rfl⟩, e, good⟩
    rintro _ J ⟨⟨c4, c5, c6, rfl⟩, e, good⟩
    have eH := s3.trans e
    refine ⟨_, rfl, r, _, rfl, .inr (SqT.of (e _ _ hr3)), _, rfl, rq, _, rfl, .inl (SqL.of (e _ _ hq)), _, _, rfl, rfl, _, rfl, ?_⟩
    have lbs : (bs.map (·.1)).length = bs.length := List.length_map ..
    by_cases c : ((bs.map (·.1)).length : Int) < (xs.length : Int)
    · refine iteDT c ⟨_, rfl, r, _, rfl, .inr (SqT.of (e _ _ hr3)), ?_⟩
      refine q _ _ eH fun cs M Lq' all so row' => ?_
      obtain rfl := Row.one row row'
      refine .inr ⟨fun i hi => good cs M all so i (by rw [List.length_map] at hi; exact hi), ?_⟩
      rw [if_pos (by rw [List.length_map]; omega), lbs, List.length_map]
    · refine iteDF c ?_
      refine q _ _ eH fun cs M Lq' all so row' => ?_
      obtain rfl := Row.one row row'
      refine .inr ⟨fun i hi => good cs M all so i (by rw [List.length_map] at hi; exact hi), ?_⟩
      rw [if_neg (by rw [List.length_map]; omega)]
abbrev s_row_shown : Stmt := top 36
theorem sc_row_shown : FnScope ["rows", "spot", "paper"] ["rows"] (defScope s_row_shown) := ⟨rfl, rfl, rfl, by decide +kernel, rfl, by decide +kernel, by decide +kernel⟩
theorem ok_row_shown (B : Blt mg) (F : Fun K "row_shown" "row_shown" s_row_shown f fd) : FnOk P w K mg base CX0 1 f fd ["rows"] spShown := by
  refine F.ok sc_row_shown (fun vs H Q E h => ?_) (fun cdv A outer s H vs Q E hr h => ?_)
  · obtain ⟨r, es, rfl, _⟩ := h
    rfl
  obtain ⟨r, es, rfl, cz, few, q⟩ := h
  refine ⟨_, (pss_one (ps_ret (pe_lc (own := [("spot", 1), ("paper", 2)]) (g := gTup K 2 (gCons (gName 1) (gCons (gName 2) gNil))) (tt := _) rfl sc_row_shown.nd (pi_list (pv 0)) (blkOk_by (own := [("spot", 1), ("paper", 2)]) (N := ["rows", "spot", "paper"]) (sc := defScope s_row_shown) (by decide +kernel)) (fun _ _ _ _ _ => pg_tup rfl (pgs_cons (pg_name (i := 1) sc_row_shown.nd rfl (Or.inl rfl)) (pgs_cons (pg_name (i := 2) sc_row_shown.nd rfl (Or.inl rfl)) pgs_nil))) (fun _ _ _ _ _ => (pts_one (pt_cmpR op_ne (pe_ix (r := rIxT K) ix_tup (pv 2) pe_int (fun _ _ => rfl)) pe_str (nomark _)))) (fun _ _ _ _ _ => (pv 1))))), ?_⟩
  obtain ⟨bs, h1, h2, h3⟩ := cz
  have lb : bs.length = es.length := by rw [← h3, List.length_map]
  refine ⟨_, rfl, r, rfl, ⟨_, SqL.of h1⟩, fun D nD => ?_⟩
  have g0 := same_new nD (.lst [])
  refine lc_any (.l (K := K) (a := r) (xs := bs.map (·.1))) (fun i J => Same H J ∧ ∃ xs, J D = some (.lst xs) ∧ Prs J xs (((es.take i).filter hotE).map (·.1))) ?_ ?_ ?_ ?_
  · exact ⟨g0, [], upd_same, .nil⟩
  · rintro i J _ ⟨e, _⟩
    exact e _ _ h1
  · rintro i v J hv ⟨e, xs, hD, ps⟩
    obtain ⟨b, hb, rfl⟩ : ∃ b, bs[i]? = some b ∧ b.1 = v := by
      rw [List.getElem?_map] at hv
      cases eb : bs[i]? with
      | none => rw [eb] at hv; cases hv
      | some b => rw [eb] at hv; exact ⟨b, rfl, Option.some.inj hv⟩
    have hc : es[i]? = some b.2 := by rw [← h3, List.getElem?_map, hb]; rfl
    have il : i < es.length := (List.getElem?_eq_some_iff.mp hc).1
    have kb := EnV.keep' _ _ _ _ (h2 b (List.mem_of_getElem? hb)) (.of e)
    obtain ⟨v, en⟩ := b
    dsimp only at kb hc ⊢
    obtain ⟨a, p, t, rfl, k1, k2, k3, k4, k5⟩ := kb
    refine ⟨a, _, rfl, SqT.of k1, rfl, _, _, rfl, _, _, rfl, rfl, rfl, ?_⟩
    rw [take_snoc hc, List.filter_append]
    have lx : xs.length ≤ i := by
      rw [ps.len, List.length_map]
      have := List.length_filter_le hotE (es.take i)
      rw [List.length_take] at this
      omega
    obtain ⟨q0, pap⟩ := en
    dsimp only at k2 k3 k5
    cases pap with
    | inl c =>
      obtain ⟨a', ea, ha⟩ := k3
      cases ea
      have nc : ¬ V.str c.wd = V.str "cold" := fun z => by
        have z' := V.str.inj z
        rcases k5.1 with ⟨e, _⟩ | ⟨e, _⟩ <;> (rw [e] at z'; revert z'; decide)
      refine ⟨_, rfl, t, _, _, _, rfl, rfl, SqT.of ha, rfl, rfl, _, rfl, ?_⟩
      rw [decide_eq_false nc]
      have kl := KeepT.lst (o := .lst (xs ++ [.ref p])) hD
      refine iteT ⟨_, rfl, xs, hD, Nat.lt_of_lt_of_le (by omega : xs.length < 100000) (sz (Nat.le_refl _)), fun x o z => ?_, xs ++ [.ref p], upd_same, ?_⟩
      · rw [upd_ne (ne_of_none z nD)]
        exact e _ _ z
      · have f1 : [((q0, Sum.inl c) : Ent)].filter hotE = [(q0, Sum.inl c)] := rfl
        rw [f1, List.map_append]
        exact (ps.keepT kl).snoc ⟨p, rfl, kl _ _ k2⟩
    | inr ns =>
      obtain ⟨a', t', ea, ha, ht⟩ := k3
      cases ea
      refine ⟨_, rfl, t, _, _, _, rfl, rfl, SqT.of ha, rfl, rfl, _, rfl, ?_⟩
      rw [decide_eq_true (rfl : V.str "cold" = V.str "cold")]
      refine iteF ⟨e, xs, hD, ?_⟩
      have f1 : [((q0, Sum.inr ns) : Ent)].filter hotE = [] := rfl
      rw [f1, List.append_nil]
      exact ps
  · rintro J ⟨e, xs, hD, ps⟩
    rw [List.length_map, lb, List.take_length] at ps
    exact q D J xs e hD ps
end
end DM

namespace DM
open PySem L2
def Spts (S : List (Int × Int)) : Prop := S.Nodup ∧ S.length ≤ 1000 ∧ ∀ p ∈ S, -40 ≤ p.1 ∧ p.1 ≤ 40 ∧ -40 ≤ p.2 ∧ p.2 ≤ 40
end DM

namespace DM
open PySem L2
def spLBent : Sp := fun vs H Q _ => ∃ (p l : Addr) (x1 y1 x2 y2 : Int) (xs : List V) (S : List (Int × Int)), vs = [.ref p, .ref l] ∧ Stk H p x1 y1 x2 y2 ∧ H l = some (.lst xs) ∧ Prs H xs S ∧ Spts S ∧
  ∀ (r : Addr) (H' : Hp) (ys : List V) (L : List (Int × Int)), Same H H' → H r = none → H' r = some (.lst ys) → Prs H' ys L → RowOf x1 y1 x2 y2 (· ∈ S) L → Q (.ref r) H'
theorem perm_unmap {α β : Type} (g : α → β) {l : List β} {zs : List α} (h : l.Perm (zs.map g)) : ∃ ws : List α, ws.Perm zs ∧ ws.map g = l := by
  generalize hm : zs.map g = m at h
  induction h generalizing zs with
  | nil =>
    cases zs with
    | nil => exact ⟨[], List.Perm.refl _, rfl⟩
    | cons a t => cases hm
  | cons x _ ih =>
    cases zs with
    | nil => cases hm
    | cons z zs =>
      rw [List.map_cons] at hm
      obtain ⟨h1, h2⟩ := List.cons.inj hm
      obtain ⟨ws, p, e⟩ := ih h2
      exact ⟨z :: ws, p.cons z, by rw [List.map_cons, e, h1]⟩
  | swap x y l =>
    match zs, hm with
    | a :: b :: t, hm =>
      rw [List.map_cons, List.map_cons] at hm
      obtain ⟨h1, h2⟩ := List.cons.inj hm
      obtain ⟨h3, h4⟩ := List.cons.inj h2
      exact ⟨b :: a :: t, .swap .., by rw [List.map_cons, List.map_cons, h1, h3, h4]⟩
  | trans _ _ ih1 ih2 =>
    obtain ⟨ws, p, e⟩ := ih2 hm
    obtain ⟨vs, p', e'⟩ := ih1 e
    exact ⟨vs, p'.trans p, e'⟩
/-- spots that a stroke goes through, sorted by a number that rises along it, are its row -/
theorem row_of_rank {x1 y1 x2 y2 : Int} {S L : List (Int × Int)} {rk : Int × Int → Int} (rises : ∀ p q, ahead x1 y1 x2 y2 p q → rk p < rk q) (nd : S.Nodup) (pm : L.Perm (S.filter fun p => goesL x1 y1 x2 y2 p.1 p.2)) (pw : L.Pairwise fun p q => ¬ rk q < rk p) : RowOf x1 y1 x2 y2 (· ∈ S) L := by
  have mem : ∀ p, p ∈ L ↔ p ∈ S ∧ Thr x1 y1 x2 y2 p.1 p.2 := fun p => by
    rw [pm.mem_iff, List.mem_filter, goesL_iff]
  refine ⟨mem, ?_⟩
  have ndL : L.Nodup := pm.nodup_iff.mpr (nd.filter _)
  refine (pw.and ndL).imp_of_mem fun {p q} hp hq z => ?_
  rcases thr_chain ((mem p).mp hp).2 ((mem q).mp hq).2 with h | h | h
  · exact absurd h z.2
  · exact h
  · exact absurd (rises _ _ h) z.1
/-- pairs of how far along a spot lies, and the spot -/
def farL (x1 y1 x2 y2 : Int) (a : Int × Int) : Int := (a.1 - x1) * (x2 - x1) + (a.2 - y1) * (y2 - y1)
def FarV (H : Hp) (x1 y1 x2 y2 : Int) (v : V) (a : Int × Int) : Prop := ∃ t q : Addr, v = .ref t ∧ H t = some (.tup [.int (farL x1 y1 x2 y2 a), .ref q]) ∧ H q = some (.tup [.int a.1, .int a.2])
inductive Fars (H : Hp) (x1 y1 x2 y2 : Int) : List V → List (Int × Int) → Prop
  | nil : Fars H x1 y1 x2 y2 [] []
  | cons {v : V} {a : Int × Int} {vs : List V} {L : List (Int × Int)} : FarV H x1 y1 x2 y2 v a → Fars H x1 y1 x2 y2 vs L → Fars H x1 y1 x2 y2 (v :: vs) (a :: L)
section
variable {H H' : Hp} {x1 y1 x2 y2 : Int} {vs : List V} {L : List (Int × Int)}
theorem FarV.keep {v : V} {a : Int × Int} (h : FarV H x1 y1 x2 y2 v a) (e : ∀ b xs, H b = some (.tup xs) → H' b = some (.tup xs)) : FarV H' x1 y1 x2 y2 v a := by
  obtain ⟨t, q, rfl, h1, h2⟩ := h
  exact ⟨t, q, rfl, e _ _ h1, e _ _ h2⟩
theorem Fars.keep (h : Fars H x1 y1 x2 y2 vs L) (e : ∀ b xs, H b = some (.tup xs) → H' b = some (.tup xs)) : Fars H' x1 y1 x2 y2 vs L := by
  induction h with
  | nil => exact .nil
  | cons a _ ih => exact .cons (a.keep e) ih
theorem Fars.same (h : Fars H x1 y1 x2 y2 vs L) (e : Same H H') : Fars H' x1 y1 x2 y2 vs L := h.keep fun b _ z => e b _ z
theorem Fars.len (h : Fars H x1 y1 x2 y2 vs L) : vs.length = L.length := by
  induction h with
  | nil => rfl
  | cons _ _ ih => rw [List.length_cons, List.length_cons, ih]
theorem Fars.snoc {v : V} {a : Int × Int} (h : Fars H x1 y1 x2 y2 vs L) (hv : FarV H x1 y1 x2 y2 v a) : Fars H x1 y1 x2 y2 (vs ++ [v]) (L ++ [a]) := by
  induction h with
  | nil => exact .cons hv .nil
  | cons b _ ih => exact .cons b ih
/-- as items with their data -/
def farD (x1 y1 x2 y2 : Int) (a : Int × Int) : PyData := .tuple [.int (farL x1 y1 x2 y2 a), .tuple [.int a.1, .int a.2]]
theorem far_ahead {p q : Int × Int} (h : ahead x1 y1 x2 y2 p q) : farL x1 y1 x2 y2 p < farL x1 y1 x2 y2 q := by
  have a := ahead_along h
  unfold along at a
  unfold farL
  rw [Int.sub_mul, Int.sub_mul, Int.sub_mul, Int.sub_mul]
  omega
theorem far_less {p q : Int × Int} (h : farL x1 y1 x2 y2 p < farL x1 y1 x2 y2 q) : PySem.W.dataLt (farD x1 y1 x2 y2 p) (farD x1 y1 x2 y2 q) = true := by
  unfold farD
  rw [PySem.W.dataLt_tuple, PySem.W.dataLt_all_no (by simp [PySem.W.alike]) (by simp [PyData.eqv]; omega), PySem.W.dataLt_int]
  exact decide_eq_true h
theorem Fars.items (h : Fars H x1 y1 x2 y2 vs L) : vs = (vs.zip L).map (·.1) ∧ L = (vs.zip L).map (·.2) ∧ ∀ z ∈ vs.zip L, FarV H x1 y1 x2 y2 z.1 z.2 := by
  induction h with
  | nil => exact ⟨rfl, rfl, fun z hz => by cases hz⟩
  | cons a _ ih =>
    refine ⟨by rw [List.zip_cons_cons, List.map_cons, ← ih.1], by rw [List.zip_cons_cons, List.map_cons, ← ih.2.1], fun z hz => ?_⟩
    rw [List.zip_cons_cons] at hz
    rcases List.mem_cons.mp hz with rfl | hz
    · exact a
    · exact ih.2.2 z hz
theorem fars_of : ∀ {zs : List (V × (Int × Int))}, (∀ z ∈ zs, FarV H x1 y1 x2 y2 z.1 z.2) → Fars H x1 y1 x2 y2 (zs.map (·.1)) (zs.map (·.2))
  | [], _ => .nil
  | z :: zs, h => .cons (h z List.mem_cons_self) (fars_of fun u hu => h u (List.mem_cons_of_mem _ hu))
end
section
variable {P : Program} {w : World} {K : PySem.W.Frag} {mg : Str → Option Value} {base : Heap} {f : Addr} {fd : FuncData}
abbrev s_bent : Stmt := top 62
theorem sc_bent : FnScope ["_law_stroke_here", "_law_spots", "_law_found", "_law_spot_here", "_law_far"] ["_law_stroke_here", "_law_spots"] (defScope s_bent) := ⟨rfl, rfl, rfl, by decide +kernel, rfl, by decide +kernel, by decide +kernel⟩
theorem ok_bent (B : Blt mg) (c_goes : Cal P w K mg base 2 "_law_goes" ["_law_stroke_here", "_law_spot_here"] spGoes) (F : Fun K "_law_bent" "_law_bent" s_bent f fd) : FnOk P w K mg base CX0 3 f fd ["_law_stroke_here", "_law_spots"] spLBent := by
  refine F.ok sc_bent (fun vs H Q E h => ?_) (fun cdv A outer s H vs Q E hr h => ?_)
  · obtain ⟨p, l, x1, y1, x2, y2, xs, S, rfl, _⟩ := h
    rfl
  obtain ⟨p, l, x1, y1, x2, y2, xs, S, rfl, hst, hl, hP, hS, q⟩ := h
  refine ⟨_, (pss_cons (ps_set (i := 2) sc_bent.nd rfl (Or.inl rfl) (pe_lst pa_nil))
    (pss_cons (ps_for PassesOwn.never rfl (pi_list (pv 1)) (pg_name (i := 3) sc_bent.nd rfl (Or.inl rfl))
    (pss_one (ps_if (pt_val (pe_cal c_goes hr (pa_cons (pv 0) (pa_cons (pv 3) pa_nil))))
    (pss_cons (ps_set (i := 4) sc_bent.nd rfl (Or.inl rfl) (pe_op op_add (pe_op op_mul (pe_op op_sub (pe_ix ix_tup (pv 3) pe_int (fun _ _ => rfl)) (pe_ix ix_tup (pv 0) pe_int (fun _ _ => rfl))) (pe_op op_sub (pe_ix ix_tup (pv 0) pe_int (fun _ _ => rfl)) (pe_ix ix_tup (pv 0) pe_int (fun _ _ => rfl)))) (pe_op op_mul (pe_op op_sub (pe_ix ix_tup (pv 3) pe_int (fun _ _ => rfl)) (pe_ix ix_tup (pv 0) pe_int (fun _ _ => rfl))) (pe_op op_sub (pe_ix ix_tup (pv 0) pe_int (fun _ _ => rfl)) (pe_ix ix_tup (pv 0) pe_int (fun _ _ => rfl))))))
    (pss_one (ps_expr (pe_bm PySem.F.plainAttrs_list PySem.F.slot_list_append PySem.F.type_list_append mt_append (pv 2) (pa_cons (pe_tup (pa_cons (pv 4) (pa_cons (pv 3) pa_nil))) pa_nil)))))
    pss_nil)))
    (pss_one (ps_ret (pe_lc (own := [("_law_far", 4), ("_law_spot_here", 3)]) (g := gTup K 2 (gCons (gName 4) (gCons (gName 3) gNil))) (tt := tYes) rfl sc_bent.nd (pi_list (pe_callB (cr_sortD hr.units) rfl B.sorted bt_sorted (pa_cons (pv 2) pa_nil))) (blkOk_by (own := [("_law_far", 4), ("_law_spot_here", 3)]) (N := ["_law_stroke_here", "_law_spots", "_law_found", "_law_spot_here", "_law_far"]) (sc := defScope s_bent) (by decide +kernel)) (fun _ _ _ _ _ => pg_tup rfl (pgs_cons (pg_name (i := 4) sc_bent.nd rfl (Or.inl rfl)) (pgs_cons (pg_name (i := 3) sc_bent.nd rfl (Or.inl rfl)) pgs_nil))) (fun _ _ _ _ _ => pts_nil) (fun _ _ _ _ _ => (pv 3))))))), ?_⟩
  have bd := hst.2.1
  have lens := hP.len
  have s1000 := hS.2.1
  refine ⟨sz (by decide : 0 ≤ 100000), fun D nD => ?_⟩
  refine ⟨_, rfl, l, rfl, ⟨_, SqL.of (same_new nD (.lst []) _ _ hl)⟩, ?_⟩
  refine for_list (K := K) (a := l) (xs := xs) (fun i σ H' => (∃ c3 c4, σ = [some (.ref p), some (.ref l), some (.ref D), c3, c4]) ∧ Same H H' ∧ ∃ vs : List V, H' D = some (.lst vs) ∧ Fars H' x1 y1 x2 y2 vs ((S.take i).filter fun p => goesL x1 y1 x2 y2 p.1 p.2)) ?_ ?_ ?_ ?_
  · exact ⟨⟨_, _, rfl⟩, same_new nD _, [], upd_same, .nil⟩
  · rintro i σ H' _ ⟨_, e, _⟩
    exact SqL.of (e _ _ hl)
  · rintro i x σ H' hx ⟨⟨c3, c4, rfl⟩, e, vs, hd, hN⟩
    obtain ⟨a, ha, ap, rfl, hap⟩ := hP.at hx
    have ba := hS.2.2 a (List.mem_of_getElem? ha)
    have lv := hN.len
    have lf : ((S.take i).filter fun p => goesL x1 y1 x2 y2 p.1 p.2).length ≤ (S.take i).length := List.length_filter_le ..
    rw [List.length_take] at lf
    dsimp only [gName, tNext, List.set]
    refine ⟨_, rfl, _, rfl, p, ap, x1, y1, x2, y2, a.1, a.2, rfl, hst.same e, e _ _ hap, by omega, fun H3 s3 => ⟨_, rfl, ?_⟩⟩
    have e3 := e.trans s3
    cases g : goesL x1 y1 x2 y2 a.1 a.2 with
    | true =>
      refine iteT ?_
      have hp3 := e3 _ _ hst.1
      have hap3 := e3 _ _ hap
      refine seq_with (fun σ' J => H3 = J ∧ σ' = [some (.ref p), some (.ref l), some (.ref D), some (.ref ap), some (.int (farL x1 y1 x2 y2 a))]) (fun R hR => ?_) ?_
      · refine ⟨_, rfl, ap, _, _, _, rfl, rfl, SqT.of hap3, rfl, _, rfl, p, _, _, _, rfl, rfl, SqT.of hp3, rfl, _, _, rfl, rfl, _, rfl, p, _, _, _, rfl, rfl, SqT.of hp3, rfl, _, rfl, p, _, _, _, rfl, rfl, SqT.of hp3, rfl, _, _, rfl, rfl, _, _, rfl, rfl, .inl ⟨by omega, by omega⟩, ?_⟩
        refine ⟨_, rfl, ap, _, _, _, rfl, rfl, SqT.of hap3, rfl, _, rfl, p, _, _, _, rfl, rfl, SqT.of hp3, rfl, _, _, rfl, rfl, _, rfl, p, _, _, _, rfl, rfl, SqT.of hp3, rfl, _, rfl, p, _, _, _, rfl, rfl, SqT.of hp3, rfl, _, _, rfl, rfl, _, _, rfl, rfl, .inl ⟨by omega, by omega⟩, _, _, rfl, rfl, hR _ _ ⟨rfl, rfl⟩⟩
      rintro _ _ ⟨rfl, rfl⟩
      refine ⟨_, rfl, .inl ⟨rfl, _, SqL.of (s3 _ _ hd)⟩, _, rfl, _, rfl, sz (by decide : 2 ≤ 100000), fun tp ntp => ?_⟩
      have gt := same_new ntp (.tup [.int (farL x1 y1 x2 y2 a), .ref ap])
      have hd4 := gt _ _ (s3 _ _ hd)
      refine ⟨D, vs, _, rfl, rfl, hd4, Nat.lt_of_lt_of_le (by omega : vs.length < 100000) (sz (Nat.le_refl _)), ?_⟩
      have e4 := e3.trans gt
      refine ⟨⟨_, _, rfl⟩, fun b o z => ?_, _, upd_same, ?_⟩
      · rw [upd_ne (ne_of_none z nD)]
        exact e4 _ _ z
      · rw [take_snoc ha, List.filter_append, show List.filter (fun p => goesL x1 y1 x2 y2 p.1 p.2) [a] = [a] from List.filter_cons_of_pos g]
        exact (((hN.same s3).same gt).snoc ⟨tp, ap, rfl, upd_same, gt _ _ hap3⟩).keep fun b zs z => by rw [upd_ne (fun q => by rw [q, hd4] at z; cases z)]; exact z
    | false =>
      refine iteF ?_
      refine ⟨⟨_, _, rfl⟩, e3, vs, s3 _ _ hd, ?_⟩
      rw [take_snoc ha, List.filter_append, show List.filter (fun p => goesL x1 y1 x2 y2 p.1 p.2) [a] = [] from List.filter_cons_of_neg (by rw [g]; decide), List.append_nil]
      exact hN.same s3
  · rintro σ H' ⟨⟨c3, c4, rfl⟩, e, vs, hd, hN⟩
    rw [lens, List.take_length] at hN
    obtain ⟨z1, z2, z3⟩ := hN.items
    generalize vs.zip (S.filter fun p => goesL x1 y1 x2 y2 p.1 p.2) = zs at *
    refine ⟨_, rfl, D, zs.map fun z => (z.1, farD x1 y1 x2 y2 z.2), rfl, ?_, ?_, ?_, ?_, fun cs pr pm pw npr => ?_⟩
    · rw [List.map_map]
      rw [z1] at hd
      exact SqL.of hd
    · intro b hb
      obtain ⟨z, hz, rfl⟩ := List.mem_map.mp hb
      obtain ⟨tt, qq, e1, e2, e3⟩ := z3 z hz
      refine ⟨?_, by simp [farD, PyData.depth, PyData.depthAll]⟩
      show Dp K H' z.1 (farD x1 y1 x2 y2 z.2)
      rw [e1]
      exact .tup (SqT.of e2) (.cons (.int _) (.cons (dp_pair e3) .nil))
    · intro d hd' d' hd''
      rw [List.map_map] at hd' hd''
      obtain ⟨x, _, rfl⟩ := List.mem_map.mp hd'
      obtain ⟨x', _, rfl⟩ := List.mem_map.mp hd''
      simp [farD, PySem.W.alike, PySem.W.alikeAll]
    · left
      intro d hd'
      rw [List.map_map] at hd'
      obtain ⟨x, _, rfl⟩ := List.mem_map.mp hd'
      exact ⟨_, _, rfl⟩
    obtain ⟨ws, pmw, rfl⟩ := perm_unmap _ pm
    have gp := same_new npr (.lst ((ws.map fun z => (z.1, farD x1 y1 x2 y2 z.2)).map (·.1)))
    have fw : ∀ z ∈ ws, FarV H' x1 y1 x2 y2 z.1 z.2 := fun z hz => z3 z (pmw.mem_iff.mp hz)
    have row : RowOf x1 y1 x2 y2 (· ∈ S) (ws.map (·.2)) := by
      refine row_of_rank (rk := farL x1 y1 x2 y2) (fun p q h => far_ahead h) hS.1 (by rw [z2]; exact pmw.map _) ?_
      rw [List.pairwise_map]
      rw [List.pairwise_map] at pw
      refine pw.imp fun {u v} z c => ?_
      have z' : PySem.W.dataLt (farD x1 y1 x2 y2 v.2) (farD x1 y1 x2 y2 u.2) = false := z
      rw [far_less c] at z'
      cases z'
    have lw : ws.length ≤ 1000 := by
      rw [pmw.length_eq]
      have : zs.length = ((S.filter fun p => goesL x1 y1 x2 y2 p.1 p.2)).length := by rw [z2, List.length_map]
      rw [this]
      exact Nat.le_trans (List.length_filter_le ..) s1000
    refine ⟨pr, rfl, ⟨_, SqL.of upd_same⟩, fun D2 nD2 => ?_⟩
    have nHD2 : H D2 = none := e.free (gp.free nD2)
    have nHpr : H pr = none := e.free npr
    refine lc_list (K := K) (a := pr) (xs := (ws.map fun z => (z.1, farD x1 y1 x2 y2 z.2)).map (·.1)) (fun i J => Same (upd H' pr (.lst ((ws.map fun z => (z.1, farD x1 y1 x2 y2 z.2)).map (·.1)))) J ∧ ∃ us : List V, J D2 = some (.lst us) ∧ Prs J us ((ws.map (·.2)).take i)) ?_ ?_ ?_ ?_
    · exact ⟨same_new nD2 _, [], upd_same, .nil⟩
    · rintro i J _ ⟨eJ, _⟩
      exact SqL.of (eJ _ _ upd_same)
    · rintro i x J hx ⟨eJ, us, hus, hpu⟩
      rw [List.map_map, List.getElem?_map] at hx
      obtain ⟨z, hz, rfl⟩ : ∃ z, ws[i]? = some z ∧ z.1 = x := by
        cases hw : ws[i]? with
        | none => rw [hw] at hx; cases hx
        | some z => rw [hw] at hx; exact ⟨z, rfl, Option.some.inj hx⟩
      obtain ⟨tt, qq, e1, e2, e3⟩ := fw z (List.mem_of_getElem? hz)
      rw [e1]
      have a2 := eJ _ _ (gp _ _ e2)
      have a3 := eJ _ _ (gp _ _ e3)
      have lu := hpu.len
      rw [List.length_take, List.length_map] at lu
      refine ⟨tt, _, rfl, SqT.of a2, rfl, _, _, rfl, _, _, rfl, rfl, rfl, lc_yes ?_⟩
      refine ⟨_, rfl, us, hus, Nat.lt_of_lt_of_le (by omega : us.length < 100000) (sz (Nat.le_refl _)), fun b o y => ?_, _, upd_same, ?_⟩
      · rw [upd_ne (ne_of_none y nD2)]
        exact eJ _ _ y
      · rw [take_snoc (show (ws.map (·.2))[i]? = some z.2 by rw [List.getElem?_map, hz]; rfl)]
        exact (hpu.snoc ⟨qq, rfl, a3⟩).but (l := D2) (fun zs y => by rw [hus] at y; cases y) fun b o nb y => by rw [upd_ne nb]; exact y
    · rintro J ⟨eJ, us, hus, hpu⟩
      rw [List.length_map, List.length_map, ← List.length_map (f := (·.2)) (as := ws), List.take_length] at hpu
      exact q D2 J us _ (e.trans (gp.trans eJ)) nHD2 hus hpu row
end
end DM

namespace DM
open PySem L2
def spLSq : Sp := fun vs H Q _ => ∃ (p : Addr) (x1 y1 x2 y2 : Int), vs = [.ref p] ∧ Stk H p x1 y1 x2 y2 ∧ (-30 < x1 - x2 ∧ x1 - x2 < 30 ∧ -30 < y1 - y2 ∧ y1 - y2 < 30) ∧ ∀ (r : Addr) (H' : Hp) (xs : List V) (L : List (Int × Int)), Same H H' → H r = none → H' r = some (.lst xs) → Prs H' xs L → Row x1 y1 x2 y2 L → Q (.ref r) H'
def gridAt (a b h : Int) (k : Nat) : Int × Int := (a + (k : Int) / h, b + (k : Int) % h)
theorem grid_inj {a b h : Int} (hh : 0 < h) {j k : Nat} (e : gridAt a b h j = gridAt a b h k) : j = k := by
  have e1 := congrArg Prod.fst e
  have e2 := congrArg Prod.snd e
  unfold gridAt at e1 e2
  dsimp only at e1 e2
  have h1 : (j : Int) / h = (k : Int) / h := by omega
  have h2 : (j : Int) % h = (k : Int) % h := by omega
  have d1 := Int.mul_ediv_add_emod (j : Int) h
  have d2 := Int.mul_ediv_add_emod (k : Int) h
  rw [h1, h2] at d1
  omega
theorem grid_nd {a b h : Int} (hh : 0 < h) (n : Nat) : ((List.range n).map (gridAt a b h)).Nodup := List.pairwise_map.mpr (List.nodup_range.imp fun {j k} z e => z (grid_inj hh e))
theorem grid_mem {a b w h : Int} (hw : 0 < w) (hh : 0 < h) {n : Nat} (hn : (n : Int) = w * h) {p : Int × Int} : p ∈ (List.range n).map (gridAt a b h) ↔ a ≤ p.1 ∧ p.1 < a + w ∧ b ≤ p.2 ∧ p.2 < b + h := by
  rw [List.mem_map]
  constructor
  · rintro ⟨k, hk, rfl⟩
    have hk' := List.mem_range.mp hk
    have m1 := Int.emod_nonneg (k : Int) (Int.ne_of_gt hh)
    have m2 := Int.emod_lt_of_pos (k : Int) hh
    have d1 : 0 ≤ (k : Int) / h := Int.ediv_nonneg (by omega) (by omega)
    have d2 : (k : Int) / h < w := Int.ediv_lt_of_lt_mul hh (by omega)
    unfold gridAt
    dsimp only
    omega
  · rintro ⟨h1, h2, h3, h4⟩
    have hx : 0 ≤ p.1 - a := by omega
    have hy : 0 ≤ p.2 - b := by omega
    have m0 : 0 ≤ (p.1 - a) * h := Int.mul_nonneg hx (by omega)
    have lt : (p.1 - a) * h + (p.2 - b) < w * h := by
      have : (p.1 - a + 1) * h ≤ w * h := Int.mul_le_mul_of_nonneg_right (by omega) (by omega)
      rw [Int.add_mul, Int.one_mul] at this
      omega
    refine ⟨((p.1 - a) * h + (p.2 - b)).toNat, List.mem_range.mpr (by omega), ?_⟩
    have ek : ((((p.1 - a) * h + (p.2 - b)).toNat : Nat) : Int) = (p.2 - b) + (p.1 - a) * h := by omega
    unfold gridAt
    rw [ek, Int.add_mul_ediv_right _ _ (Int.ne_of_gt hh), Int.add_mul_emod_self_right, Int.ediv_eq_zero_of_lt hy (by omega), Int.emod_eq_of_lt hy (by omega)]
    exact Prod.ext (by dsimp only; omega) (by dsimp only; omega)
section
variable {P : Program} {w : World} {K : PySem.W.Frag} {mg : Str → Option Value} {base : Heap} {f : Addr} {fd : FuncData}
abbrev s_squares : Stmt := top 65
theorem sc_squares : FnScope ["_law_stroke_here", "_law_low_here", "_law_high", "_law_left", "_law_right", "_law_some", "_law_k"] ["_law_stroke_here"] (defScope s_squares) := ⟨rfl, rfl, rfl, by decide +kernel, rfl, by decide +kernel, by decide +kernel⟩
theorem ok_squares (B : Blt mg) (c_bent : Cal P w K mg base 3 "_law_bent" ["_law_stroke_here", "_law_spots"] spLBent) (F : Fun K "_law_squares" "_law_squares" s_squares f fd) : FnOk P w K mg base CX0 4 f fd ["_law_stroke_here"] spLSq := by
  refine F.ok sc_squares (fun vs H Q E h => ?_) (fun cdv A outer s H vs Q E hr h => ?_)
  · obtain ⟨p, x1, y1, x2, y2, rfl, _⟩ := h
    rfl
  obtain ⟨p, x1, y1, x2, y2, rfl, hp, near, q⟩ := h
  refine ⟨_, (pss_cons (ps_asg (pe_tup (pa_cons (pe_callB (call_min2 rfl) rfl B.min bt_min (pa_cons (pe_ix ix_tup (pv 0) pe_int (fun _ _ => rfl)) (pa_cons (pe_ix ix_tup (pv 0) pe_int (fun _ _ => rfl)) pa_nil))) (pa_cons (pe_callB (call_max2 rfl) rfl B.max bt_max (pa_cons (pe_ix ix_tup (pv 0) pe_int (fun _ _ => rfl)) (pa_cons (pe_ix ix_tup (pv 0) pe_int (fun _ _ => rfl)) pa_nil))) pa_nil))) (pg_tup rfl (pgs_cons (pg_name (i := 1) sc_squares.nd rfl (Or.inr rfl)) (pgs_cons (pg_name (i := 2) sc_squares.nd rfl (Or.inl rfl)) pgs_nil))))
    (pss_cons (ps_asg (pe_tup (pa_cons (pe_callB (call_min2 rfl) rfl B.min bt_min (pa_cons (pe_ix ix_tup (pv 0) pe_int (fun _ _ => rfl)) (pa_cons (pe_ix ix_tup (pv 0) pe_int (fun _ _ => rfl)) pa_nil))) (pa_cons (pe_callB (call_max2 rfl) rfl B.max bt_max (pa_cons (pe_ix ix_tup (pv 0) pe_int (fun _ _ => rfl)) (pa_cons (pe_ix ix_tup (pv 0) pe_int (fun _ _ => rfl)) pa_nil))) pa_nil))) (pg_tup rfl (pgs_cons (pg_name (i := 3) sc_squares.nd rfl (Or.inr rfl)) (pgs_cons (pg_name (i := 4) sc_squares.nd rfl (Or.inr rfl)) pgs_nil))))
    (pss_cons (ps_setLc (i := 5) (own := [("_law_k", 6)]) (g := gName 6) (tt := tYes) rfl sc_squares.nd rfl rfl (sw_true rfl rfl rfl (by decide +kernel)) (pi_range1 rfl B.range (pa_cons (pe_op op_mul (pe_op op_add (pe_op op_sub (pv 2) (pv 1)) pe_int) (pe_op op_add (pe_op op_sub (pv 4) (pv 3)) pe_int)) pa_nil)) (blkOk_by (own := [("_law_k", 6)]) (N := ["_law_stroke_here", "_law_low_here", "_law_high", "_law_left", "_law_right", "_law_some", "_law_k"]) (sc := defScope s_squares) (by decide +kernel)) (fun _ _ _ _ _ => pg_name (i := 6) sc_squares.nd rfl (Or.inl rfl)) (fun _ _ _ _ _ => pts_nil) (fun _ _ _ _ _ => (pe_tup (pa_cons (pe_op op_add (pv 1) (pe_op op_fdivW (pv 6) (pe_op op_add (pe_op op_sub (pv 4) (pv 3)) pe_int))) (pa_cons (pe_op op_add (pv 3) (pe_op op_mod (pv 6) (pe_op op_add (pe_op op_sub (pv 4) (pv 3)) pe_int))) pa_nil)))))
    (pss_one (ps_ret (pe_cal c_bent hr (pa_cons (pv 0) (pa_cons (pv 5) pa_nil)))))))), ?_⟩
  obtain ⟨n1, n2, n3, n4⟩ := near
  have hp0 := hp.1
  have bd := hp.2.1
  refine seq_with (fun σ' J => ∃ (a c : Int), σ' = [some (.ref p), some (.int a), some (.int c), none, none, none, none] ∧ Same H J ∧ a = (if x2 < x1 then x2 else x1) ∧ c = (if x2 > x1 then x2 else x1)) (fun R hR => ?_) ?_
  · refine ⟨_, rfl, p, _, _, _, rfl, rfl, SqT.of hp0, rfl, _, rfl, p, _, _, _, rfl, rfl, SqT.of hp0, rfl, _, _, rfl, ?_⟩
    refine ⟨_, rfl, p, _, _, _, rfl, rfl, SqT.of hp0, rfl, _, rfl, p, _, _, _, rfl, rfl, SqT.of hp0, rfl, _, _, rfl, sz (by decide : 2 ≤ 100000), fun t nt => ?_⟩
    refine ⟨t, _, rfl, SqT.of upd_same, rfl, _, _, rfl, _, _, rfl, rfl, ?_⟩
    exact hR _ _ ⟨_, _, rfl, same_new nt _, rfl, rfl⟩
  rintro _ H1 ⟨a, c, rfl, s1, ea, ec⟩
  refine seq_with (fun σ' J => ∃ (b e : Int), σ' = [some (.ref p), some (.int a), some (.int c), some (.int b), some (.int e), none, none] ∧ Same H J ∧ b = (if y2 < y1 then y2 else y1) ∧ e = (if y2 > y1 then y2 else y1)) (fun R hR => ?_) ?_
  · refine ⟨_, rfl, p, _, _, _, rfl, rfl, SqT.of (s1 _ _ hp0), rfl, _, rfl, p, _, _, _, rfl, rfl, SqT.of (s1 _ _ hp0), rfl, _, _, rfl, ?_⟩
    refine ⟨_, rfl, p, _, _, _, rfl, rfl, SqT.of (s1 _ _ hp0), rfl, _, rfl, p, _, _, _, rfl, rfl, SqT.of (s1 _ _ hp0), rfl, _, _, rfl, sz (by decide : 2 ≤ 100000), fun t nt => ?_⟩
    refine ⟨t, _, rfl, SqT.of upd_same, rfl, _, _, rfl, _, _, rfl, rfl, ?_⟩
    exact hR _ _ ⟨_, _, rfl, s1.trans (same_new nt _), rfl, rfl⟩
  rintro _ H2 ⟨b, e, rfl, s2, eb, ee⟩
  have w1 : a ≤ c ∧ c - a < 30 ∧ b ≤ e ∧ e - b < 30 ∧ -40 ≤ a ∧ c ≤ 40 ∧ -40 ≤ b ∧ e ≤ 40 := by
    rw [ea, ec, eb, ee]
    split <;> split <;> split <;> split <;> omega
  obtain ⟨wA, wB, wC, wD, wE, wF, wG, wH⟩ := w1
  have hw : 0 < c - a + 1 := by omega
  have hh : 0 < e - b + 1 := by omega
  have lg : (e - b + 1).natAbs.log2 < 9000 := by
    have := Nat.log2_le_self (e - b + 1).natAbs
    omega
  obtain ⟨n, hn⟩ := Int.eq_ofNat_of_zero_le (Int.mul_nonneg (Int.le_of_lt hw) (Int.le_of_lt hh))
  have n900 : n ≤ 900 := by
    have h1 : (c - a + 1) * (e - b + 1) ≤ 30 * (e - b + 1) := Int.mul_le_mul_of_nonneg_right (by omega) (by omega)
    omega
  refine seq_with (fun σ' J => ∃ (pl : Addr) (c6 : Option V) (xs : List V), σ' = [some (.ref p), some (.int a), some (.int c), some (.int b), some (.int e), some (.ref pl), c6] ∧ Same H J ∧ J pl = some (.lst xs) ∧ Prs J xs ((List.range n).map (gridAt a b (e - b + 1)))) (fun R hR => ?_) ?_
  · refine ⟨_, rfl, _, rfl, _, _, rfl, rfl, _, _, rfl, rfl, _, rfl, _, rfl, _, _, rfl, rfl, _, _, rfl, rfl, _, _, rfl, rfl, .inl ⟨by omega, by omega⟩, ?_⟩
    refine ⟨(n : Int), by show [V.int ((c - a + 1) * (e - b + 1))] = [V.int (n : Int)]; rw [hn], by omega, by omega, fun D nD => ?_⟩
    have g0 := same_new nD (.lst [])
    refine lc_range (lo := 0) (n := ((n : Nat) : Int).toNat) (fun j J => Same H2 J ∧ ∃ xs, J D = some (.lst xs) ∧ Prs J xs ((List.range j).map (gridAt a b (e - b + 1)))) ?_ ?_ ?_
    · exact ⟨g0, [], upd_same, .nil⟩
    · rintro j J hj ⟨eJ, xs, hD, ps⟩
      refine ⟨rfl, lc_yes ?_⟩
      refine ⟨_, rfl, _, rfl, _, rfl, _, rfl, _, _, rfl, rfl, _, _, rfl, rfl, _, _, rfl, rfl, ⟨hh, lg⟩, _, _, rfl, rfl, ?_⟩
      refine ⟨_, rfl, _, rfl, _, rfl, _, rfl, _, _, rfl, rfl, _, _, rfl, rfl, _, _, rfl, rfl, hh, _, _, rfl, rfl, sz (by decide : 2 ≤ 100000), fun t nt => ?_⟩
      have gt := same_new nt (.tup [.int (a + (0 + (j : Int)) / (e - b + 1)), .int (b + (0 + (j : Int)) % (e - b + 1))])
      have hDt := gt _ _ hD
      have kl := KeepT.lst (o := .lst (xs ++ [.ref t])) hDt
      have lx : xs.length = j := by rw [ps.len, List.length_map, List.length_range]
      refine ⟨xs, hDt, Nat.lt_of_lt_of_le (by omega : xs.length < 100000) (sz (Nat.le_refl _)), fun x o z => ?_, xs ++ [.ref t], upd_same, ?_⟩
      · rw [upd_ne (ne_of_none z nD)]
        exact gt _ _ (eJ _ _ z)
      · rw [List.range_succ, List.map_append]
        refine ((ps.same gt).keepT kl).snoc ⟨t, rfl, ?_⟩
        have e0 : (0 + (j : Int)) = (j : Int) := by omega
        have := kl _ _ (upd_same (H := J) (a := t) (o := .tup [.int (a + (0 + (j : Int)) / (e - b + 1)), .int (b + (0 + (j : Int)) % (e - b + 1))]))
        refine this.trans ?_
        show some (HO.tup [V.int (a + (0 + (j : Int)) / (e - b + 1)), V.int (b + (0 + (j : Int)) % (e - b + 1))]) = some (HO.tup [V.int (a + (j : Int) / (e - b + 1)), V.int (b + (j : Int) % (e - b + 1))])
        rw [e0]
    · rintro J ⟨eJ, xs, hD, ps⟩
      have en : ((n : Nat) : Int).toNat = n := by omega
      rw [en] at ps
      exact hR _ _ ⟨D, _, xs, rfl, s2.trans eJ, hD, ps⟩
  rintro _ H3 ⟨pl, c6, xs, rfl, s3, hpl, ps⟩
  have gm : ∀ q : Int × Int, q ∈ (List.range n).map (gridAt a b (e - b + 1)) ↔ a ≤ q.1 ∧ q.1 < a + (c - a + 1) ∧ b ≤ q.2 ∧ q.2 < b + (e - b + 1) := fun q => grid_mem hw hh hn.symm
  have spt : Spts ((List.range n).map (gridAt a b (e - b + 1))) := ⟨grid_nd hh n, by rw [List.length_map, List.length_range]; omega, fun q hq => by have := (gm q).mp hq; omega⟩
  refine ⟨_, rfl, _, rfl, p, pl, x1, y1, x2, y2, xs, _, rfl, ⟨s3 _ _ hp0, hp.2⟩, hpl, ps, spt, fun r H4 ys L s4 nr hr4 pL row => ?_⟩
  refine q r H4 ys L (s3.trans s4) (s3.free nr) hr4 pL ⟨fun q => ?_, row.2⟩
  rw [row.1]
  refine ⟨fun z => z.2, fun z => ⟨(gm q).mpr ?_, z⟩⟩
  have t := thr_betw z
  rw [ea, ec, eb, ee]
  rw [ea, ec, eb, ee] at *
  revert t
  split <;> split <;> split <;> split <;> omega
end
end DM

namespace DM
open PySem L2
def spSpoilt : Sp := fun vs H Q _ => ∃ (b l d r : Addr) (L : List (Str × S4)) (es : List Ent), vs = [.ref b, .ref d, .ref r] ∧ BagAt H b l ∧ d ≠ b ∧ HeapAt H d L ∧ r ≠ b ∧ LstOf EnV H r es ∧ 1 ≤ es.length ∧ es.length ≤ 500 ∧ ∀ (r' : Addr) (H' : Hp) (es' : List Ent), BagAt H' b l → But b H H' → r' ≠ b → LstOf EnV H' r' es' → 1 ≤ es'.length → es'.length ≤ es.length + 1 → Q (.ref r') H'
def spDue : Sp := fun vs H Q _ => ∃ (d rq r : Addr) (p : Str × S4) (L : List (Str × S4)) (xs : List V) (Lq : List (Int × Int)) (es : List Ent), vs = [.ref d, .ref rq, .ref r] ∧ HeapAt H d L ∧ p ∈ L ∧ H rq = some (.lst xs) ∧ Prs H xs Lq ∧ Row p.2.1.1 p.2.1.2 p.2.2.1 p.2.2.2 Lq ∧ LstOf EnV H r es ∧ es.length ≤ 1000 ∧ ∀ (v : V) (H' : Hp), Same H H' → (∀ cs M, AllCz L cs → SrtOf L M → DueIs M cs Lq es v) → Q v H'
theorem ix_nat {n i : Nat} (h : i < n) : ixN n ((i : Nat) : Int) = some i := by
  unfold ixN
  rw [if_pos (by omega)]
  simp [h]
section
variable {P : Program} {w : World} {K : PySem.W.Frag} {mg : Str → Option Value} {base : Heap} {f : Addr} {fd : FuncData}
abbrev s_spoilt : Stmt := top 66
theorem sc_spoilt : FnScope ["_law_bag_here", "_law_heap", "_law_told", "_law_found", "_law_at", "_law_to", "_law_fork", "_law_spot_here", "_law_paper"] ["_law_bag_here", "_law_heap", "_law_told"] (defScope s_spoilt) := ⟨rfl, rfl, rfl, by decide +kernel, rfl, by decide +kernel, by decide +kernel⟩
theorem ok_spoilt (B : Blt mg) (c_pull : Cal P w K mg base 1 "_law_pull" ["_law_bag_here", "_law_amount"] spPull) (c_any_paper : Cal P w K mg base 5 "_law_any_paper" ["_law_bag_here", "_law_heap", "_law_spot_here"] spAnyPaper) (F : Fun K "_law_spoilt" "_law_spoilt" s_spoilt f fd) : FnOk P w K mg base CX0 6 f fd ["_law_bag_here", "_law_heap", "_law_told"] spSpoilt := by
  refine F.ok sc_spoilt (fun vs H Q E h => ?_) (fun cdv A outer s H vs Q E hr h => ?_)
  · obtain ⟨b, l, d, r, L, es, rfl, _⟩ := h
    rfl
  obtain ⟨b, l, d, r, L, es, rfl, hB, db, hH, rb, cz, l1, l500, q⟩ := h
  refine ⟨_, (pss_cons (ps_set (i := 3) sc_spoilt.nd rfl (Or.inl rfl) (pe_callTy call_list_of rfl B.list bt_list (pa_cons (pv 2) pa_nil)))
    (pss_cons (ps_par (i := 4) (j := 5) (by rfl) sc_spoilt.nd rfl rfl (by decide) rfl rfl (pa_cons (pe_cal c_pull hr (pa_cons (pv 0) (pa_cons (pe_callB call_len_seq rfl B.len bt_len (pa_cons (pv 3) pa_nil)) pa_nil))) (pa_cons (pe_cal c_pull hr (pa_cons (pv 0) (pa_cons (pe_callB call_len_seq rfl B.len bt_len (pa_cons (pv 3) pa_nil)) pa_nil))) pa_nil)) (by rfl))
    (pss_cons (ps_set (i := 6) sc_spoilt.nd rfl (Or.inl rfl) (pe_cal c_pull hr (pa_cons (pv 0) (pa_cons pe_int pa_nil))))
    (pss_cons (ps_asg (pe_ix ix_list (pv 3) (pv 4) (fun _ _ => rfl)) (pg_tup rfl (pgs_cons (pg_name (i := 7) sc_spoilt.nd rfl (Or.inl rfl)) (pgs_cons (pg_name (i := 8) sc_spoilt.nd rfl (Or.inl rfl)) pgs_nil))))
    (pss_cons (ps_if (PW.pt (pw_and (pt_cmpR op_eq (pv 6) pe_int (nomark _)) (pw_and1 (pt_cmpR op_gt (pe_callB call_len_seq rfl B.len bt_len (pa_cons (pv 3) pa_nil)) pe_int (nomark _)))))
    (pss_one (ps_expr (pe_bm PySem.F.plainAttrs_list PySem.F.slot_list_pop PySem.F.type_list_pop mt_popAt (pv 3) (pa_cons (pv 4) pa_nil))))
    (pss_one (ps_if (pt_cmpR op_eq (pv 6) pe_int (nomark _))
    (pss_one (ps_expr (pe_bm PySem.F.plainAttrs_list PySem.F.slot_list_insert PySem.F.type_list_insert mt_insert (pv 3) (pa_cons (pv 5) (pa_cons (pe_ix ix_list (pv 3) (pv 4) (fun _ _ => rfl)) pa_nil)))))
    (pss_one (ps_if (pt_cmpR op_eq (pv 6) pe_int (nomark _))
    (pss_one (ps_asg (pe_tup (pa_cons (pe_ix ix_list (pv 3) (pv 5) (fun _ _ => rfl)) (pa_cons (pe_ix ix_list (pv 3) (pv 4) (fun _ _ => rfl)) pa_nil))) (pg_tup rfl (pgs_cons (pg_sub (pv 3) (pv 4) set_list) (pgs_cons (pg_sub (pv 3) (pv 5) set_list) pgs_nil)))))
    (pss_one (ps_if (pt_cmpR op_eq (pv 6) pe_int (nomark _))
    (pss_one (ps_asg (pe_tup (pa_cons (pe_ix ix_tup (pe_ix ix_list (pv 3) (pv 5) (fun _ _ => rfl)) pe_int (fun _ _ => rfl)) (pa_cons (pv 8) pa_nil))) (pg_sub (pv 3) (pv 4) set_list)))
    (pss_one (ps_asg (pe_tup (pa_cons (pv 7) (pa_cons (pe_cal c_any_paper hr (pa_cons (pv 0) (pa_cons (pv 1) (pa_cons (pv 7) pa_nil)))) pa_nil))) (pg_sub (pv 3) (pv 4) set_list))))))))))
    (pss_one (ps_ret (pv 3)))))))), ?_⟩
  obtain ⟨bs, h1, h2, h3⟩ := cz
  have lb : bs.length = es.length := by rw [← h3, List.length_map]
  have lbm : (bs.map (·.1)).length = es.length := by rw [List.length_map, lb]
  refine ⟨_, rfl, r, _, rfl, .inl (SqL.of h1), fun pf nf => ?_⟩
  have g0 := same_new nf (.lst (bs.map (·.1)))
  obtain ⟨fb, fl⟩ := hB.new nf
  have hB0 := hB.same g0
  have hf0 : upd H pf (.lst (bs.map (·.1))) pf = some (.lst (bs.map (·.1))) := upd_same
  have hH0 := hH.same g0
  have hb0 : ∀ b ∈ bs, EnV (upd H pf (.lst (bs.map (·.1)))) b.1 b.2 := fun b hb => EnV.keep' _ _ _ _ (h2 b hb) (.of g0)
  generalize upd H pf (.lst (bs.map (·.1))) = H0 at *
  dsimp only [gName, tNext, List.set]
  refine seq_with (fun σ' J => ∃ (i j : Nat), σ' = [some (.ref b), some (.ref d), some (.ref r), some (.ref pf), some (.int (i : Nat)), some (.int (j : Nat)), none, none, none] ∧ BagAt J b l ∧ But b H0 J ∧ i < bs.length ∧ j < bs.length) (fun R hR => ?_) ?_
  · refine ⟨_, rfl, _, rfl, pf, _, rfl, .inl (SqL.of hf0), b, _, _, rfl, hB0, by rw [lbm]; omega, by rw [lbm]; omega, fun i J1 hB1 bt1 i0 i1 => ?_⟩
    refine ⟨_, rfl, _, rfl, pf, _, rfl, .inl (SqL.of (bt1 _ _ fb hf0)), b, _, _, rfl, hB1, by rw [lbm]; omega, by rw [lbm]; omega, fun j J2 hB2 bt2 j0 j1 => ?_⟩
    obtain ⟨i', rfl⟩ := Int.eq_ofNat_of_zero_le i0
    obtain ⟨j', rfl⟩ := Int.eq_ofNat_of_zero_le j0
    rw [lbm] at i1 j1
    exact ⟨_, _, rfl, hR _ _ ⟨i', j', rfl, hB2, bt1.trans bt2, by omega, by omega⟩⟩
  rintro _ H1 ⟨i, j, rfl, hB1, bt1, ib, jb⟩
  refine seq_with (fun σ' J => ∃ (k : Int), σ' = [some (.ref b), some (.ref d), some (.ref r), some (.ref pf), some (.int (i : Nat)), some (.int (j : Nat)), some (.int k), none, none] ∧ BagAt J b l ∧ But b H0 J) (fun R hR => ?_) ?_
  · refine ⟨_, rfl, b, _, _, rfl, hB1, by decide, by decide, fun k J hBJ btJ k0 k1 => ?_⟩
    exact hR _ _ ⟨k, rfl, hBJ, bt1.trans btJ⟩
  rintro _ H2 ⟨k, rfl, hB2, bt2⟩
  have kt2 := KeepT.but hB0 bt2
  have hf2 := bt2 _ _ fb hf0
  have hb2 : ∀ b ∈ bs, EnV H2 b.1 b.2 := fun b hb => EnV.keep' _ _ _ _ (hb0 b hb) kt2
  have hH2 : HeapAt H2 d L := hH0.keep kt2 fun kvs z => bt2 _ _ db z
  obtain ⟨ti, hti⟩ : ∃ t, bs[i]? = some t := ⟨_, List.getElem?_eq_getElem ib⟩
  obtain ⟨tj, htj⟩ : ∃ t, bs[j]? = some t := ⟨_, List.getElem?_eq_getElem jb⟩
  have ei := hb2 ti (List.mem_of_getElem? hti)
  have ej := hb2 tj (List.mem_of_getElem? htj)
  have ati : (bs.map (·.1))[i]? = some ti.1 := by rw [List.getElem?_map, hti]; rfl
  have atj : (bs.map (·.1))[j]? = some tj.1 := by rw [List.getElem?_map, htj]; rfl
  obtain ⟨ai, pi', qi, eai, ki1, ki2, ki3, ki4, ki5⟩ := ei
  obtain ⟨aj, pj, qj, eaj, kj1, kj2, kj3, kj4, kj5⟩ := ej
  have ixi : ∀ n : Nat, n = bs.length → ixN n ((i : Nat) : Int) = some i := fun n hn => by rw [hn]; exact ix_nat ib
  have ixj : ∀ n : Nat, n = bs.length → ixN n ((j : Nat) : Int) = some j := fun n hn => by rw [hn]; exact ix_nat jb
  refine seq_with (fun σ' J => σ' = [some (.ref b), some (.ref d), some (.ref r), some (.ref pf), some (.int (i : Nat)), some (.int (j : Nat)), some (.int k), some (.ref pi'), some (.ref qi)] ∧ H2 = J) (fun R hR => ?_) ?_
  · refine ⟨_, rfl, _, rfl, pf, _, _, _, rfl, rfl, SqL.of hf2, at_of (j := i) rfl (by rw [ati, eai]), ai, _, rfl, SqT.of ki1, rfl, _, _, rfl, _, _, rfl, rfl, ?_⟩
    exact hR _ _ ⟨rfl, rfl⟩
  rintro _ _ ⟨rfl, rfl⟩
  have btH : But b H H2 := (But.of g0).trans bt2
  have put : ∀ {J : Hp} {ms : List (V × Ent)}, BagAt J b l → But b H J → (∃ xs, J pf = some (.lst xs)) → (∀ m ∈ ms, EnV J m.1 m.2) → 1 ≤ ms.length → ms.length ≤ es.length + 1 → BagAt (upd J pf (.lst (ms.map (·.1)))) b l ∧ But b H (upd J pf (.lst (ms.map (·.1)))) ∧ ∃ es', LstOf EnV (upd J pf (.lst (ms.map (·.1)))) pf es' ∧ 1 ≤ es'.length ∧ es'.length ≤ es.length + 1 := fun {J ms} hBJ btJ hJ hm m1 m2 => by
    obtain ⟨ws, hJ⟩ := hJ
    refine ⟨hBJ.put fb fl, fun x o nx z => ?_, ms.map (·.2), ⟨ms, upd_same, fun m hm' => EnV.keep' _ _ _ _ (hm m hm') (KeepT.lst hJ), rfl⟩, by rw [List.length_map]; exact m1, by rw [List.length_map]; exact m2⟩
    rw [upd_ne (ne_of_none z nf)]
    exact btJ _ _ nx z
  refine seq_with (fun σ' J => σ' = [some (.ref b), some (.ref d), some (.ref r), some (.ref pf), some (.int (i : Nat)), some (.int (j : Nat)), some (.int k), some (.ref pi'), some (.ref qi)] ∧ BagAt J b l ∧ But b H J ∧ ∃ es', LstOf EnV J pf es' ∧ 1 ≤ es'.length ∧ es'.length ≤ es.length + 1) (fun R hR => ?_) ?_
  · have tail1 : ∀ {G : Prop}, (k = 1 → G) → (k = 2 → G) → (k = 3 → G) → (k ≠ 1 → k ≠ 2 → k ≠ 3 → G) → G := fun {G} a b c d => by
      by_cases c1 : k = 1
      · exact a c1
      by_cases c2 : k = 2
      · exact b c2
      by_cases c3 : k = 3
      · exact c c3
      exact d c1 c2 c3
    have setd : ∀ {J : Hp} {e' : Ent} {v' : V} {n : Nat}, BagAt J b l → But b H2 J → J pf = some (.lst (bs.map (·.1))) → EnV J v' e' → n < bs.length → R [some (.ref b), some (.ref d), some (.ref r), some (.ref pf), some (.int (i : Nat)), some (.int (j : Nat)), some (.int k), some (.ref pi'), some (.ref qi)] (upd J pf (.lst ((bs.map (·.1)).set n v'))) := fun {J e' v' n} hBJ btJ hJ he hn => by
      have em : (bs.map (·.1)).set n v' = (bs.set n (v', e')).map (·.1) := by rw [List.map_set]
      rw [em]
      refine hR _ _ ⟨rfl, put hBJ (btH.trans btJ) ⟨_, hJ⟩ (fun m hm => ?_) (by rw [List.length_set]; omega) (by rw [List.length_set]; omega)⟩
      rcases List.mem_or_eq_of_mem_set hm with z | z
      · exact EnV.keep' _ _ _ _ (hb2 m z) (KeepT.but hB2 btJ)
      · rw [z]
        exact he
    by_cases c0 : k = 0 ∧ (1 : Int) < ((bs.map (·.1)).length : Int)
    · refine ⟨_, rfl, rfl, _, rfl, iteDT (congrArg V.int c0.1) ⟨_, rfl, pf, _, rfl, .inl (SqL.of hf2), _, _, rfl, rfl, _, rfl, iteDT c0.2 ?_⟩⟩
      obtain ⟨n, sn, hn, ln, _⟩ := atI_get (at_of (j := i) rfl ati)
      refine ⟨_, rfl, .inl ⟨rfl, _, SqL.of hf2⟩, _, rfl, pf, _, _, n, _, rfl, rfl, hf2, by omega, by omega, sn, hn, ?_⟩
      have em : (bs.map (·.1)).eraseIdx n = (bs.eraseIdx n).map (·.1) := by rw [List.eraseIdx_eq_take_drop_succ, List.eraseIdx_eq_take_drop_succ, List.map_append, List.map_take, List.map_drop]
      rw [List.length_map] at ln
      have c02 := c0.2
      rw [List.length_map] at c02
      have le : (bs.eraseIdx n).length = bs.length - 1 := List.length_eraseIdx_of_lt ln
      rw [em]
      exact hR _ _ ⟨rfl, put hB2 btH ⟨_, hf2⟩ (fun m hm => hb2 m (List.mem_of_mem_eraseIdx hm)) (by omega) (by omega)⟩
    · have go : ∀ {T1 T2 : Hp → Prop}, T2 H2 → (tAnd (tTest (tOp rEq (tVar 6) (tC (V.int 0)))) (tTest (tOp (rI0 fun i j => V.bl (decide (j < i))) (tCB (fun xs H_1 Q => ∃ p ys, xs = [V.ref p] ∧ (SqL K H_1 p ys ∨ SqT K H_1 p ys) ∧ Q (V.int ys.length) H_1) (tCons (tVar 3) tNil)) (tC (V.int 1))))) [some (.ref b), some (.ref d), some (.ref r), some (.ref pf), some (.int (i : Nat)), some (.int (j : Nat)), some (.int k), some (.ref pi'), some (.ref qi)] H2 (fun c H1 => if c = true then T1 H1 else T2 H1) := fun {T1 T2} t2 => by
        by_cases c1 : k = 0
        · refine ⟨_, rfl, rfl, _, rfl, iteDT (congrArg V.int c1) ⟨_, rfl, pf, _, rfl, .inl (SqL.of hf2), _, _, rfl, rfl, _, rfl, iteDF (fun z => c0 ⟨c1, z⟩) t2⟩⟩
        · exact ⟨_, rfl, rfl, _, rfl, iteDF (fun z => c1 (V.int.inj z)) (iteF t2)⟩
      refine go ?_
      refine tail1 (fun c1 => ?_) (fun c2 => ?_) (fun c3 => ?_) (fun c1 c2 c3 => ?_)
      · refine ⟨_, rfl, rfl, _, rfl, iteDT (congrArg V.int c1) ?_⟩
        refine ⟨_, rfl, .inl ⟨rfl, _, SqL.of hf2⟩, _, rfl, _, rfl, _, rfl, pf, _, _, _, rfl, rfl, SqL.of hf2, at_of (j := i) rfl ati, pf, _, _, _, rfl, rfl, hf2, ?_, by omega, by omega, ?_⟩
        · rw [lbm]
          exact Nat.lt_of_lt_of_le (by omega : es.length < 100000) (sz (Nat.le_refl _))
        have em : (bs.map (·.1)).take ((j : Nat) : Int).toNat ++ [ti.1] ++ (bs.map (·.1)).drop ((j : Nat) : Int).toNat = (bs.take j ++ [ti] ++ bs.drop j).map (·.1) := by
          have : ((j : Nat) : Int).toNat = j := by omega
          rw [this, List.map_append, List.map_append, List.map_take, List.map_drop]
          rfl
        rw [em]
        have le : (bs.take j ++ [ti] ++ bs.drop j).length = bs.length + 1 := by
          rw [List.length_append, List.length_append, List.length_take, List.length_drop, List.length_singleton]
          omega
        refine hR _ _ ⟨rfl, put hB2 btH ⟨_, hf2⟩ (fun m hm => ?_) (by omega) (by omega)⟩
        rcases List.mem_append.mp hm with z | z
        · rcases List.mem_append.mp z with y | y
          · exact hb2 m (List.mem_of_mem_take y)
          · rw [List.mem_singleton.mp y]
            exact hb2 ti (List.mem_of_getElem? hti)
        · exact hb2 m (List.mem_of_mem_drop z)
      · refine ⟨_, rfl, rfl, _, rfl, iteDF (fun z => absurd (V.int.inj z) (by omega)) ?_⟩
        refine ⟨_, rfl, rfl, _, rfl, iteDT (congrArg V.int c2) ?_⟩
        refine ⟨_, rfl, _, rfl, pf, _, _, _, rfl, rfl, SqL.of hf2, at_of (j := j) rfl atj, _, rfl, _, rfl, pf, _, _, _, rfl, rfl, SqL.of hf2, at_of (j := i) rfl ati, sz (by decide : 2 ≤ 100000), fun t nt => ?_⟩
        have gt := same_new nt (.tup [tj.1, ti.1])
        have tf : t ≠ pf := Ne.symm (ne_of_none hf2 nt)
        refine ⟨t, _, rfl, SqT.of upd_same, rfl, _, _, rfl, _, rfl, _, rfl, pf, _, _, i, rfl, rfl, gt _ _ hf2, ixi _ (List.length_map ..), _, _, rfl, _, rfl, _, rfl, pf, _, _, j, rfl, rfl, upd_same, ixj _ (by rw [List.length_set, List.length_map]), rfl, ?_⟩
        have em : ((bs.map (·.1)).set i tj.1).set j ti.1 = ((bs.set i tj).set j ti).map (·.1) := by rw [List.map_set, List.map_set]
        rw [em]
        have le : ((bs.set i tj).set j ti).length = bs.length := by rw [List.length_set, List.length_set]
        have ktt : KeepT H2 (upd (upd H2 t (.tup [tj.1, ti.1])) pf (.lst ((bs.map (·.1)).set i tj.1))) := (KeepT.of gt).trans (KeepT.lst (gt _ _ hf2))
        refine hR _ _ ⟨rfl, put ((hB2.same gt).put fb fl) (fun x o nx z => ?_) ⟨_, upd_same⟩ (fun m hm => ?_) (by omega) (by omega)⟩
        · rw [upd_ne (ne_of_none z nf)]
          exact gt _ _ (btH _ _ nx z)
        · refine EnV.keep' _ _ _ _ ?_ ktt
          rcases List.mem_or_eq_of_mem_set hm with z | z
          · rcases List.mem_or_eq_of_mem_set z with y | y
            · exact hb2 m y
            · rw [y]; exact hb2 tj (List.mem_of_getElem? htj)
          · rw [z]; exact hb2 ti (List.mem_of_getElem? hti)
      · refine ⟨_, rfl, rfl, _, rfl, iteDF (fun z => absurd (V.int.inj z) (by omega)) ?_⟩
        refine ⟨_, rfl, rfl, _, rfl, iteDF (fun z => absurd (V.int.inj z) (by omega)) ?_⟩
        refine ⟨_, rfl, rfl, _, rfl, iteDT (congrArg V.int c3) ?_⟩
        refine ⟨_, rfl, _, rfl, pf, _, _, _, rfl, rfl, SqL.of hf2, at_of (j := j) rfl (by rw [atj, eaj]), aj, _, _, _, rfl, rfl, SqT.of kj1, rfl, _, rfl, sz (by decide : 2 ≤ 100000), fun t nt => ?_⟩
        have gt := same_new nt (.tup [.ref pj, .ref qi])
        refine ⟨_, rfl, _, rfl, pf, _, _, i, rfl, rfl, gt _ _ hf2, ixi _ (List.length_map ..), ?_⟩
        exact setd (e' := (tj.2.1, ti.2.2)) (hB2.same gt) (.of gt) (gt _ _ hf2) ⟨t, pj, qi, rfl, upd_same, gt _ _ kj2, ki3.same (.of gt), kj4, ki5⟩ ib
      · refine ⟨_, rfl, rfl, _, rfl, iteDF (fun z => c1 (V.int.inj z)) ?_⟩
        refine ⟨_, rfl, rfl, _, rfl, iteDF (fun z => c2 (V.int.inj z)) ?_⟩
        refine ⟨_, rfl, rfl, _, rfl, iteDF (fun z => c3 (V.int.inj z)) ?_⟩
        refine ⟨_, rfl, _, rfl, _, rfl, _, rfl, b, _, d, pi', ti.2.1.1, ti.2.1.2, L, rfl, hB2, db, hH2, ki2, ki4, fun pp J pap hBJ btJ pvJ pat fit => ⟨sz (by decide : 2 ≤ 100000), fun t nt => ?_⟩⟩
        have gt := same_new nt (.tup [.ref pi', .ref pp])
        refine ⟨_, rfl, _, rfl, pf, _, _, i, rfl, rfl, gt _ _ (btJ _ _ fb hf2), ixi _ (List.length_map ..), ?_⟩
        have pg : PapG pap := by
          cases pap with
          | inl c => exact ⟨pat.2.2, fit⟩
          | inr ns => exact fit
        exact setd (e' := (ti.2.1, pap)) (hBJ.same gt) (btJ.trans (.of gt)) (gt _ _ (btJ _ _ fb hf2)) ⟨t, pi', pp, rfl, upd_same, gt _ _ (KeepT.but hB2 btJ _ _ ki2), pvJ.same (.of gt), ki4, pg⟩ ib
  rintro _ J ⟨rfl, hBJ, btJ, es', cz', m1, m2⟩
  refine ⟨_, rfl, ?_⟩
  exact q pf J es' hBJ btJ fb cz' m1 m2
abbrev s_due : Stmt := top 67
theorem sc_due : FnScope ["_law_heap", "_law_squares_of", "_law_told", "_law_at", "_law_spot_here", "_law_paper"] ["_law_heap", "_law_squares_of", "_law_told"] (defScope s_due) := ⟨rfl, rfl, rfl, by decide +kernel, rfl, by decide +kernel, by decide +kernel⟩
theorem ok_due (B : Blt mg) (c_paper_right : Cal P w K mg base 6 "_law_paper_right" ["_law_heap", "_law_spot_here", "_law_paper"] spJudge) (F : Fun K "_law_due" "_law_due" s_due f fd) : FnOk P w K mg base CX0 7 f fd ["_law_heap", "_law_squares_of", "_law_told"] spDue := by
  refine F.ok sc_due (fun vs H Q E h => ?_) (fun cdv A outer s H vs Q E hr h => ?_)
  · obtain ⟨d, rq, r, p, L, xs, Lq, es, rfl, _⟩ := h
    rfl
  obtain ⟨d, rq, r, p, L, xs, Lq, es, rfl, hH, hp, hq, pq, row, cz, few, q⟩ := h
  refine ⟨_, (pss_cons (ps_for PassesOwn.never rfl (pi_range1 rfl B.range (pa_cons (pe_callB call_len_seq rfl B.len bt_len (pa_cons (pv 2) pa_nil)) pa_nil)) (pg_name (i := 3) sc_due.nd rfl (Or.inl rfl))
    (pss_cons (ps_asg (pe_ix ix_list (pv 2) (pv 3) (fun _ _ => rfl)) (pg_tup rfl (pgs_cons (pg_name (i := 4) sc_due.nd rfl (Or.inl rfl)) (pgs_cons (pg_name (i := 5) sc_due.nd rfl (Or.inl rfl)) pgs_nil))))
    (pss_one (ps_if (PW.pt (pw_or (pt_cmpR op_ge (pv 3) (pe_callB call_len_seq rfl B.len bt_len (pa_cons (pv 1) pa_nil)) (nomark _)) (pw_or (pt_cmpR (op_neD hr.units) (pv 4) (pe_ix ix_list (pv 1) (pv 3) (fun _ _ => rfl)) (nomark _)) (pw_or1 (pt_not (pt_val (pe_cal c_paper_right hr (pa_cons (pv 0) (pa_cons (pv 4) (pa_cons (pv 5) pa_nil))))))))))
    (pss_one (ps_ret (pv 3)))
    pss_nil))))
    (pss_one (ps_ret (pe_ifExp (pt_cmpR op_eq (pe_callB call_len_seq rfl B.len bt_len (pa_cons (pv 2) pa_nil)) (pe_callB call_len_seq rfl B.len bt_len (pa_cons (pv 1) pa_nil)) (nomark _)) pe_non (pe_callB call_len_seq rfl B.len bt_len (pa_cons (pv 2) pa_nil)))))), ?_⟩
  obtain ⟨bs, h1, h2, h3⟩ := cz
  have lb : bs.length = es.length := by rw [← h3, List.length_map]
  have lbm : (bs.map (·.1)).length = es.length := by rw [List.length_map, lb]
  have lx := pq.len
  have okp := hH.ok p hp
  have lq : Lq.length ≤ 161 := row_len (S := fun _ => True) ⟨fun q => by rw [row.1]; exact ⟨fun z => ⟨trivial, z⟩, fun z => z.2⟩, row.2⟩ (by have := okp.1; omega)
  refine seq_with (fun σ' J => (∃ c3 c4 c5, σ' = [some (.ref d), some (.ref rq), some (.ref r), c3, c4, c5]) ∧ Same H J ∧ es.length ≤ Lq.length ∧ ∀ cs M, AllCz L cs → SrtOf L M → ∀ j, j < es.length → GoodE M cs Lq es j) (fun R hR => ?_) ?_
  · refine ⟨_, rfl, r, _, rfl, .inl (SqL.of h1), _, rfl, by rw [lbm]; omega, by rw [lbm]; omega, ?_⟩
    refine for_range (lo := 0) (n := ((bs.map (·.1)).length : Int).toNat) (fun i σ J => (∃ c3 c4 c5, σ = [some (.ref d), some (.ref rq), some (.ref r), c3, c4, c5]) ∧ Same H J ∧ i ≤ Lq.length ∧ ∀ cs M, AllCz L cs → SrtOf L M → ∀ j, j < i → GoodE M cs Lq es j) ?_ ?_ ?_
    · exact ⟨⟨_, _, _, rfl⟩, fun _ _ z => z, Nat.zero_le _, fun cs M _ _ j hj => absurd hj (Nat.not_lt_zero j)⟩
    · rintro i σ J hi ⟨⟨c3, c4, c5, rfl⟩, e, _, good⟩
      rw [lbm] at hi
      have hi' : i < es.length := by omega
      obtain ⟨b, hbi⟩ : ∃ b, bs[i]? = some b := ⟨_, List.getElem?_eq_getElem (by omega)⟩
      have hes : es[i]? = some b.2 := by rw [← h3, List.getElem?_map, hbi]; rfl
      have kb := EnV.keep' _ _ _ _ (h2 b (List.mem_of_getElem? hbi)) (.of e)
      obtain ⟨bv, en⟩ := b
      dsimp only at kb hes
      obtain ⟨ae, sp, t, rfl, k1, k2, k3, k4, k5⟩ := kb
      have atb : (bs.map (·.1))[i]? = some (.ref ae) := by rw [List.getElem?_map, hbi]; rfl
      dsimp only [gName, tNext, List.set]
      refine ⟨_, rfl, _, rfl, r, _, _, _, rfl, rfl, SqL.of (e _ _ h1), at_of (j := i) (by omega) atb, ae, _, rfl, SqT.of k1, rfl, _, _, rfl, _, _, rfl, rfl, ?_⟩
      dsimp only [gName, tNext, List.set]
      have bad : ∀ {J2 : Hp}, Same H J2 → (∀ cs M, AllCz L cs → SrtOf L M → ¬ GoodE M cs Lq es i) → Q (.int (0 + (i : Int))) J2 := fun {J2} s5 ng => q _ _ s5 fun cs M all so => by
        exact .inl ⟨i, hi', ng cs M all so, good cs M all so, by congr 1; omega⟩
      refine ⟨_, rfl, _, rfl, rq, _, rfl, .inl (SqL.of (e _ _ hq)), _, _, rfl, rfl, _, rfl, ?_⟩
      by_cases c1 : (xs.length : Int) ≤ 0 + (i : Int)
      · refine iteDT c1 (iteT ⟨_, rfl, bad e fun cs M _ _ g => ?_⟩)
        obtain ⟨e', _, h', _⟩ := g
        have := (List.getElem?_eq_some_iff.mp h').1
        omega
      · refine iteDF c1 ?_
        obtain ⟨qq, hqq⟩ : ∃ qq, Lq[i]? = some qq := ⟨_, List.getElem?_eq_getElem (by omega)⟩
        obtain ⟨xq, hxq⟩ : ∃ xq, xs[i]? = some xq := ⟨_, List.getElem?_eq_getElem (by omega)⟩
        obtain ⟨qq', hqq', s2, rfl, hs2⟩ := pq.at hxq
        rw [hqq] at hqq'
        cases hqq'
        refine ⟨_, rfl, _, rfl, _, rfl, rq, _, _, _, rfl, rfl, SqL.of (e _ _ hq), at_of (j := i) (by omega) hxq, _, _, dp_pair k2, dp_pair (e _ _ hs2), shaped_pair _ _, shaped_pair _ _, _, rfl, ?_⟩
        rw [eqv_pair]
        by_cases c2 : en.1.1 = qq.1 ∧ en.1.2 = qq.2
        · rw [decide_eq_true c2]
          refine iteF ?_
          obtain ⟨pat, fit⟩ := k5.at' en.1.1 en.1.2
          refine ⟨_, rfl, _, rfl, _, rfl, d, sp, t, en.1.1, en.1.2, L, atPap en.1.1 en.1.2 en.2, rfl, hH.same e, k2, k4, k3.at' _ _, pat, fit, fun rr J4 s4 hr4 => ⟨_, rfl, ?_⟩⟩
          cases rr with
          | true =>
            refine iteF ⟨⟨_, _, _, rfl⟩, e.trans s4, by omega, fun cs M all so j hj => ?_⟩
            rcases Nat.lt_or_eq_of_le (Nat.le_of_lt_succ hj) with z | z
            · exact good cs M all so j z
            · subst z
              exact ⟨en, hes, by rw [hqq]; exact congrArg some (Prod.ext c2.1.symm c2.2.symm), (hr4 cs M all so).mp rfl⟩
          | false =>
            refine iteT ⟨_, rfl, bad (e.trans s4) fun cs M all so g => ?_⟩
            obtain ⟨e', h1', h2', h3'⟩ := g
            rw [hes] at h1'
            cases h1'
            have := (hr4 cs M all so).mpr h3'
            cases this
        · rw [decide_eq_false c2]
          refine iteT (iteT ⟨_, rfl, bad e fun cs M _ _ g => ?_⟩)
          obtain ⟨e', h1', h2', _⟩ := g
          rw [hes] at h1'
          cases h1'
          rw [hqq] at h2'
          have := Option.some.inj h2'
          exact c2 ⟨by rw [this], by rw [this]⟩
    · rintro σ J ⟨⟨c3, c4, c5, rfl⟩, e, le, good⟩
      have en : ((bs.map (·.1)).length : Int).toNat = es.length := by rw [lbm]; omega
      rw [en] at good le
      exact hR _ _ ⟨⟨_, _, _, rfl⟩, e, le, good⟩
  rintro _ J ⟨⟨c3, c4, c5, rfl⟩, e, le, good⟩
  refine ⟨_, rfl, r, _, rfl, .inl (SqL.of (e _ _ h1)), _, rfl, rq, _, rfl, .inl (SqL.of (e _ _ hq)), rfl, _, rfl, ?_⟩
  have fin : ∀ v, (v = if es.length < Lq.length then .int (es.length : Nat) else .non) → Q v J := fun v hv => q v J e fun cs M all so => .inr ⟨good cs M all so, hv⟩
  by_cases c : V.int ((bs.map (·.1)).length : Nat) = V.int (xs.length : Nat)
  · refine iteDT c ?_
    have := V.int.inj c
    refine fin _ ?_
    rw [if_neg (by omega)]
  · refine iteDF c ⟨_, rfl, r, _, rfl, .inl (SqL.of (e _ _ h1)), ?_⟩
    have ne : (bs.map (·.1)).length ≠ xs.length := fun z => c (by rw [z])
    refine fin _ ?_
    rw [if_pos (by omega), lbm]
end
end DM

namespace DM
open PySem L2
section
variable {P : Program} {w : World} {K : PySem.W.Frag} {mg : Str → Option Value} {base : Heap} {f : Addr} {fd : FuncData}
def enD (e : Ent) : PyData := .tuple [prD e.1, papD e.2]
theorem all_lay {n : Nat} : ∀ {ds : List PyData}, (∀ d ∈ ds, PyData.canLay0 d = true ∧ PyData.depth d ≤ n) → PyData.canLayAll0 ds = true ∧ PyData.depthAll ds ≤ n
  | [], _ => ⟨rfl, Nat.zero_le _⟩
  | d :: ds, h => by
    have ih := all_lay fun x hx => h x (List.mem_cons_of_mem _ hx)
    have z := h d List.mem_cons_self
    unfold PyData.canLayAll0 PyData.depthAll
    rw [ih.1, z.1]
    exact ⟨rfl, by omega⟩
theorem list_shaped {ds : List PyData} (h : ∀ d ∈ ds, PyData.canLay0 d = true ∧ PyData.depth d ≤ 60) : SeqAt.shaped (.list ds) = true := by
  have z := all_lay h
  unfold SeqAt.shaped
  have e1 : PyData.canLay0 (.list ds) = true := by unfold PyData.canLay0; exact z.1
  have e2 : PyData.depth (.list ds) ≤ 64 := by unfold PyData.depth; omega
  rw [e1, decide_eq_true e2]
  rfl
theorem eqvAll_refl : ∀ {ds : List PyData}, (∀ d ∈ ds, PyData.eqv d d = true) → PyData.eqvAll ds ds = true
  | [], _ => rfl
  | d :: ds, h => by
    unfold PyData.eqvAll
    rw [h d List.mem_cons_self, eqvAll_refl fun x hx => h x (List.mem_cons_of_mem _ hx)]
    rfl
theorem PapG.fit' {p : Pap} (h : PapG p) : PapFit p := by
  cases p with
  | inl c => exact h.2
  | inr ns => exact h
theorem pap_lay {p : Pap} (h : PapG p) : PyData.canLay0 (papD p) = true ∧ PyData.depth (papD p) ≤ 2 := by
  have z := pap_shaped h.fit'
  unfold SeqAt.shaped at z
  refine ⟨(Bool.and_eq_true_iff.mp z).1, ?_⟩
  cases p with
  | inl c =>
    obtain ⟨x, y, wd, nm, th⟩ := c
    unfold papD Cause.tail
    cases th <;> simp [PyData.depth, PyData.depthAll, thD]
  | inr ns =>
    have y := names_lay h
    unfold papD
    simp [PyData.depth, PyData.depthAll, y.2]
theorem en_lay {e : Ent} (h : PapG e.2) : PyData.canLay0 (enD e) = true ∧ PyData.depth (enD e) ≤ 60 := by
  have z := pap_lay h
  have y := lay_prs [e.1]
  simp only [List.map_cons, List.map_nil] at y
  unfold PyData.canLayAll0 PyData.depthAll at y
  have y1 := (Bool.and_eq_true_iff.mp y.1).1
  unfold enD
  refine ⟨?_, ?_⟩
  · simp [PyData.canLay0, PyData.canLayAll0, z.1, y1]
  · simp [PyData.depth, PyData.depthAll]
    omega
theorem dp_en {K : PySem.W.Frag} {H : Hp} {v : V} {e : Ent} (h : EnV H v e) : Dp K H v (enD e) := by
  obtain ⟨a, p, t, rfl, h1, h2, h3, _⟩ := h
  exact .tup (SqT.of h1) (.cons (dp_pair h2) (.cons (dp_pap h3) .nil))
theorem dp_ens {K : PySem.W.Frag} {H : Hp} {r : Addr} {bs : List (V × Ent)} (h1 : H r = some (.lst (bs.map (·.1)))) (h2 : ∀ b ∈ bs, EnV H b.1 b.2) : Dp K H (.ref r) (.list (bs.map fun b => enD b.2)) := by
  refine .lst (SqL.of h1) ?_
  clear h1
  induction bs with
  | nil => exact .nil
  | cons b bs ih => exact .cons (dp_en (h2 b List.mem_cons_self)) (ih fun x hx => h2 x (List.mem_cons_of_mem _ hx))
theorem ens_shaped {H : Hp} {bs : List (V × Ent)} (h2 : ∀ b ∈ bs, EnV H b.1 b.2) : SeqAt.shaped (.list (bs.map fun b => enD b.2)) = true := list_shaped fun d hd => by
  obtain ⟨b, hb, rfl⟩ := List.mem_map.mp hd
  obtain ⟨_, _, _, _, _, _, _, _, g⟩ := h2 b hb
  exact en_lay g
theorem ens_eqv (bs : List (V × Ent)) : PyData.eqv (.list (bs.map fun b => enD b.2)) (.list (bs.map fun b => enD b.2)) = true := by
  unfold PyData.eqv
  refine eqvAll_refl fun d hd => ?_
  obtain ⟨b, hb, rfl⟩ := List.mem_map.mp hd
  have := pap_eqv b.2.2
  have y := eqv_prD b.2.1 b.2.1
  unfold enD
  simp [PyData.eqv, PyData.eqvAll, this, y]
theorem last_right {L M : List (Str × S4)} {cs : List Cause} {q : Int × Int} (all : AllCz L cs) : PapR M cs q.1 q.2 (atPap q.1 q.2 (lastP M cs q)) := by
  unfold lastP
  cases e : (cs.filter (atSpot q.1 q.2)).getLast? with
  | none =>
    refine ⟨rfl, fun c hc z => ?_⟩
    have m : c ∈ cs.filter (atSpot q.1 q.2) := List.mem_filter.mpr ⟨hc, decide_eq_true z⟩
    rw [List.getLast?_eq_none_iff.mp e] at m
    cases m
  | some c =>
    obtain ⟨h1, h2⟩ := List.mem_filter.mp (List.mem_of_getLast? e)
    have h2' := of_decide_eq_true h2
    obtain ⟨x, y, wd, nm, th⟩ := c
    obtain ⟨rfl, rfl⟩ := h2'
    exact h1
theorem hot_one {M : List (Str × S4)} {cs : List Cause} {q : Int × Int} {p p' : Pap} (h : PapR M cs q.1 q.2 (atPap q.1 q.2 p)) (h' : PapR M cs q.1 q.2 (atPap q.1 q.2 p')) : hotE (q, p) = hotE (q, p') := by
  cases p <;> cases p'
  · rfl
  · exact absurd ⟨rfl, rfl⟩ (h'.2 _ h)
  · exact absurd ⟨rfl, rfl⟩ (h.2 _ h')
  · rfl
theorem hots_same {M : List (Str × S4)} {cs : List Cause} {Lq : List (Int × Int)} {es es' : List Ent} (l : es.length = Lq.length) (l' : es'.length = Lq.length) (g : ∀ i, i < es.length → GoodE M cs Lq es i) (g' : ∀ i, i < es'.length → GoodE M cs Lq es' i) : (es.filter hotE).map (·.1) = (es'.filter hotE).map (·.1) := by
  induction Lq generalizing es es' with
  | nil =>
    cases es with
    | nil => cases es' with
      | nil => rfl
      | cons => cases l'
    | cons => cases l
  | cons q Lq ih =>
    cases es with
    | nil => cases l
    | cons e es => cases es' with
      | nil => cases l'
      | cons e' es' =>
        have i1 := ih (es := es) (es' := es') (Nat.succ.inj l) (Nat.succ.inj l') (fun i hi => by
          obtain ⟨x, a, b, c⟩ := g (i + 1) (Nat.succ_lt_succ hi)
          exact ⟨x, a, b, c⟩) (fun i hi => by
          obtain ⟨x, a, b, c⟩ := g' (i + 1) (Nat.succ_lt_succ hi)
          exact ⟨x, a, b, c⟩)
        obtain ⟨x, a, b, c⟩ := g 0 (Nat.succ_pos _)
        obtain ⟨x', a', b', c'⟩ := g' 0 (Nat.succ_pos _)
        cases a
        cases a'
        obtain ⟨q1, p1⟩ := e
        obtain ⟨q2, p2⟩ := e'
        cases b
        cases b'
        have hh := hot_one c c'
        rw [List.filter_cons, List.filter_cons, hh]
        split
        · rw [List.map_cons, List.map_cons, i1]
        · exact i1
def nr30 (s : S4) : Bool := decide (-30 < s.1.1 - s.2.1 ∧ s.1.1 - s.2.1 < 30 ∧ -30 < s.1.2 - s.2.2 ∧ s.1.2 - s.2.2 < 30)
def Nr30 (s : S4) : Prop := -30 < s.1.1 - s.2.1 ∧ s.1.1 - s.2.1 < 30 ∧ -30 < s.1.2 - s.2.2 ∧ s.1.2 - s.2.2 < 30
abbrev s_law : Stmt := top 68
theorem sc_law : FnScope ["_law_script", "_law_bag_here", "_law_strokes_here", "_law_stroke_here", "_law_heap", "_law_name", "_law_squares_of", "_law_told", "_law_turn", "_law_some", "_law_bend", "_law_handed", "_law_due_here"] ["_law_script"] (defScope s_law) := ⟨rfl, rfl, rfl, by decide +kernel, rfl, by decide +kernel, by decide +kernel⟩
theorem ok_law (B : Blt mg) (c_bag : Cal P w K mg base 1 "_law_bag" ["_law_script"] (spBag K)) (c_pull : Cal P w K mg base 1 "_law_pull" ["_law_bag_here", "_law_amount"] spPull) (c_of : Cal P w K mg base 2 "_law_of" ["_law_bag_here", "_law_things"] spOf) (c_names : Cal P w K mg base 2 "_law_names" ["_law_bag_here"] spNames) (c_like : Cal P w K mg base 2 "_law_like" ["_law_found", "_law_due_here"] (spLike 1)) (c_strokes : Cal P w K mg base 5 "_law_strokes" ["_law_bag_here", "_law_many"] spMany0) (c_squares : Cal P w K mg base 4 "_law_squares" ["_law_stroke_here"] spLSq) (c_spoilt : Cal P w K mg base 6 "_law_spoilt" ["_law_bag_here", "_law_heap", "_law_told"] spSpoilt) (c_due : Cal P w K mg base 7 "_law_due" ["_law_heap", "_law_squares_of", "_law_told"] spDue)
    (c_bend_paper : Cal P w K mg base 8 "bend_paper" ["heap", "name"] spBendP) (c_judge_bend : Cal P w K mg base 9 "judge_bend" ["heap", "name", "rows"] spJudgeB) (c_row_shown : Cal P w K mg base 1 "row_shown" ["rows"] spShown) (F : Fun K "law" "law" s_law f fd) : FnOk P w K mg base CX0 10 f fd ["_law_script"] (spLaw K) := by
  refine F.ok sc_law (fun vs H Q E h => ?_) (fun cdv A outer s H vs Q E hr h => ?_)
  · obtain ⟨a, ns, rfl, _⟩ := h
    rfl
  obtain ⟨a, ns, rfl, hS, h63, q⟩ := h
  refine ⟨_, (pss_cons (ps_set (i := 1) sc_law.nd rfl (Or.inl rfl) (pe_cal c_bag hr (pa_cons (pv 0) pa_nil)))
    (pss_cons (ps_setLc (i := 2) (own := [("_law_stroke_here", 3)]) (g := gName 3) (tt := _) rfl sc_law.nd rfl rfl (sw_true rfl rfl rfl (by decide +kernel)) (pi_list (pe_cal c_strokes hr (pa_cons (pv 1) (pa_cons (pe_op op_add pe_int (pe_cal c_pull hr (pa_cons (pv 1) (pa_cons pe_int pa_nil)))) pa_nil)))) (blkOk_by (own := [("_law_stroke_here", 3)]) (N := ["_law_script", "_law_bag_here", "_law_strokes_here", "_law_stroke_here", "_law_heap", "_law_name", "_law_squares_of", "_law_told", "_law_turn", "_law_some", "_law_bend", "_law_handed", "_law_due_here"]) (sc := defScope s_law) (by decide +kernel)) (fun _ _ _ _ _ => pg_name (i := 3) sc_law.nd rfl (Or.inl rfl)) (fun _ _ _ _ _ => (pts_one (PW.pt (pw_and (pt_cmpR op_lt (pe_callB call_abs rfl B.abs bt_abs (pa_cons (pe_op op_sub (pe_ix (r := rIxT K) ix_tup (pv 3) pe_int (fun _ _ => rfl)) (pe_ix (r := rIxT K) ix_tup (pv 3) pe_int (fun _ _ => rfl))) pa_nil)) pe_int (nomark _)) (pw_and1 (pt_cmpR op_lt (pe_callB call_abs rfl B.abs bt_abs (pa_cons (pe_op op_sub (pe_ix (r := rIxT K) ix_tup (pv 3) pe_int (fun _ _ => rfl)) (pe_ix (r := rIxT K) ix_tup (pv 3) pe_int (fun _ _ => rfl))) pa_nil)) pe_int (nomark _))))))) (fun _ _ _ _ _ => (pv 3)))
    (pss_cons (ps_set (i := 4) sc_law.nd rfl (Or.inl rfl) (pe_callTy (call_dictP rfl) rfl B.dict bt_dict (pa_cons (pe_listZip rfl rfl B.list rfl B.zip (pa_cons (pe_cal c_names hr (pa_cons (pv 1) pa_nil)) (pa_cons (pe_op op_cat (pv 2) (pe_lst (pa_cons (pe_tup (pa_cons pe_int (pa_cons pe_int (pa_cons pe_int (pa_cons pe_int pa_nil))))) pa_nil))) pa_nil))) pa_nil)))
    (pss_cons (ps_set (i := 5) sc_law.nd rfl (Or.inl rfl) (pe_cal c_of hr (pa_cons (pv 1) (pa_cons (pe_callB (call_sortedD rfl) rfl B.sorted bt_sorted (pa_cons (pv 4) pa_nil)) pa_nil))))
    (pss_cons (ps_set (i := 6) sc_law.nd rfl (Or.inl rfl) (pe_cal c_squares hr (pa_cons (pe_dget (hu_of hr) (pv 4) (pv 5) (fun _ _ => rfl)) pa_nil)))
    (pss_cons (ps_set (i := 7) sc_law.nd rfl (Or.inl rfl) (pe_cal c_bend_paper hr (pa_cons (pv 4) (pa_cons (pv 5) pa_nil))))
    (pss_cons (ps_for PassesOwn.never rfl (pi_range1 rfl B.range (pa_cons pe_int pa_nil)) (pg_name (i := 8) sc_law.nd rfl (Or.inl rfl))
    (pss_cons (ps_set (i := 9) sc_law.nd rfl (Or.inl rfl) (pe_callTy call_list_of rfl B.list bt_list (pa_cons (pv 7) pa_nil)))
    (pss_cons (ps_for PassesOwn.never rfl (pi_range1 rfl B.range (pa_cons (pe_cal c_pull hr (pa_cons (pv 1) (pa_cons pe_int pa_nil))) pa_nil)) (pg_name (i := 10) sc_law.nd rfl (Or.inl rfl))
    (pss_one (ps_set (i := 9) sc_law.nd rfl (Or.inl rfl) (pe_cal c_spoilt hr (pa_cons (pv 1) (pa_cons (pv 4) (pa_cons (pv 9) pa_nil)))))))
    (pss_cons (ps_par (i := 11) (j := 12) (by rfl) sc_law.nd rfl rfl (by decide) rfl rfl (pa_cons (pe_cal c_of hr (pa_cons (pv 1) (pa_cons (pe_lst (pa_cons (pe_callTy call_list_of rfl B.list bt_list (pa_cons (pv 9) pa_nil)) (pa_cons (pe_callTy call_tuple_of rfl B.tuple bt_tuple (pa_cons (pv 9) pa_nil)) pa_nil))) pa_nil))) (pa_cons (pe_cal c_due hr (pa_cons (pv 4) (pa_cons (pv 6) (pa_cons (pv 9) pa_nil)))) pa_nil)) (by rfl))
    (pss_cons (ps_if (PW.pt (pw_or (pt_not (pt_val (pe_cal c_like hr (pa_cons (pe_cal c_judge_bend hr (pa_cons (pv 4) (pa_cons (pv 5) (pa_cons (pv 11) pa_nil)))) (pa_cons (pv 12) pa_nil))))) (pw_or1 (pt_cmpR (op_neD hr.units) (pe_callTy call_list_of rfl B.list bt_list (pa_cons (pv 11) pa_nil)) (pv 9) (nomark _)))))
    (pss_one (ps_ret pe_bl))
    pss_nil)
    (pss_one (ps_if (PW.pt (pw_and (pt_cmpR op_isN (pv 12) pe_non (nomark _)) (pw_and1 (pt_cmpR (op_neD hr.units) (pe_cal c_row_shown hr (pa_cons (pv 9) pa_nil)) (pe_cal c_row_shown hr (pa_cons (pv 7) pa_nil)) (nomark _)))))
    (pss_one (ps_ret pe_bl))
    pss_nil)))))))
    (pss_one (ps_ret (pe_cal c_like hr (pa_cons (pe_cal c_judge_bend hr (pa_cons (pv 4) (pa_cons (pv 5) (pa_cons (pe_lst pa_nil) pa_nil)))) (pa_cons pe_int pa_nil)))))))))))), ?_⟩
  refine ⟨_, rfl, a, ns, rfl, hS, h63, fun b l H1 sm1 nb nl hB => ?_⟩
  dsimp only [gName, tNext, List.set]
  refine seq_with (fun σ' J => ∃ (D : Addr) (c3 : Option V) (T : List S4), σ' = [some (.ref a), some (.ref b), some (.ref D), c3, none, none, none, none, none, none, none, none, none] ∧ BagAt J b l ∧ D ≠ b ∧ LstOf StkV J D T ∧ T.length ≤ 5 ∧ ∀ s ∈ T, Nr30 s) (fun R hR => ?_) ?_
  · refine ⟨_, rfl, _, rfl, b, _, _, rfl, hB, by decide, by decide, fun r H2 hB2 bt2 r0 r1 => ?_⟩
    obtain ⟨j, rfl⟩ := Int.eq_ofNat_of_zero_le r0
    refine ⟨_, _, rfl, rfl, b, _, 1 + j, ?_, hB2, by omega, fun pl H3 T hB3 bt3 npl plb pll cz lT => ?_⟩
    · have : ((1 + j : Nat) : Int) = 1 + (j : Int) := by omega
      rw [this]
      rfl
    obtain ⟨bs, h1, h2, h3⟩ := cz
    refine ⟨pl, rfl, ⟨_, SqL.of h1⟩, fun D nD => ?_⟩
    refine lc_any (.l (K := K) (a := pl) (xs := bs.map (·.1))) (fun i J => Same H3 J ∧ LstOf StkV J D ((T.take i).filter nr30)) ?_ ?_ ?_ ?_
    · exact ⟨same_new nD _, [], upd_same, (fun c hc => by cases hc), rfl⟩
    · rintro i J _ ⟨e, _⟩
      exact e _ _ h1
    · rintro i v J hv ⟨e, cz⟩
      obtain ⟨bb, hbb, rfl⟩ : ∃ bb, bs[i]? = some bb ∧ bb.1 = v := by
        rw [List.getElem?_map] at hv
        cases em : bs[i]? with
        | none => rw [em] at hv; cases hv
        | some bb => rw [em] at hv; exact ⟨bb, rfl, Option.some.inj hv⟩
      have hTi : T[i]? = some bb.2 := by rw [← h3, List.getElem?_map, hbb]; rfl
      obtain ⟨p, ep, hp⟩ := StkV.keep' _ _ _ _ (h2 bb (List.mem_of_getElem? hbb)) (.of e)
      obtain ⟨bv, sb⟩ := bb
      dsimp only at ep hp hTi ⊢
      subst ep
      have hp1 := hp.1
      refine ⟨rfl, ?_⟩
      have fT := take_snoc hTi
      have no : nr30 sb = false → Same H3 J ∧ LstOf StkV J D ((T.take (i + 1)).filter nr30) := fun z => by
        refine ⟨e, ?_⟩
        rw [fT, List.filter_append, show List.filter nr30 [sb] = [] from List.filter_cons_of_neg (by rw [z]; decide), List.append_nil]
        exact cz
      refine ⟨_, rfl, p, _, _, _, rfl, rfl, SqT.of hp1, rfl, _, rfl, p, _, _, _, rfl, rfl, SqT.of hp1, rfl, _, _, rfl, rfl, _, rfl, _, _, rfl, rfl, _, rfl, ?_⟩
      by_cases c1 : (if sb.1.1 - sb.2.1 < 0 then -(sb.1.1 - sb.2.1) else sb.1.1 - sb.2.1) < 30
      · refine iteDT c1 ⟨_, rfl, p, _, _, _, rfl, rfl, SqT.of hp1, rfl, _, rfl, p, _, _, _, rfl, rfl, SqT.of hp1, rfl, _, _, rfl, rfl, _, rfl, _, _, rfl, rfl, _, rfl, ?_⟩
        by_cases c2 : (if sb.1.2 - sb.2.2 < 0 then -(sb.1.2 - sb.2.2) else sb.1.2 - sb.2.2) < 30
        · refine iteDT c2 ⟨_, rfl, ?_⟩
          obtain ⟨ms, m1, m2, m3⟩ := cz
          have lm : ms.length ≤ 5 := by
            have z := congrArg List.length m3
            have := List.length_filter_le nr30 (T.take i)
            rw [List.length_take] at this
            rw [List.length_map] at z
            omega
          have kl := KeepT.lst (o := .lst (ms.map (·.1) ++ [.ref p])) m1
          refine ⟨_, m1, by rw [List.length_map]; exact Nat.lt_of_lt_of_le (by omega : ms.length < 100000) (sz (Nat.le_refl _)), fun c o z => ?_, ms ++ [(.ref p, sb)], ?_, fun c hc => ?_, ?_⟩
          · rw [upd_ne (ne_of_none z nD)]
            exact e _ _ z
          · rw [upd_same, List.map_append]
            rfl
          · rcases List.mem_append.mp hc with z | z
            · exact StkV.keep' _ _ _ _ (m2 c z) kl
            · rw [List.mem_singleton.mp z]
              exact ⟨p, rfl, kl _ _ hp.1, hp.2⟩
          · have : nr30 sb = true := by
              apply decide_eq_true
              split at c1 <;> split at c2 <;> omega
            rw [List.map_append, m3, fT, List.filter_append, show List.filter nr30 [sb] = [sb] from List.filter_cons_of_pos this]
            rfl
        · refine iteDF c2 (no (decide_eq_false fun z => c2 ?_))
          split <;> omega
      · refine iteDF c1 (iteF (no (decide_eq_false fun z => c1 ?_)))
        split <;> omega
    · rintro J ⟨e, cz⟩
      rw [List.length_map, show bs.length = T.length by rw [← h3, List.length_map], List.take_length] at cz
      have lf := List.length_filter_le nr30 T
      exact hR _ _ ⟨D, _, _, rfl, hB3.same e, (hB3.new nD).1, cz, by omega, fun s hs => by have z := (List.mem_filter.mp hs).2; unfold nr30 at z; have z' := of_decide_eq_true z; exact z'⟩
  rintro _ H2 ⟨D, c3, T, rfl, hB2, Db, cz2, lT, nrT⟩
  refine seq_with (fun σ' J => ∃ (d : Addr) (Lh : List (Str × S4)), σ' = [some (.ref a), some (.ref b), some (.ref D), c3, some (.ref d), none, none, none, none, none, none, none, none] ∧ BagAt J b l ∧ d ≠ b ∧ HeapAt J d Lh ∧ 1 ≤ Lh.length ∧ Lh.length ≤ 6 ∧ ∀ s ∈ Lh, Nr30 s.2) (fun R hR => ?_) ?_
  · refine ⟨_, rfl, b, _, rfl, hB2, fun pn H3 ys hB3 bt3 npn pnb hpn nd l16 nm => ?_⟩
    obtain ⟨bs, h1, h2, h3⟩ := cz2.keep StkV.keep' (KeepT.but hB2 bt3) fun xs z => bt3 _ _ Db z
    have lb : bs.length = T.length := by rw [← h3, List.length_map]
    refine ⟨_, rfl, sz (by decide : 4 ≤ 100000), fun pt npt => ⟨sz (by decide : 1 ≤ 100000), fun po npo => ?_⟩⟩
    have gt := same_new npt (.tup [.int 0, .int 0, .int 3, .int 1])
    have go := same_new npo (.lst [.ref pt])
    have hB4 := (hB3.same gt).same go
    have hD4 := go _ _ (gt _ _ h1)
    have hn4 := go _ _ (gt _ _ hpn)
    have hst : StkV (upd (upd H3 pt (.tup [.int 0, .int 0, .int 3, .int 1])) po (.lst [.ref pt])) (.ref pt) ((0, 0), (3, 1)) := ⟨pt, rfl, go _ _ upd_same, by decide, by decide⟩
    have h24 : ∀ b ∈ bs, StkV (upd (upd H3 pt (.tup [.int 0, .int 0, .int 3, .int 1])) po (.lst [.ref pt])) b.1 b.2 := fun b hb => StkV.keep' _ _ _ _ (h2 b hb) (.of (gt.trans go))
    have ho : upd (upd H3 pt (.tup [.int 0, .int 0, .int 3, .int 1])) po (.lst [.ref pt]) po = some (.lst [.ref pt]) := upd_same
    generalize upd (upd H3 pt (.tup [.int 0, .int 0, .int 3, .int 1])) po (.lst [.ref pt]) = H4 at *
    refine ⟨D, po, _, _, rfl, rfl, hD4, ho, ?_, fun pz npz => ?_⟩
    · rw [List.length_map]
      exact Nat.le_trans (by omega : bs.length + 1 ≤ 100000) (sz (Nat.le_refl _))
    have em : bs.map (·.1) ++ [V.ref pt] = (bs ++ [(V.ref pt, (((0, 0), (3, 1)) : S4))]).map (·.1) := by rw [List.map_append]; rfl
    rw [em]
    have g5 := same_new npz (.lst ((bs ++ [(V.ref pt, (((0, 0), (3, 1)) : S4))]).map (·.1)))
    refine ⟨pn, pz, _, _, rfl, SqL.of (g5 _ _ hn4), SqL.of upd_same, fun H6 p6 ts s6 n6 nts hp6 pa => ⟨p6, ts, _, rfl, SqL.of hp6, zipped pa, fun d nd' => ?_⟩⟩
    have g6 := same_new nd' (.dK (mergeK [] (kvOf ys (bs ++ [(V.ref pt, (((0, 0), (3, 1)) : S4))]))))
    have hB6 := (hB4.same g5).same s6
    have hp := heaped (d := d) (H := H6) (bs := bs ++ [(V.ref pt, (((0, 0), (3, 1)) : S4))]) (fun c hc => by
      refine StkV.keep' _ _ _ _ ?_ (.of (g5.trans s6))
      rcases List.mem_append.mp hc with z | z
      · exact h24 c z
      · rw [List.mem_singleton.mp z]; exact hst) nd l16 nm nd'
    refine hR _ _ ⟨d, _, rfl, hB6.same g6, (hB6.new nd').1, hp, ?_, ?_, fun s hs => ?_⟩
    · rw [List.length_zip, List.length_map, List.length_append, List.length_singleton]
      omega
    · rw [List.length_zip, List.length_map, List.length_append, List.length_singleton]
      omega
    · have z := (List.of_mem_zip (a := s.1) (b := s.2) hs).2
      rw [List.map_append, h3] at z
      rcases List.mem_append.mp z with y | y
      · exact nrT _ y
      · have e0 : s.2 = (((0, 0), (3, 1)) : S4) := List.mem_singleton.mp y
        rw [e0]
        exact ⟨by decide, by decide, by decide, by decide⟩
  rintro _ H3 ⟨d, Lh, rfl, hB3, db, hH3, l1, l6, nrL⟩
  obtain ⟨bH, hd3, kvH, eL⟩ := id hH3.at'
  have lbH : bH.length = Lh.length := by rw [← eL, List.length_map]
  refine ⟨_, rfl, _, rfl, d, bH.map (·.1), Lh.map (·.1), rfl, .inl hd3, ?_, ?_, fun ys po pm so npo => ?_⟩
  · rw [← eL, List.map_map, List.map_map, List.map_map]
    exact List.map_congr_left fun b hb => (kvH b hb).1
  · rw [List.length_map]; omega
  have g4 := same_new npo (.lst (ys.map V.str))
  have lys : ys.length = Lh.length := by rw [pm.length_eq, List.length_map]
  refine ⟨b, _, po, _, rfl, hB3.same g4, upd_same, (hB3.new npo).1, by rw [List.length_map]; omega, by rw [List.length_map]; omega, fun v H4 hB4 bt4 hv => ?_⟩
  obtain ⟨nm, hnm, rfl⟩ := List.mem_map.mp hv
  obtain ⟨p, hp, rfl⟩ := List.mem_map.mp (pm.mem_iff.mp hnm)
  have hH4 : HeapAt H4 d Lh := (hH3.same g4).keep (KeepT.but (hB3.same g4) bt4) fun kvs z => bt4 _ _ db z
  dsimp only [gName, tNext, List.set]
  obtain ⟨vp, gp, pa, rfl, ka⟩ := hH4.get hp
  refine ⟨_, rfl, _, rfl, d, .ref pa, rfl, gp, pa, _, _, _, _, rfl, ka, nrL p hp, fun rq H5 xs Lq' s5 n5 hq pq row' => ?_⟩
  dsimp only [gName, tNext, List.set]
  have hH5 := hH4.same s5
  have hB5 := hB4.same s5
  refine ⟨_, rfl, _, rfl, d, p, Lh, rfl, hH5, hp, fun rt H6 cs M Lq s6 n6 all so row czt => ?_⟩
  obtain rfl := RowOf.one (Row.of.mp row) (Row.of.mp row') fun _ => .rfl
  have okp := hH3.ok p hp
  have lq : Lq.length ≤ 161 := row_len (Row.of.mp row) (by have := okp.1; omega)
  have lq1 : 1 ≤ Lq.length := by
    have : (p.2.1.1, p.2.1.2) ∈ Lq := (row.1 _).mpr (thr_first ..)
    exact List.length_pos_of_mem this
  have hH6 := hH5.same s6
  have hB6 := hB5.same s6
  have rtb := (hB5.new n6).1
  have rqb := (hB4.new n5).1
  have hq6 := s6 _ _ hq
  have pq6 := pq.same s6
  dsimp only [gName, tNext, List.set]
  refine seq_with (fun σ' J => (∃ c8 c9 c10 c11 c12, σ' = [some (.ref a), some (.ref b), some (.ref D), c3, some (.ref d), some (.str p.1), some (.ref rq), some (.ref rt), c8, c9, c10, c11, c12]) ∧ BagAt J b l ∧ But b H6 J) (fun R hR => ?_) ?_
  · refine ⟨4, rfl, by decide, by decide, for_range (lo := 0) (n := (4 : Int).toNat) (fun _ σ J => (∃ c8 c9 c10 c11 c12, σ = [some (.ref a), some (.ref b), some (.ref D), c3, some (.ref d), some (.str p.1), some (.ref rq), some (.ref rt), c8, c9, c10, c11, c12]) ∧ BagAt J b l ∧ But b H6 J) ⟨⟨_, _, _, _, _, rfl⟩, hB6, But.refl⟩ ?_ ?_⟩
    · rintro i σ J hi ⟨⟨c8, c9, c10, c11, c12, rfl⟩, hBJ, btJ⟩
      dsimp only [gName, tNext, List.set]
      have ktJ := KeepT.but hB6 btJ
      obtain ⟨ts, t1, t2, t3⟩ := czt.keep EnV.keep' ktJ fun xs z => btJ _ _ rtb z
      have lts : ts.length = Lq.length := by rw [← List.length_map (f := (·.2)), t3, List.length_map]
      refine ⟨_, rfl, rt, _, rfl, .inl (SqL.of t1), fun ps nps => ?_⟩
      have g1 := same_new nps (.lst (ts.map (·.1)))
      have psb := (hBJ.new nps).1
      have hBJ1 := hBJ.same g1
      have cz1 : LstOf EnV (upd J ps (.lst (ts.map (·.1)))) ps (ts.map (·.2)) := ⟨ts, upd_same, fun b hb => EnV.keep' _ _ _ _ (t2 b hb) (.of g1), rfl⟩
      have bt1 := btJ.trans (But.of (b := b) g1)
      generalize upd J ps (.lst (ts.map (·.1))) = J1 at *
      dsimp only [gName, tNext, List.set]
      refine seq_with (fun σ' J' => (∃ c10 r es, σ' = [some (.ref a), some (.ref b), some (.ref D), c3, some (.ref d), some (.str p.1), some (.ref rq), some (.ref rt), some (.int (0 + (i : Int))), some (.ref r), c10, c11, c12] ∧ r ≠ b ∧ LstOf EnV J' r es ∧ 1 ≤ es.length ∧ es.length ≤ 200) ∧ BagAt J' b l ∧ But b H6 J') (fun R2 hR2 => ?_) ?_
      · refine ⟨_, rfl, b, _, _, rfl, hBJ1, by decide, by decide, fun m J2 hB2 bt2 m0 m1 => ?_⟩
        refine ⟨m, rfl, by omega, by omega, for_range (lo := 0) (n := m.toNat) (fun i' σ J' => (∃ c10 r es, σ = [some (.ref a), some (.ref b), some (.ref D), c3, some (.ref d), some (.str p.1), some (.ref rq), some (.ref rt), some (.int (0 + (i : Int))), some (.ref r), c10, c11, c12] ∧ r ≠ b ∧ LstOf EnV J' r es ∧ 1 ≤ es.length ∧ es.length ≤ Lq.length + i') ∧ BagAt J' b l ∧ But b H6 J') ?_ ?_ ?_⟩
        · exact ⟨⟨_, _, _, rfl, psb, cz1.keep EnV.keep' (KeepT.but hBJ1 bt2) (fun xs z => bt2 _ _ psb z), by rw [List.length_map]; omega, by rw [List.length_map]; omega⟩, hB2, bt1.trans bt2⟩
        · rintro i' σ J3 hi' ⟨⟨c10, r, es, rfl, rb, cz3, e1, e2⟩, hB3', bt3⟩
          dsimp only [gName, tNext, List.set]
          have hHJ := hH6.keep (KeepT.but hB6 bt3) fun kvs z => bt3 _ _ db z
          refine ⟨_, rfl, _, rfl, _, rfl, b, _, d, r, Lh, es, rfl, hB3', db, hHJ, rb, cz3, e1, by omega, fun r' J4 es' hB4' bt4' rb' cz4 e1' e2' => ?_⟩
          exact ⟨⟨_, _, _, rfl, rb', cz4, e1', by omega⟩, hB4', bt3.trans bt4'⟩
        · rintro σ J3 ⟨⟨c10, r, es, rfl, rb, cz3, e1, e2⟩, hB3', bt3⟩
          exact hR2 _ _ ⟨⟨_, _, _, rfl, rb, cz3, e1, by omega⟩, hB3', bt3⟩
      rintro _ J2 ⟨⟨c10', r, es, rfl, rb, cz2', e1, e2⟩, hB2', bt2⟩
      obtain ⟨bs, b1, b2, b3⟩ := id cz2'
      have lbs : bs.length = es.length := by rw [← b3, List.length_map]
      refine seq_with (fun σ' J' => (∃ h o v, σ' = [some (.ref a), some (.ref b), some (.ref D), c3, some (.ref d), some (.str p.1), some (.ref rq), some (.ref rt), some (.int (0 + (i : Int))), some (.ref r), c10', some (.ref h), some v] ∧ SeqO (bs.map (·.1)) o ∧ J' h = some o ∧ ∀ cs M, AllCz Lh cs → SrtOf Lh M → DueIs M cs Lq es v) ∧ BagAt J' b l ∧ But b J2 J') (fun R2 hR2 => ?_) ?_
      · refine ⟨_, rfl, _, rfl, r, _, rfl, .inl (SqL.of b1), fun p1 n1 => ?_⟩
        have k1 := same_new n1 (.lst (bs.map (·.1)))
        refine ⟨_, rfl, r, _, rfl, .inl ⟨SqL.of (k1 _ _ b1), fun p2 n2 => ⟨sz (by decide : 2 ≤ 100000), fun p3 n3 => ?_⟩⟩⟩
        have k2 := same_new n2 (.tup (bs.map (·.1)))
        have k3 := same_new n3 (.lst [.ref p1, .ref p2])
        have kk := (k1.trans k2).trans k3
        have o1 := k3 _ _ (k2 _ _ (upd_same (H := J2) (a := p1) (o := .lst (bs.map (·.1)))))
        have o2 := k3 _ _ (upd_same (H := upd J2 p1 (.lst (bs.map (·.1)))) (a := p2) (o := .tup (bs.map (·.1))))
        have p1b := (hB2'.new n1).1
        have p2b := ((hB2'.same k1).new n2).1
        have hB3' := hB2'.same kk
        refine ⟨b, _, p3, _, rfl, hB3', upd_same, (((hB2'.same k1).same k2).new n3).1, Nat.zero_lt_succ _, Nat.le_of_lt_succ (Nat.lt_of_lt_of_le (by decide : 2 < 3) (by decide)), fun v J4 hB4' bt4' hv => ?_⟩
        have bt24 := (But.of (b := b) kk).trans bt4'
        have hd : ∃ h o, v = .ref h ∧ SeqO (bs.map (·.1)) o ∧ J4 h = some o := by
          rcases List.mem_cons.mp hv with z | z
          · exact ⟨p1, _, z, .inl rfl, bt4' _ _ p1b o1⟩
          · exact ⟨p2, _, List.mem_singleton.mp z, .inr rfl, bt4' _ _ p2b o2⟩
        obtain ⟨h, o, rfl, so', ho⟩ := hd
        have btA := bt2.trans bt24
        have ktA := KeepT.but hB6 btA
        refine ⟨_, rfl, _, rfl, _, rfl, d, rq, r, p, Lh, xs, Lq, es, rfl, hH6.keep ktA (fun kvs z => btA _ _ db z), hp, btA _ _ rqb hq6, pq6.keepT ktA, row, cz2'.keep EnV.keep' (KeepT.but hB2' bt24) (fun xs z => bt24 _ _ rb z), by omega, fun v J5 s5' due => ?_⟩
        exact ⟨_, _, rfl, hR2 _ _ ⟨⟨h, o, v, rfl, so', s5' _ _ ho, due⟩, hB4'.same s5', bt24.trans (.of s5')⟩⟩
      rintro _ J4 ⟨⟨h, o, v, rfl, so', ho, due⟩, hB4', bt4'⟩
      have btA := bt2.trans bt4'
      have ktA := KeepT.but hB6 btA
      have kt4 := KeepT.but hB2' bt4'
      have b14 := bt4' _ _ rb b1
      have b24 : ∀ b ∈ bs, EnV J4 b.1 b.2 := fun b hb => EnV.keep' _ _ _ _ (b2 b hb) kt4
      have hHA := hH6.keep ktA fun kvs z => btA _ _ db z
      have due0 := due cs M all so
      refine seq_with (fun σ' J' => σ' = [some (.ref a), some (.ref b), some (.ref D), c3, some (.ref d), some (.str p.1), some (.ref rq), some (.ref rt), some (.int (0 + (i : Int))), some (.ref r), c10', some (.ref h), some v] ∧ Same J4 J') (fun R2 hR2 => ?_) ?_
      · refine ⟨_, rfl, _, rfl, _, rfl, d, h, p, Lh, bs, o, rfl, hHA, hp, so', ho, b24, by omega, fun v' J5 s5' due' => ?_⟩
        have ev : v' = v := (due' cs M Lq all so row).one (by rw [b3]; exact due0)
        subst ev
        have sv : scl v' = true := by
          rcases due0 with ⟨i, _, _, _, rfl⟩ | ⟨_, rfl⟩
          · rfl
          · split <;> rfl
        refine ⟨_, rfl, _, _, rfl, Alike.of_eq rfl sv, fun J6 s6' => ⟨_, rfl, iteF ?_⟩⟩
        have e6 := s5'.trans s6'
        have fin : (SqL K J6 h (bs.map (·.1)) ∨ SqT K J6 h (bs.map (·.1))) := by
          rcases so' with z | z
          · subst z; exact .inl (SqL.of (e6 _ _ ho))
          · subst z; exact .inr (SqT.of (e6 _ _ ho))
        refine ⟨_, rfl, h, _, rfl, fin, fun p4 n4 => ?_⟩
        have g4 := same_new n4 (.lst (bs.map (·.1)))
        have b26 : ∀ c ∈ bs, EnV (upd J6 p4 (.lst (bs.map (·.1)))) c.1 c.2 := fun c hc => EnV.keep' _ _ _ _ (b24 c hc) (.of (e6.trans g4))
        refine ⟨_, rfl, _, _, dp_ens upd_same b26, dp_ens (g4 _ _ (e6 _ _ b14)) b26, ens_shaped b26, ens_shaped b26, _, rfl, ?_⟩
        rw [ens_eqv]
        exact iteF (hR2 _ _ ⟨rfl, e6.trans g4⟩)
      rintro _ J5 ⟨rfl, s5'⟩
      have hB5' := hB4'.same s5'
      have btB := btA.trans (But.of (b := b) s5')
      have czr := cz2'.keep EnV.keep' (kt4.trans (.of s5')) fun xs z => s5' _ _ (bt4' _ _ rb z)
      have czt5 := czt.keep EnV.keep' (KeepT.but hB6 btB) fun xs z => btB _ _ rtb z
      by_cases cv : v = .non
      · refine ⟨_, rfl, rfl, _, rfl, iteDT cv ?_⟩
        refine ⟨_, rfl, r, es, rfl, czr, by omega, fun q1 J6 ys1 s6' hy1 py1 => ?_⟩
        refine ⟨_, rfl, rt, _, rfl, czt5.keep EnV.keep' (.of s6') (fun xs z => s6' _ _ z), by rw [List.length_map]; omega, fun q2 J7 ys2 s7' hy2 py2 => ?_⟩
        refine ⟨_, _, dp_prs (s7' _ _ hy1) (py1.same s7'), dp_prs hy2 py2, shaped_prs _, shaped_prs _, _, rfl, ?_⟩
        have es_same : (es.filter hotE).map (·.1) = ((Lq.map fun q => (q, lastP M cs q)).filter hotE).map (·.1) := by
          rcases due0 with ⟨i, _, _, _, z⟩ | ⟨g, z⟩
          · rw [cv] at z; cases z
          · have le : es.length ≤ Lq.length := by
              rcases Nat.lt_or_ge Lq.length es.length with y | y
              · obtain ⟨x, _, hx, _⟩ := g Lq.length y
                have := (List.getElem?_eq_some_iff.mp hx).1
                omega
              · exact y
            have ge : ¬ es.length < Lq.length := fun y => by
              rw [cv, if_pos y] at z
              cases z
            refine hots_same (by omega) (List.length_map ..) g fun j hj => ?_
            rw [List.length_map] at hj
            exact ⟨(Lq[j], lastP M cs Lq[j]), by rw [List.getElem?_map, List.getElem?_eq_getElem hj]; rfl, List.getElem?_eq_getElem hj, last_right all⟩
        rw [es_same, eqv_prs, decide_eq_true rfl]
        refine iteF ⟨⟨_, _, _, _, _, rfl⟩, (hB5'.same s6').same s7', btB.trans (.of (s6'.trans s7'))⟩
      · refine ⟨_, rfl, rfl, _, rfl, iteDF cv (iteF ⟨⟨_, _, _, _, _, rfl⟩, hB5', btB⟩)⟩
    · rintro σ J ⟨⟨c8, c9, c10, c11, c12, rfl⟩, hBJ, btJ⟩
      exact hR _ _ ⟨⟨_, _, _, _, _, rfl⟩, hBJ, btJ⟩
  rintro _ J ⟨⟨c8, c9, c10, c11, c12, rfl⟩, hBJ, btJ⟩
  refine ⟨_, rfl, _, rfl, sz (by decide : 0 ≤ 100000), fun p0 n0 => ?_⟩
  have g0 := same_new n0 (.lst [])
  refine ⟨d, p0, p, Lh, [], .lst [], rfl, (hH6.keep (KeepT.but hB6 btJ) fun kvs z => btJ _ _ db z).same g0, hp, .inl rfl, upd_same, (fun c hc => by cases hc), by decide, fun v J1 s1 due => ?_⟩
  have ev : v = .int 0 := (due cs M Lq all so row).one (.inr ⟨fun i hi => absurd hi (Nat.not_lt_zero i), by show V.int 0 = if ([] : List Ent).length < Lq.length then V.int 0 else V.non; rw [if_pos (show ([] : List Ent).length < Lq.length by exact lq1)]⟩)
  refine ⟨_, _, rfl, Alike.of_eq ev (by rw [ev]; rfl), fun J2 s2 => ?_⟩
  exact q _
end
end DM

namespace DM
open PySem L2
theorem all_mk {l : PySem.W.OpenLaw} {w : World} {K : PySem.W.Frag} {h : Heap} {mg : Str → Option Value} {fa f1 f2 f3 f4 f5 f6 f7 f8 f9 f10 f11 f12 f13 f14 f15 f16 f17 f18 f19 f20 f21 f22 f23 f24 f25 f26 f27 f28 f29 f30 f31 f32 f33 f34 f35 f36 f37 f38 f39 f40 f41 f42 f43 f44 f45 f46 f47 f48 f49 f50 f51 f52 f53 f54 f55 f56 f57 f58 : Addr} (X : K.In h) (G : h.Ns mainGlobals mg) (hfa : mg "law" = some (.ref fa))
    {od1 an1 od2 an2 od3 an3 od4 an4 od5 an5 od6 an6 od7 an7 od8 an8 od9 an9 od10 an10 od11 an11 od12 an12 od13 an13 od14 an14 od15 an15 od16 an16 od17 an17 od18 an18 od19 an19 od20 an20 od21 an21 od22 an22 od23 an23 od24 an24 od25 an25 od26 an26 od27 an27 od28 an28 od29 an29 od30 an30 od31 an31 od32 an32 od33 an33 od34 an34 od35 an35 od36 an36 od37 an37 od38 an38 od39 an39 od40 an40 od41 an41 od42 an42 od43 an43 od44 an44 od45 an45 od46 an46 od47 an47 od48 an48 od49 an49 od50 an50 od51 an51 od52 an52 od53 an53 od54 an54 od55 an55 od56 an56 od57 an57 od58 an58 : Option Addr} {sl1 sl2 sl3 sl4 sl5 sl6 sl7 sl8 sl9 sl10 sl11 sl12 sl13 sl14 sl15 sl16 sl17 sl18 sl19 sl20 sl21 sl22 sl23 sl24 sl25 sl26 sl27 sl28 sl29 sl30 sl31 sl32 sl33 sl34 sl35 sl36 sl37 sl38 sl39 sl40 sl41 sl42 sl43 sl44 sl45 sl46 sl47 sl48 sl49 sl50 sl51 sl52 sl53 sl54 sl55 sl56 sl57 sl58 : Array (Option Value)} {oc1 kV1 dc1 pm1 cd1 ct1 oc2 ocT2 kV2 dc2 pm2 cd2 ct2 oc3 kV3 dc3 pm3 cd3 ct3 oc4 kV4 dc4 pm4 cd4 ct4 oc5 kV5 dc5 pm5 cd5 ct5 oc6 kV6 dc6 pm6 cd6 ct6 oc7 kV7 dc7 pm7 cd7 ct7 oc8 kV8 dc8 pm8 cd8 ct8 oc9 kV9 dc9 pm9 cd9 ct9 oc10 kV10 dc10 pm10 cd10 ct10 oc11 kV11 dc11 pm11 cd11 ct11 oc12 kV12 dc12 pm12 cd12 ct12 oc13 kV13 dc13 pm13 cd13 ct13 oc14 kV14 dc14 pm14 cd14 ct14 oc15 kV15 dc15 pm15 cd15 ct15 oc16 kV16 dc16 pm16 cd16 ct16 oc17 kV17 dc17 pm17 cd17 ct17 oc18 kV18 dc18 pm18 cd18 ct18 oc19 kV19 dc19 pm19 cd19 ct19 oc20 kV20 dc20 pm20 cd20 ct20 oc21 kV21 dc21 pm21 cd21 ct21 oc22 kV22 dc22 pm22 cd22 ct22 oc23 kV23 dc23 pm23 cd23 ct23 oc24 kV24 dc24 pm24 cd24 ct24 oc25 kV25 dc25 pm25 cd25 ct25 oc26 kV26 dc26 pm26 cd26 ct26 oc27 kV27 dc27 pm27 cd27 ct27 oc28 kV28 dc28 pm28 cd28 ct28 oc29 kV29 dc29 pm29 cd29 ct29 oc30 kV30 dc30 pm30 cd30 ct30 oc31 kV31 dc31 pm31 cd31 ct31 oc32 kV32 dc32 pm32 cd32 ct32 oc33 kV33 dc33 pm33 cd33 ct33 oc34 kV34 dc34 pm34 cd34 ct34 oc35 kV35 dc35 pm35 cd35 ct35 oc36 kV36 dc36 pm36 cd36 ct36 oc37 kV37 dc37 pm37 cd37 ct37 oc38 kV38 dc38 pm38 cd38 ct38 oc39 kV39 dc39 pm39 cd39 ct39 oc40 kV40 dc40 pm40 cd40 ct40 oc41 kV41 dc41 pm41 cd41 ct41 oc42 kV42 dc42 pm42 cd42 ct42 oc43 kV43 dc43 pm43 cd43 ct43 oc44 kV44 dc44 pm44 cd44 ct44 oc45 kV45 dc45 pm45 cd45 ct45 oc46 kV46 dc46 pm46 cd46 ct46 oc47 kV47 dc47 pm47 cd47 ct47 oc48 kV48 dc48 pm48 cd48 ct48 oc49 kV49 dc49 pm49 cd49 ct49 oc50 kV50 dc50 pm50 cd50 ct50 oc51 kV51 dc51 pm51 cd51 ct51 oc52 kV52 dc52 pm52 cd52 ct52 oc53 kV53 dc53 pm53 cd53 ct53 oc54 kV54 dc54 pm54 cd54 ct54 oc55 kV55 dc55 pm55 cd55 ct55 oc56 kV56 dc56 pm56 cd56 ct56 oc57 kV57 dc57 pm57 cd57 ct57 oc58 kV58 dc58 pm58 cd58 ct58 : Value} 
    {T2 : Addr} {odT2 : Option Addr} {slT2 : Array (Option Value)} {nT2 : Nat} {tkT2 : Tok}
    (a1 : PySem.W.nsIn K mainGlobals "common_measure" = some (some (.ref f1))) (l1 : K.lookup f1 = some ⟨oc1, od1, .func (PySem.W.fnOf "common_measure" "common_measure" (defArgs s_common_measure) (defBody s_common_measure) (defScope s_common_measure) .none kV1 dc1 pm1 an1 cd1 ct1), sl1⟩) (c1 : PySem.W.codeIn K cd1 "common_measure" = true) (k1 : PySem.W.keepIn K (.ref f1) = true)
    (a2 : PySem.W.nsIn K mainGlobals "lowest" = some (some (.ref f2))) (l2 : K.lookup f2 = some ⟨oc2, od2, .func (PySem.W.fnOf "lowest" "lowest" (defArgs s_lowest) (defBody s_lowest) (defScope s_lowest) (.ref T2) kV2 dc2 pm2 an2 cd2 ct2), sl2⟩) (c2 : PySem.W.codeIn K cd2 "lowest" = true) (k2 : PySem.W.keepIn K (.ref f2) = true)
    (t2 : K.lookup T2 = some ⟨ocT2, odT2, .seq (List.toArray [.int 1 tkT2]) nT2, slT2⟩)
    (a3 : PySem.W.nsIn K mainGlobals "nearest" = some (some (.ref f3))) (l3 : K.lookup f3 = some ⟨oc3, od3, .func (PySem.W.fnOf "nearest" "nearest" (defArgs s_nearest) (defBody s_nearest) (defScope s_nearest) .none kV3 dc3 pm3 an3 cd3 ct3), sl3⟩) (c3 : PySem.W.codeIn K cd3 "nearest" = true) (k3 : PySem.W.keepIn K (.ref f3) = true)
    (a4 : PySem.W.nsIn K mainGlobals "sign" = some (some (.ref f4))) (l4 : K.lookup f4 = some ⟨oc4, od4, .func (PySem.W.fnOf "sign" "sign" (defArgs s_p_sign) (defBody s_p_sign) (defScope s_p_sign) .none kV4 dc4 pm4 an4 cd4 ct4), sl4⟩) (c4 : PySem.W.codeIn K cd4 "sign" = true) (k4 : PySem.W.keepIn K (.ref f4) = true)
    (a5 : PySem.W.nsIn K mainGlobals "ends_of" = some (some (.ref f5))) (l5 : K.lookup f5 = some ⟨oc5, od5, .func (PySem.W.fnOf "ends_of" "ends_of" (defArgs s_ends_of) (defBody s_ends_of) (defScope s_ends_of) .none kV5 dc5 pm5 an5 cd5 ct5), sl5⟩) (c5 : PySem.W.codeIn K cd5 "ends_of" = true) (k5 : PySem.W.keepIn K (.ref f5) = true)
    (a6 : PySem.W.nsIn K mainGlobals "heading" = some (some (.ref f6))) (l6 : K.lookup f6 = some ⟨oc6, od6, .func (PySem.W.fnOf "heading" "heading" (defArgs s_heading) (defBody s_heading) (defScope s_heading) .none kV6 dc6 pm6 an6 cd6 ct6), sl6⟩) (c6 : PySem.W.codeIn K cd6 "heading" = true) (k6 : PySem.W.keepIn K (.ref f6) = true)
    (a7 : PySem.W.nsIn K mainGlobals "goes" = some (some (.ref f7))) (l7 : K.lookup f7 = some ⟨oc7, od7, .func (PySem.W.fnOf "goes" "goes" (defArgs s_p_goes) (defBody s_p_goes) (defScope s_p_goes) .none kV7 dc7 pm7 an7 cd7 ct7), sl7⟩) (c7 : PySem.W.codeIn K cd7 "goes" = true) (k7 : PySem.W.keepIn K (.ref f7) = true)
    (a8 : PySem.W.nsIn K mainGlobals "passes" = some (some (.ref f8))) (l8 : K.lookup f8 = some ⟨oc8, od8, .func (PySem.W.fnOf "passes" "passes" (defArgs s_passes) (defBody s_passes) (defScope s_passes) .none kV8 dc8 pm8 an8 cd8 ct8), sl8⟩) (c8 : PySem.W.codeIn K cd8 "passes" = true) (k8 : PySem.W.keepIn K (.ref f8) = true)
    (a9 : PySem.W.nsIn K mainGlobals "moments" = some (some (.ref f9))) (l9 : K.lookup f9 = some ⟨oc9, od9, .func (PySem.W.fnOf "moments" "moments" (defArgs s_moments) (defBody s_moments) (defScope s_moments) .none kV9 dc9 pm9 an9 cd9 ct9), sl9⟩) (c9 : PySem.W.codeIn K cd9 "moments" = true) (k9 : PySem.W.keepIn K (.ref f9) = true)
    (a10 : PySem.W.nsIn K mainGlobals "squares" = some (some (.ref f10))) (l10 : K.lookup f10 = some ⟨oc10, od10, .func (PySem.W.fnOf "squares" "squares" (defArgs s_p_squares) (defBody s_p_squares) (defScope s_p_squares) .none kV10 dc10 pm10 an10 cd10 ct10), sl10⟩) (c10 : PySem.W.codeIn K cd10 "squares" = true) (k10 : PySem.W.keepIn K (.ref f10) = true)
    (a11 : PySem.W.nsIn K mainGlobals "square_behind" = some (some (.ref f11))) (l11 : K.lookup f11 = some ⟨oc11, od11, .func (PySem.W.fnOf "square_behind" "square_behind" (defArgs s_square_behind) (defBody s_square_behind) (defScope s_square_behind) .none kV11 dc11 pm11 an11 cd11 ct11), sl11⟩) (c11 : PySem.W.codeIn K cd11 "square_behind" = true) (k11 : PySem.W.keepIn K (.ref f11) = true)
    (a12 : PySem.W.nsIn K mainGlobals "square_of" = some (some (.ref f12))) (l12 : K.lookup f12 = some ⟨oc12, od12, .func (PySem.W.fnOf "square_of" "square_of" (defArgs s_square_of) (defBody s_square_of) (defScope s_square_of) .none kV12 dc12 pm12 an12 cd12 ct12), sl12⟩) (c12 : PySem.W.codeIn K cd12 "square_of" = true) (k12 : PySem.W.keepIn K (.ref f12) = true)
    (a13 : PySem.W.nsIn K mainGlobals "meet" = some (some (.ref f13))) (l13 : K.lookup f13 = some ⟨oc13, od13, .func (PySem.W.fnOf "meet" "meet" (defArgs s_p_meet) (defBody s_p_meet) (defScope s_p_meet) .none kV13 dc13 pm13 an13 cd13 ct13), sl13⟩) (c13 : PySem.W.codeIn K cd13 "meet" = true) (k13 : PySem.W.keepIn K (.ref f13) = true)
    (a14 : PySem.W.nsIn K mainGlobals "meet_in_line" = some (some (.ref f14))) (l14 : K.lookup f14 = some ⟨oc14, od14, .func (PySem.W.fnOf "meet_in_line" "meet_in_line" (defArgs s_meet_in_line) (defBody s_meet_in_line) (defScope s_meet_in_line) .none kV14 dc14 pm14 an14 cd14 ct14), sl14⟩) (c14 : PySem.W.codeIn K cd14 "meet_in_line" = true) (k14 : PySem.W.keepIn K (.ref f14) = true)
    (a15 : PySem.W.nsIn K mainGlobals "need_named" = some (some (.ref f15))) (l15 : K.lookup f15 = some ⟨oc15, od15, .func (PySem.W.fnOf "need_named" "need_named" (defArgs s_need_named) (defBody s_need_named) (defScope s_need_named) .none kV15 dc15 pm15 an15 cd15 ct15), sl15⟩) (c15 : PySem.W.codeIn K cd15 "need_named" = true) (k15 : PySem.W.keepIn K (.ref f15) = true)
    (a16 : PySem.W.nsIn K mainGlobals "met_square" = some (some (.ref f16))) (l16 : K.lookup f16 = some ⟨oc16, od16, .func (PySem.W.fnOf "met_square" "met_square" (defArgs s_met_square) (defBody s_met_square) (defScope s_met_square) .none kV16 dc16 pm16 an16 cd16 ct16), sl16⟩) (c16 : PySem.W.codeIn K cd16 "met_square" = true) (k16 : PySem.W.keepIn K (.ref f16) = true)
    (a17 : PySem.W.nsIn K mainGlobals "causes" = some (some (.ref f17))) (l17 : K.lookup f17 = some ⟨oc17, od17, .func (PySem.W.fnOf "causes" "causes" (defArgs s_p_causes) (defBody s_p_causes) (defScope s_p_causes) .none kV17 dc17 pm17 an17 cd17 ct17), sl17⟩) (c17 : PySem.W.codeIn K cd17 "causes" = true) (k17 : PySem.W.keepIn K (.ref f17) = true)
    (a18 : PySem.W.nsIn K mainGlobals "end_causes" = some (some (.ref f18))) (l18 : K.lookup f18 = some ⟨oc18, od18, .func (PySem.W.fnOf "end_causes" "end_causes" (defArgs s_end_causes) (defBody s_end_causes) (defScope s_end_causes) .none kV18 dc18 pm18 an18 cd18 ct18), sl18⟩) (c18 : PySem.W.codeIn K cd18 "end_causes" = true) (k18 : PySem.W.keepIn K (.ref f18) = true)
    (a19 : PySem.W.nsIn K mainGlobals "cross_causes" = some (some (.ref f19))) (l19 : K.lookup f19 = some ⟨oc19, od19, .func (PySem.W.fnOf "cross_causes" "cross_causes" (defArgs s_cross_causes) (defBody s_cross_causes) (defScope s_cross_causes) .none kV19 dc19 pm19 an19 cd19 ct19), sl19⟩) (c19 : PySem.W.codeIn K cd19 "cross_causes" = true) (k19 : PySem.W.keepIn K (.ref f19) = true)
    (a20 : PySem.W.nsIn K mainGlobals "through" = some (some (.ref f20))) (l20 : K.lookup f20 = some ⟨oc20, od20, .func (PySem.W.fnOf "through" "through" (defArgs s_through) (defBody s_through) (defScope s_through) .none kV20 dc20 pm20 an20 cd20 ct20), sl20⟩) (c20 : PySem.W.codeIn K cd20 "through" = true) (k20 : PySem.W.keepIn K (.ref f20) = true)
    (a21 : PySem.W.nsIn K mainGlobals "judge_heat" = some (some (.ref f21))) (l21 : K.lookup f21 = some ⟨oc21, od21, .func (PySem.W.fnOf "judge_heat" "judge_heat" (defArgs s_judge_heat) (defBody s_judge_heat) (defScope s_judge_heat) .none kV21 dc21 pm21 an21 cd21 ct21), sl21⟩) (c21 : PySem.W.codeIn K cd21 "judge_heat" = true) (k21 : PySem.W.keepIn K (.ref f21) = true)
    (a22 : PySem.W.nsIn K mainGlobals "ends_there" = some (some (.ref f22))) (l22 : K.lookup f22 = some ⟨oc22, od22, .func (PySem.W.fnOf "ends_there" "ends_there" (defArgs s_ends_there) (defBody s_ends_there) (defScope s_ends_there) .none kV22 dc22 pm22 an22 cd22 ct22), sl22⟩) (c22 : PySem.W.codeIn K cd22 "ends_there" = true) (k22 : PySem.W.keepIn K (.ref f22) = true)
    (a23 : PySem.W.nsIn K mainGlobals "cross_there" = some (some (.ref f23))) (l23 : K.lookup f23 = some ⟨oc23, od23, .func (PySem.W.fnOf "cross_there" "cross_there" (defArgs s_cross_there) (defBody s_cross_there) (defScope s_cross_there) .none kV23 dc23 pm23 an23 cd23 ct23), sl23⟩) (c23 : PySem.W.codeIn K cd23 "cross_there" = true) (k23 : PySem.W.keepIn K (.ref f23) = true)
    (a24 : PySem.W.nsIn K mainGlobals "leave_cold" = some (some (.ref f24))) (l24 : K.lookup f24 = some ⟨oc24, od24, .func (PySem.W.fnOf "leave_cold" "leave_cold" (defArgs s_leave_cold) (defBody s_leave_cold) (defScope s_leave_cold) .none kV24 dc24 pm24 an24 cd24 ct24), sl24⟩) (c24 : PySem.W.codeIn K cd24 "leave_cold" = true) (k24 : PySem.W.keepIn K (.ref f24) = true)
    (a25 : PySem.W.nsIn K mainGlobals "bend_paper" = some (some (.ref f25))) (l25 : K.lookup f25 = some ⟨oc25, od25, .func (PySem.W.fnOf "bend_paper" "bend_paper" (defArgs s_bend_paper) (defBody s_bend_paper) (defScope s_bend_paper) .none kV25 dc25 pm25 an25 cd25 ct25), sl25⟩) (c25 : PySem.W.codeIn K cd25 "bend_paper" = true) (k25 : PySem.W.keepIn K (.ref f25) = true)
    (a26 : PySem.W.nsIn K mainGlobals "judge_bend" = some (some (.ref f26))) (l26 : K.lookup f26 = some ⟨oc26, od26, .func (PySem.W.fnOf "judge_bend" "judge_bend" (defArgs s_judge_bend) (defBody s_judge_bend) (defScope s_judge_bend) .none kV26 dc26 pm26 an26 cd26 ct26), sl26⟩) (c26 : PySem.W.codeIn K cd26 "judge_bend" = true) (k26 : PySem.W.keepIn K (.ref f26) = true)
    (a27 : PySem.W.nsIn K mainGlobals "row_shown" = some (some (.ref f27))) (l27 : K.lookup f27 = some ⟨oc27, od27, .func (PySem.W.fnOf "row_shown" "row_shown" (defArgs s_row_shown) (defBody s_row_shown) (defScope s_row_shown) .none kV27 dc27 pm27 an27 cd27 ct27), sl27⟩) (c27 : PySem.W.codeIn K cd27 "row_shown" = true) (k27 : PySem.W.keepIn K (.ref f27) = true)
    (a28 : PySem.W.nsIn K mainGlobals "_law_bag" = some (some (.ref f28))) (l28 : K.lookup f28 = some ⟨oc28, od28, .func (PySem.W.fnOf "_law_bag" "_law_bag" (defArgs s_bag) (defBody s_bag) (defScope s_bag) .none kV28 dc28 pm28 an28 cd28 ct28), sl28⟩) (c28 : PySem.W.codeIn K cd28 "_law_bag" = true) (k28 : PySem.W.keepIn K (.ref f28) = true)
    (a29 : PySem.W.nsIn K mainGlobals "_law_pull" = some (some (.ref f29))) (l29 : K.lookup f29 = some ⟨oc29, od29, .func (PySem.W.fnOf "_law_pull" "_law_pull" (defArgs s_pull) (defBody s_pull) (defScope s_pull) .none kV29 dc29 pm29 an29 cd29 ct29), sl29⟩) (c29 : PySem.W.codeIn K cd29 "_law_pull" = true) (k29 : PySem.W.keepIn K (.ref f29) = true)
    (a30 : PySem.W.nsIn K mainGlobals "_law_of" = some (some (.ref f30))) (l30 : K.lookup f30 = some ⟨oc30, od30, .func (PySem.W.fnOf "_law_of" "_law_of" (defArgs s_of) (defBody s_of) (defScope s_of) .none kV30 dc30 pm30 an30 cd30 ct30), sl30⟩) (c30 : PySem.W.codeIn K cd30 "_law_of" = true) (k30 : PySem.W.keepIn K (.ref f30) = true)
    (a31 : PySem.W.nsIn K mainGlobals "_law_like" = some (some (.ref f31))) (l31 : K.lookup f31 = some ⟨oc31, od31, .func (PySem.W.fnOf "_law_like" "_law_like" (defArgs s_like) (defBody s_like) (defScope s_like) .none kV31 dc31 pm31 an31 cd31 ct31), sl31⟩) (c31 : PySem.W.codeIn K cd31 "_law_like" = true) (k31 : PySem.W.keepIn K (.ref f31) = true)
    (a32 : PySem.W.nsIn K mainGlobals "_law_common" = some (some (.ref f32))) (l32 : K.lookup f32 = some ⟨oc32, od32, .func (PySem.W.fnOf "_law_common" "_law_common" (defArgs s_common) (defBody s_common) (defScope s_common) .none kV32 dc32 pm32 an32 cd32 ct32), sl32⟩) (c32 : PySem.W.codeIn K cd32 "_law_common" = true) (k32 : PySem.W.keepIn K (.ref f32) = true)
    (a33 : PySem.W.nsIn K mainGlobals "_law_low" = some (some (.ref f33))) (l33 : K.lookup f33 = some ⟨oc33, od33, .func (PySem.W.fnOf "_law_low" "_law_low" (defArgs s_low) (defBody s_low) (defScope s_low) .none kV33 dc33 pm33 an33 cd33 ct33), sl33⟩) (c33 : PySem.W.codeIn K cd33 "_law_low" = true) (k33 : PySem.W.keepIn K (.ref f33) = true)
    (a34 : PySem.W.nsIn K mainGlobals "_law_near" = some (some (.ref f34))) (l34 : K.lookup f34 = some ⟨oc34, od34, .func (PySem.W.fnOf "_law_near" "_law_near" (defArgs s_near) (defBody s_near) (defScope s_near) .none kV34 dc34 pm34 an34 cd34 ct34), sl34⟩) (c34 : PySem.W.codeIn K cd34 "_law_near" = true) (k34 : PySem.W.keepIn K (.ref f34) = true)
    (a35 : PySem.W.nsIn K mainGlobals "_law_clipped" = some (some (.ref f35))) (l35 : K.lookup f35 = some ⟨oc35, od35, .func (PySem.W.fnOf "_law_clipped" "_law_clipped" (defArgs s_clipped) (defBody s_clipped) (defScope s_clipped) .none kV35 dc35 pm35 an35 cd35 ct35), sl35⟩) (c35 : PySem.W.codeIn K cd35 "_law_clipped" = true) (k35 : PySem.W.keepIn K (.ref f35) = true)
    (a36 : PySem.W.nsIn K mainGlobals "_law_spot" = some (some (.ref f36))) (l36 : K.lookup f36 = some ⟨oc36, od36, .func (PySem.W.fnOf "_law_spot" "_law_spot" (defArgs s_spot) (defBody s_spot) (defScope s_spot) .none kV36 dc36 pm36 an36 cd36 ct36), sl36⟩) (c36 : PySem.W.codeIn K cd36 "_law_spot" = true) (k36 : PySem.W.keepIn K (.ref f36) = true)
    (a37 : PySem.W.nsIn K mainGlobals "_law_base" = some (some (.ref f37))) (l37 : K.lookup f37 = some ⟨oc37, od37, .func (PySem.W.fnOf "_law_base" "_law_base" (defArgs s_base) (defBody s_base) (defScope s_base) .none kV37 dc37 pm37 an37 cd37 ct37), sl37⟩) (c37 : PySem.W.codeIn K cd37 "_law_base" = true) (k37 : PySem.W.keepIn K (.ref f37) = true)
    (a38 : PySem.W.nsIn K mainGlobals "_law_stroke" = some (some (.ref f38))) (l38 : K.lookup f38 = some ⟨oc38, od38, .func (PySem.W.fnOf "_law_stroke" "_law_stroke" (defArgs s_stroke) (defBody s_stroke) (defScope s_stroke) .none kV38 dc38 pm38 an38 cd38 ct38), sl38⟩) (c38 : PySem.W.codeIn K cd38 "_law_stroke" = true) (k38 : PySem.W.keepIn K (.ref f38) = true)
    (a39 : PySem.W.nsIn K mainGlobals "_law_beside" = some (some (.ref f39))) (l39 : K.lookup f39 = some ⟨oc39, od39, .func (PySem.W.fnOf "_law_beside" "_law_beside" (defArgs s_beside) (defBody s_beside) (defScope s_beside) .none kV39 dc39 pm39 an39 cd39 ct39), sl39⟩) (c39 : PySem.W.codeIn K cd39 "_law_beside" = true) (k39 : PySem.W.keepIn K (.ref f39) = true)
    (a40 : PySem.W.nsIn K mainGlobals "_law_posts" = some (some (.ref f40))) (l40 : K.lookup f40 = some ⟨oc40, od40, .func (PySem.W.fnOf "_law_posts" "_law_posts" (defArgs s_posts) (defBody s_posts) (defScope s_posts) .none kV40 dc40 pm40 an40 cd40 ct40), sl40⟩) (c40 : PySem.W.codeIn K cd40 "_law_posts" = true) (k40 : PySem.W.keepIn K (.ref f40) = true)
    (a41 : PySem.W.nsIn K mainGlobals "_law_strokes" = some (some (.ref f41))) (l41 : K.lookup f41 = some ⟨oc41, od41, .func (PySem.W.fnOf "_law_strokes" "_law_strokes" (defArgs s_strokes) (defBody s_strokes) (defScope s_strokes) .none kV41 dc41 pm41 an41 cd41 ct41), sl41⟩) (c41 : PySem.W.codeIn K cd41 "_law_strokes" = true) (k41 : PySem.W.keepIn K (.ref f41) = true)
    (a42 : PySem.W.nsIn K mainGlobals "_law_names" = some (some (.ref f42))) (l42 : K.lookup f42 = some ⟨oc42, od42, .func (PySem.W.fnOf "_law_names" "_law_names" (defArgs s_names) (defBody s_names) (defScope s_names) .none kV42 dc42 pm42 an42 cd42 ct42), sl42⟩) (c42 : PySem.W.codeIn K cd42 "_law_names" = true) (k42 : PySem.W.keepIn K (.ref f42) = true)
    (a43 : PySem.W.nsIn K mainGlobals "_law_clip" = some (some (.ref f43))) (l43 : K.lookup f43 = some ⟨oc43, od43, .func (PySem.W.fnOf "_law_clip" "_law_clip" (defArgs s_clip) (defBody s_clip) (defScope s_clip) .none kV43 dc43 pm43 an43 cd43 ct43), sl43⟩) (c43 : PySem.W.codeIn K cd43 "_law_clip" = true) (k43 : PySem.W.keepIn K (.ref f43) = true)
    (a44 : PySem.W.nsIn K mainGlobals "_law_later" = some (some (.ref f44))) (l44 : K.lookup f44 = some ⟨oc44, od44, .func (PySem.W.fnOf "_law_later" "_law_later" (defArgs s_later) (defBody s_later) (defScope s_later) .none kV44 dc44 pm44 an44 cd44 ct44), sl44⟩) (c44 : PySem.W.codeIn K cd44 "_law_later" = true) (k44 : PySem.W.keepIn K (.ref f44) = true)
    (a45 : PySem.W.nsIn K mainGlobals "_law_sooner" = some (some (.ref f45))) (l45 : K.lookup f45 = some ⟨oc45, od45, .func (PySem.W.fnOf "_law_sooner" "_law_sooner" (defArgs s_sooner) (defBody s_sooner) (defScope s_sooner) .none kV45 dc45 pm45 an45 cd45 ct45), sl45⟩) (c45 : PySem.W.codeIn K cd45 "_law_sooner" = true) (k45 : PySem.W.keepIn K (.ref f45) = true)
    (a46 : PySem.W.nsIn K mainGlobals "_law_inside" = some (some (.ref f46))) (l46 : K.lookup f46 = some ⟨oc46, od46, .func (PySem.W.fnOf "_law_inside" "_law_inside" (defArgs s_inside) (defBody s_inside) (defScope s_inside) .none kV46 dc46 pm46 an46 cd46 ct46), sl46⟩) (c46 : PySem.W.codeIn K cd46 "_law_inside" = true) (k46 : PySem.W.keepIn K (.ref f46) = true)
    (a47 : PySem.W.nsIn K mainGlobals "_law_goes" = some (some (.ref f47))) (l47 : K.lookup f47 = some ⟨oc47, od47, .func (PySem.W.fnOf "_law_goes" "_law_goes" (defArgs s_goes) (defBody s_goes) (defScope s_goes) .none kV47 dc47 pm47 an47 cd47 ct47), sl47⟩) (c47 : PySem.W.codeIn K cd47 "_law_goes" = true) (k47 : PySem.W.keepIn K (.ref f47) = true)
    (a48 : PySem.W.nsIn K mainGlobals "_law_cross" = some (some (.ref f48))) (l48 : K.lookup f48 = some ⟨oc48, od48, .func (PySem.W.fnOf "_law_cross" "_law_cross" (defArgs s_cross) (defBody s_cross) (defScope s_cross) .none kV48 dc48 pm48 an48 cd48 ct48), sl48⟩) (c48 : PySem.W.codeIn K cd48 "_law_cross" = true) (k48 : PySem.W.keepIn K (.ref f48) = true)
    (a49 : PySem.W.nsIn K mainGlobals "_law_meet" = some (some (.ref f49))) (l49 : K.lookup f49 = some ⟨oc49, od49, .func (PySem.W.fnOf "_law_meet" "_law_meet" (defArgs s_meet) (defBody s_meet) (defScope s_meet) .none kV49 dc49 pm49 an49 cd49 ct49), sl49⟩) (c49 : PySem.W.codeIn K cd49 "_law_meet" = true) (k49 : PySem.W.keepIn K (.ref f49) = true)
    (a50 : PySem.W.nsIn K mainGlobals "_law_causes" = some (some (.ref f50))) (l50 : K.lookup f50 = some ⟨oc50, od50, .func (PySem.W.fnOf "_law_causes" "_law_causes" (defArgs s_causes) (defBody s_causes) (defScope s_causes) .none kV50 dc50 pm50 an50 cd50 ct50), sl50⟩) (c50 : PySem.W.codeIn K cd50 "_law_causes" = true) (k50 : PySem.W.keepIn K (.ref f50) = true)
    (a51 : PySem.W.nsIn K mainGlobals "_law_hot" = some (some (.ref f51))) (l51 : K.lookup f51 = some ⟨oc51, od51, .func (PySem.W.fnOf "_law_hot" "_law_hot" (defArgs s_hot) (defBody s_hot) (defScope s_hot) .none kV51 dc51 pm51 an51 cd51 ct51), sl51⟩) (c51 : PySem.W.codeIn K cd51 "_law_hot" = true) (k51 : PySem.W.keepIn K (.ref f51) = true)
    (a52 : PySem.W.nsIn K mainGlobals "_law_bent" = some (some (.ref f52))) (l52 : K.lookup f52 = some ⟨oc52, od52, .func (PySem.W.fnOf "_law_bent" "_law_bent" (defArgs s_bent) (defBody s_bent) (defScope s_bent) .none kV52 dc52 pm52 an52 cd52 ct52), sl52⟩) (c52 : PySem.W.codeIn K cd52 "_law_bent" = true) (k52 : PySem.W.keepIn K (.ref f52) = true)
    (a53 : PySem.W.nsIn K mainGlobals "_law_paper_right" = some (some (.ref f53))) (l53 : K.lookup f53 = some ⟨oc53, od53, .func (PySem.W.fnOf "_law_paper_right" "_law_paper_right" (defArgs s_paper_right) (defBody s_paper_right) (defScope s_paper_right) .none kV53 dc53 pm53 an53 cd53 ct53), sl53⟩) (c53 : PySem.W.codeIn K cd53 "_law_paper_right" = true) (k53 : PySem.W.keepIn K (.ref f53) = true)
    (a54 : PySem.W.nsIn K mainGlobals "_law_any_paper" = some (some (.ref f54))) (l54 : K.lookup f54 = some ⟨oc54, od54, .func (PySem.W.fnOf "_law_any_paper" "_law_any_paper" (defArgs s_any_paper) (defBody s_any_paper) (defScope s_any_paper) .none kV54 dc54 pm54 an54 cd54 ct54), sl54⟩) (c54 : PySem.W.codeIn K cd54 "_law_any_paper" = true) (k54 : PySem.W.keepIn K (.ref f54) = true)
    (a55 : PySem.W.nsIn K mainGlobals "_law_squares" = some (some (.ref f55))) (l55 : K.lookup f55 = some ⟨oc55, od55, .func (PySem.W.fnOf "_law_squares" "_law_squares" (defArgs s_squares) (defBody s_squares) (defScope s_squares) .none kV55 dc55 pm55 an55 cd55 ct55), sl55⟩) (c55 : PySem.W.codeIn K cd55 "_law_squares" = true) (k55 : PySem.W.keepIn K (.ref f55) = true)
    (a56 : PySem.W.nsIn K mainGlobals "_law_spoilt" = some (some (.ref f56))) (l56 : K.lookup f56 = some ⟨oc56, od56, .func (PySem.W.fnOf "_law_spoilt" "_law_spoilt" (defArgs s_spoilt) (defBody s_spoilt) (defScope s_spoilt) .none kV56 dc56 pm56 an56 cd56 ct56), sl56⟩) (c56 : PySem.W.codeIn K cd56 "_law_spoilt" = true) (k56 : PySem.W.keepIn K (.ref f56) = true)
    (a57 : PySem.W.nsIn K mainGlobals "_law_due" = some (some (.ref f57))) (l57 : K.lookup f57 = some ⟨oc57, od57, .func (PySem.W.fnOf "_law_due" "_law_due" (defArgs s_due) (defBody s_due) (defScope s_due) .none kV57 dc57 pm57 an57 cd57 ct57), sl57⟩) (c57 : PySem.W.codeIn K cd57 "_law_due" = true) (k57 : PySem.W.keepIn K (.ref f57) = true)
    (a58 : PySem.W.nsIn K mainGlobals "law" = some (some (.ref f58))) (l58 : K.lookup f58 = some ⟨oc58, od58, .func (PySem.W.fnOf "law" "law" (defArgs s_law) (defBody s_law) (defScope s_law) .none kV58 dc58 pm58 an58 cd58 ct58), sl58⟩) (c58 : PySem.W.codeIn K cd58 "law" = true) (k58 : PySem.W.keepIn K (.ref f58) = true)
    (z_len : PySem.W.nsIn K mainGlobals "len" = some none)
    (z_isinstance : PySem.W.nsIn K mainGlobals "isinstance" = some none)
    (z_all : PySem.W.nsIn K mainGlobals "all" = some none)
    (z_list : PySem.W.nsIn K mainGlobals "list" = some none)
    (z_tuple : PySem.W.nsIn K mainGlobals "tuple" = some none)
    (z_dict : PySem.W.nsIn K mainGlobals "dict" = some none)
    (z_bool : PySem.W.nsIn K mainGlobals "bool" = some none)
    (z_range : PySem.W.nsIn K mainGlobals "range" = some none)
    (z_abs : PySem.W.nsIn K mainGlobals "abs" = some none)
    (z_any : PySem.W.nsIn K mainGlobals "any" = some none)
    (z_sorted : PySem.W.nsIn K mainGlobals "sorted" = some none)
    (z_int : PySem.W.nsIn K mainGlobals "int" = some none)
    (z_max : PySem.W.nsIn K mainGlobals "max" = some none)
    (z_min : PySem.W.nsIn K mainGlobals "min" = some none)
    (z_sum : PySem.W.nsIn K mainGlobals "sum" = some none)
    (z_zip : PySem.W.nsIn K mainGlobals "zip" = some none)
    (z_enumerate : PySem.W.nsIn K mainGlobals "enumerate" = some none)
    : ∃ fd : FuncData, (∀ (s : Shared) (v : Value), BindsTo s fd ⟨[v], []⟩ [("_law_script", v)]) ∧ ∀ base : Heap, K.In base → base.Ns mainGlobals mg → FnOk l.prog w K mg base CX0 10 fa fd ["_law_script"] (spLaw K) := by
  have e := hfa.symm.trans (PySem.W.mg_of X G a58)
  cases e
  have F_common_measure := fun_mk (st := s_common_measure) l1 c1 k1
  have b_common_measure := F_common_measure.binds (ps := ["one", "other"]) fun _ _ _ _ _ _ us hl => match us, hl with | [_, _], _ => rfl
  have m_common_measure := PySem.W.mg_of X G a1
  have F_lowest : FunD K "lowest" "lowest" (defArgs s_lowest) (defBody s_lowest) (defScope s_lowest) [.int 1] [] f2 _ := ⟨⟨_, _, _, _, _, _, _, _, _, _, rfl, l2, c2, .inr ⟨by decide, _, _, _, _, rfl, t2, rfl, (.cons ⟨_, rfl⟩ .nil)⟩, .inl rfl⟩, k2⟩
  obtain ⟨dslowest_0, vlowest_0, bblowest_0⟩ := F_lowest.binds1 (ps := ["over", "under"]) 1 0 (by decide) rfl fun _ _ _ _ _ _ _ us its hl hi => match us, its, hl, hi with | [_], [_], _, _ => ⟨_, rfl, rfl⟩
  obtain ⟨dslowest_1, vlowest_1, bblowest_1⟩ := F_lowest.binds1 (ps := ["over", "under"]) 2 1 (by decide) rfl fun _ _ _ _ _ _ _ us its hl hi => match us, its, hl, hi with | [_, _], [_], _, _ => ⟨_, rfl, rfl⟩
  have b_lowest := nil_binds vlowest_1 bblowest_1
  have m_lowest := PySem.W.mg_of X G a2
  have F_nearest := fun_mk (st := s_nearest) l3 c3 k3
  have b_nearest := F_nearest.binds (ps := ["one"]) fun _ _ _ _ _ _ us hl => match us, hl with | [_], _ => rfl
  have m_nearest := PySem.W.mg_of X G a3
  have F_p_sign := fun_mk (st := s_p_sign) l4 c4 k4
  have b_p_sign := F_p_sign.binds (ps := ["number"]) fun _ _ _ _ _ _ us hl => match us, hl with | [_], _ => rfl
  have m_p_sign := PySem.W.mg_of X G a4
  have F_ends_of := fun_mk (st := s_ends_of) l5 c5 k5
  have b_ends_of := F_ends_of.binds (ps := ["stroke"]) fun _ _ _ _ _ _ us hl => match us, hl with | [_], _ => rfl
  have m_ends_of := PySem.W.mg_of X G a5
  have F_heading := fun_mk (st := s_heading) l6 c6 k6
  have b_heading := F_heading.binds (ps := ["stroke"]) fun _ _ _ _ _ _ us hl => match us, hl with | [_], _ => rfl
  have m_heading := PySem.W.mg_of X G a6
  have F_p_goes := fun_mk (st := s_p_goes) l7 c7 k7
  have b_p_goes := F_p_goes.binds (ps := ["stroke", "spot"]) fun _ _ _ _ _ _ us hl => match us, hl with | [_, _], _ => rfl
  have m_p_goes := PySem.W.mg_of X G a7
  have F_passes := fun_mk (st := s_passes) l8 c8 k8
  have b_passes := F_passes.binds (ps := ["stroke", "least", "greatest"]) fun _ _ _ _ _ _ us hl => match us, hl with | [_, _, _], _ => rfl
  have m_passes := PySem.W.mg_of X G a8
  have F_moments := fun_mk (st := s_moments) l9 c9 k9
  have b_moments := F_moments.binds (ps := ["start", "end", "unit", "least", "greatest"]) fun _ _ _ _ _ _ us hl => match us, hl with | [_, _, _, _, _], _ => rfl
  have m_moments := PySem.W.mg_of X G a9
  have F_p_squares := fun_mk (st := s_p_squares) l10 c10 k10
  have b_p_squares := F_p_squares.binds (ps := ["stroke"]) fun _ _ _ _ _ _ us hl => match us, hl with | [_], _ => rfl
  have m_p_squares := PySem.W.mg_of X G a10
  have F_square_behind := fun_mk (st := s_square_behind) l11 c11 k11
  have b_square_behind := F_square_behind.binds (ps := ["stroke", "here"]) fun _ _ _ _ _ _ us hl => match us, hl with | [_, _], _ => rfl
  have m_square_behind := PySem.W.mg_of X G a11
  have F_square_of := fun_mk (st := s_square_of) l12 c12 k12
  have b_square_of := F_square_of.binds (ps := ["place"]) fun _ _ _ _ _ _ us hl => match us, hl with | [_], _ => rfl
  have m_square_of := PySem.W.mg_of X G a12
  have F_p_meet := fun_mk (st := s_p_meet) l13 c13 k13
  have b_p_meet := F_p_meet.binds (ps := ["one", "other"]) fun _ _ _ _ _ _ us hl => match us, hl with | [_, _], _ => rfl
  have m_p_meet := PySem.W.mg_of X G a13
  have F_meet_in_line := fun_mk (st := s_meet_in_line) l14 c14 k14
  have b_meet_in_line := F_meet_in_line.binds (ps := ["one", "other"]) fun _ _ _ _ _ _ us hl => match us, hl with | [_, _], _ => rfl
  have m_meet_in_line := PySem.W.mg_of X G a14
  have F_need_named := fun_mk (st := s_need_named) l15 c15 k15
  have b_need_named := F_need_named.binds (ps := ["heap", "name"]) fun _ _ _ _ _ _ us hl => match us, hl with | [_, _], _ => rfl
  have m_need_named := PySem.W.mg_of X G a15
  have F_met_square := fun_mk (st := s_met_square) l16 c16 k16
  have b_met_square := F_met_square.binds (ps := ["one", "other"]) fun _ _ _ _ _ _ us hl => match us, hl with | [_, _], _ => rfl
  have m_met_square := PySem.W.mg_of X G a16
  have F_p_causes := fun_mk (st := s_p_causes) l17 c17 k17
  have b_p_causes := F_p_causes.binds (ps := ["heap"]) fun _ _ _ _ _ _ us hl => match us, hl with | [_], _ => rfl
  have m_p_causes := PySem.W.mg_of X G a17
  have F_end_causes := fun_mk (st := s_end_causes) l18 c18 k18
  have b_end_causes := F_end_causes.binds (ps := ["heap"]) fun _ _ _ _ _ _ us hl => match us, hl with | [_], _ => rfl
  have m_end_causes := PySem.W.mg_of X G a18
  have F_cross_causes := fun_mk (st := s_cross_causes) l19 c19 k19
  have b_cross_causes := F_cross_causes.binds (ps := ["heap"]) fun _ _ _ _ _ _ us hl => match us, hl with | [_], _ => rfl
  have m_cross_causes := PySem.W.mg_of X G a19
  have F_through := fun_mk (st := s_through) l20 c20 k20
  have b_through := F_through.binds (ps := ["heap", "spot"]) fun _ _ _ _ _ _ us hl => match us, hl with | [_, _], _ => rfl
  have m_through := PySem.W.mg_of X G a20
  have F_judge_heat := fun_mk (st := s_judge_heat) l21 c21 k21
  have b_judge_heat := F_judge_heat.binds (ps := ["heap", "spot", "paper"]) fun _ _ _ _ _ _ us hl => match us, hl with | [_, _, _], _ => rfl
  have m_judge_heat := PySem.W.mg_of X G a21
  have F_ends_there := fun_mk (st := s_ends_there) l22 c22 k22
  have b_ends_there := F_ends_there.binds (ps := ["heap", "spot", "name", "which"]) fun _ _ _ _ _ _ us hl => match us, hl with | [_, _, _, _], _ => rfl
  have m_ends_there := PySem.W.mg_of X G a22
  have F_cross_there := fun_mk (st := s_cross_there) l23 c23 k23
  have b_cross_there := F_cross_there.binds (ps := ["heap", "spot", "name", "other"]) fun _ _ _ _ _ _ us hl => match us, hl with | [_, _, _, _], _ => rfl
  have m_cross_there := PySem.W.mg_of X G a23
  have F_leave_cold := fun_mk (st := s_leave_cold) l24 c24 k24
  have b_leave_cold := F_leave_cold.binds (ps := ["heap", "spot", "names"]) fun _ _ _ _ _ _ us hl => match us, hl with | [_, _, _], _ => rfl
  have m_leave_cold := PySem.W.mg_of X G a24
  have F_bend_paper := fun_mk (st := s_bend_paper) l25 c25 k25
  have b_bend_paper := F_bend_paper.binds (ps := ["heap", "name"]) fun _ _ _ _ _ _ us hl => match us, hl with | [_, _], _ => rfl
  have m_bend_paper := PySem.W.mg_of X G a25
  have F_judge_bend := fun_mk (st := s_judge_bend) l26 c26 k26
  have b_judge_bend := F_judge_bend.binds (ps := ["heap", "name", "rows"]) fun _ _ _ _ _ _ us hl => match us, hl with | [_, _, _], _ => rfl
  have m_judge_bend := PySem.W.mg_of X G a26
  have F_row_shown := fun_mk (st := s_row_shown) l27 c27 k27
  have b_row_shown := F_row_shown.binds (ps := ["rows"]) fun _ _ _ _ _ _ us hl => match us, hl with | [_], _ => rfl
  have m_row_shown := PySem.W.mg_of X G a27
  have F_bag := fun_mk (st := s_bag) l28 c28 k28
  have b_bag := F_bag.binds (ps := ["_law_script"]) fun _ _ _ _ _ _ us hl => match us, hl with | [_], _ => rfl
  have m_bag := PySem.W.mg_of X G a28
  have F_pull := fun_mk (st := s_pull) l29 c29 k29
  have b_pull := F_pull.binds (ps := ["_law_bag_here", "_law_amount"]) fun _ _ _ _ _ _ us hl => match us, hl with | [_, _], _ => rfl
  have m_pull := PySem.W.mg_of X G a29
  have F_of := fun_mk (st := s_of) l30 c30 k30
  have b_of := F_of.binds (ps := ["_law_bag_here", "_law_things"]) fun _ _ _ _ _ _ us hl => match us, hl with | [_, _], _ => rfl
  have m_of := PySem.W.mg_of X G a30
  have F_like := fun_mk (st := s_like) l31 c31 k31
  have b_like := F_like.binds (ps := ["_law_found", "_law_due_here"]) fun _ _ _ _ _ _ us hl => match us, hl with | [_, _], _ => rfl
  have m_like := PySem.W.mg_of X G a31
  have F_common := fun_mk (st := s_common) l32 c32 k32
  have b_common := F_common.binds (ps := ["_law_one", "_law_other"]) fun _ _ _ _ _ _ us hl => match us, hl with | [_, _], _ => rfl
  have m_common := PySem.W.mg_of X G a32
  have F_low := fun_mk (st := s_low) l33 c33 k33
  have b_low := F_low.binds (ps := ["_law_over", "_law_under"]) fun _ _ _ _ _ _ us hl => match us, hl with | [_, _], _ => rfl
  have m_low := PySem.W.mg_of X G a33
  have F_near := fun_mk (st := s_near) l34 c34 k34
  have b_near := F_near.binds (ps := ["_law_part"]) fun _ _ _ _ _ _ us hl => match us, hl with | [_], _ => rfl
  have m_near := PySem.W.mg_of X G a34
  have F_clipped := fun_mk (st := s_clipped) l35 c35 k35
  have b_clipped := F_clipped.binds (ps := ["_law_number"]) fun _ _ _ _ _ _ us hl => match us, hl with | [_], _ => rfl
  have m_clipped := PySem.W.mg_of X G a35
  have F_spot := fun_mk (st := s_spot) l36 c36 k36
  have b_spot := F_spot.binds (ps := ["_law_bag_here", "_law_base_here", "_law_wide"]) fun _ _ _ _ _ _ us hl => match us, hl with | [_, _, _], _ => rfl
  have m_spot := PySem.W.mg_of X G a36
  have F_base := fun_mk (st := s_base) l37 c37 k37
  have b_base := F_base.binds (ps := ["_law_bag_here"]) fun _ _ _ _ _ _ us hl => match us, hl with | [_], _ => rfl
  have m_base := PySem.W.mg_of X G a37
  have F_stroke := fun_mk (st := s_stroke) l38 c38 k38
  have b_stroke := F_stroke.binds (ps := ["_law_bag_here", "_law_base_here", "_law_wide"]) fun _ _ _ _ _ _ us hl => match us, hl with | [_, _, _], _ => rfl
  have m_stroke := PySem.W.mg_of X G a38
  have F_beside := fun_mk (st := s_beside) l39 c39 k39
  have b_beside := F_beside.binds (ps := ["_law_bag_here", "_law_base_here", "_law_wide", "_law_some"]) fun _ _ _ _ _ _ us hl => match us, hl with | [_, _, _, _], _ => rfl
  have m_beside := PySem.W.mg_of X G a39
  have F_posts := fun_mk (st := s_posts) l40 c40 k40
  have b_posts := F_posts.binds (ps := ["_law_bag_here", "_law_many"]) fun _ _ _ _ _ _ us hl => match us, hl with | [_, _], _ => rfl
  have m_posts := PySem.W.mg_of X G a40
  have F_strokes := fun_mk (st := s_strokes) l41 c41 k41
  have b_strokes := F_strokes.binds (ps := ["_law_bag_here", "_law_many"]) fun _ _ _ _ _ _ us hl => match us, hl with | [_, _], _ => rfl
  have m_strokes := PySem.W.mg_of X G a41
  have F_names := fun_mk (st := s_names) l42 c42 k42
  have b_names := F_names.binds (ps := ["_law_bag_here"]) fun _ _ _ _ _ _ us hl => match us, hl with | [_], _ => rfl
  have m_names := PySem.W.mg_of X G a42
  have F_clip := fun_mk (st := s_clip) l43 c43 k43
  have b_clip := F_clip.binds (ps := ["_law_begin", "_law_step", "_law_low_here", "_law_high"]) fun _ _ _ _ _ _ us hl => match us, hl with | [_, _, _, _], _ => rfl
  have m_clip := PySem.W.mg_of X G a43
  have F_later := fun_mk (st := s_later) l44 c44 k44
  have b_later := F_later.binds (ps := ["_law_one", "_law_other"]) fun _ _ _ _ _ _ us hl => match us, hl with | [_, _], _ => rfl
  have m_later := PySem.W.mg_of X G a44
  have F_sooner := fun_mk (st := s_sooner) l45 c45 k45
  have b_sooner := F_sooner.binds (ps := ["_law_one", "_law_other"]) fun _ _ _ _ _ _ us hl => match us, hl with | [_, _], _ => rfl
  have m_sooner := PySem.W.mg_of X G a45
  have F_inside := fun_mk (st := s_inside) l46 c46 k46
  have b_inside := F_inside.binds (ps := ["_law_stroke_here", "_law_when", "_law_spot_here"]) fun _ _ _ _ _ _ us hl => match us, hl with | [_, _, _], _ => rfl
  have m_inside := PySem.W.mg_of X G a46
  have F_goes := fun_mk (st := s_goes) l47 c47 k47
  have b_goes := F_goes.binds (ps := ["_law_stroke_here", "_law_spot_here"]) fun _ _ _ _ _ _ us hl => match us, hl with | [_, _], _ => rfl
  have m_goes := PySem.W.mg_of X G a47
  have F_cross := fun_mk (st := s_cross) l48 c48 k48
  have b_cross := F_cross.binds (ps := ["_law_one", "_law_two", "_law_three"]) fun _ _ _ _ _ _ us hl => match us, hl with | [_, _, _], _ => rfl
  have m_cross := PySem.W.mg_of X G a48
  have F_meet := fun_mk (st := s_meet) l49 c49 k49
  have b_meet := F_meet.binds (ps := ["_law_one", "_law_other"]) fun _ _ _ _ _ _ us hl => match us, hl with | [_, _], _ => rfl
  have m_meet := PySem.W.mg_of X G a49
  have F_causes := fun_mk (st := s_causes) l50 c50 k50
  have b_causes := F_causes.binds (ps := ["_law_heap"]) fun _ _ _ _ _ _ us hl => match us, hl with | [_], _ => rfl
  have m_causes := PySem.W.mg_of X G a50
  have F_hot := fun_mk (st := s_hot) l51 c51 k51
  have b_hot := F_hot.binds (ps := ["_law_heap"]) fun _ _ _ _ _ _ us hl => match us, hl with | [_], _ => rfl
  have m_hot := PySem.W.mg_of X G a51
  have F_bent := fun_mk (st := s_bent) l52 c52 k52
  have b_bent := F_bent.binds (ps := ["_law_stroke_here", "_law_spots"]) fun _ _ _ _ _ _ us hl => match us, hl with | [_, _], _ => rfl
  have m_bent := PySem.W.mg_of X G a52
  have F_paper_right := fun_mk (st := s_paper_right) l53 c53 k53
  have b_paper_right := F_paper_right.binds (ps := ["_law_heap", "_law_spot_here", "_law_paper"]) fun _ _ _ _ _ _ us hl => match us, hl with | [_, _, _], _ => rfl
  have m_paper_right := PySem.W.mg_of X G a53
  have F_any_paper := fun_mk (st := s_any_paper) l54 c54 k54
  have b_any_paper := F_any_paper.binds (ps := ["_law_bag_here", "_law_heap", "_law_spot_here"]) fun _ _ _ _ _ _ us hl => match us, hl with | [_, _, _], _ => rfl
  have m_any_paper := PySem.W.mg_of X G a54
  have F_squares := fun_mk (st := s_squares) l55 c55 k55
  have b_squares := F_squares.binds (ps := ["_law_stroke_here"]) fun _ _ _ _ _ _ us hl => match us, hl with | [_], _ => rfl
  have m_squares := PySem.W.mg_of X G a55
  have F_spoilt := fun_mk (st := s_spoilt) l56 c56 k56
  have b_spoilt := F_spoilt.binds (ps := ["_law_bag_here", "_law_heap", "_law_told"]) fun _ _ _ _ _ _ us hl => match us, hl with | [_, _, _], _ => rfl
  have m_spoilt := PySem.W.mg_of X G a56
  have F_due := fun_mk (st := s_due) l57 c57 k57
  have b_due := F_due.binds (ps := ["_law_heap", "_law_squares_of", "_law_told"]) fun _ _ _ _ _ _ us hl => match us, hl with | [_, _, _], _ => rfl
  have m_due := PySem.W.mg_of X G a57
  have F_law := fun_mk (st := s_law) l58 c58 k58
  have b_law := F_law.binds (ps := ["_law_script"]) fun _ _ _ _ _ _ us hl => match us, hl with | [_], _ => rfl
  have m_law := PySem.W.mg_of X G a58
  have B : Blt mg := ⟨PySem.W.mg_none_of X G z_len, PySem.W.mg_none_of X G z_isinstance, PySem.W.mg_none_of X G z_all, PySem.W.mg_none_of X G z_list, PySem.W.mg_none_of X G z_tuple, PySem.W.mg_none_of X G z_dict, PySem.W.mg_none_of X G z_bool, PySem.W.mg_none_of X G z_range, PySem.W.mg_none_of X G z_abs, PySem.W.mg_none_of X G z_any, PySem.W.mg_none_of X G z_sorted, PySem.W.mg_none_of X G z_int, PySem.W.mg_none_of X G z_max, PySem.W.mg_none_of X G z_min, PySem.W.mg_none_of X G z_sum, PySem.W.mg_none_of X G z_zip, PySem.W.mg_none_of X G z_enumerate⟩
  refine ⟨PySem.W.fnOf "law" "law" (defArgs s_law) (defBody s_law) (defScope s_law) .none kV58 dc58 pm58 an58 cd58 ct58, fun s v => .of_eq rfl, fun base _ _ => ?_⟩
  have C_like : Cal l.prog w K mg base 2 "_law_like" ["_law_found", "_law_due_here"] (spLike 1) := ⟨_, _, ok_like B F_like b_like m_like 1, b_like, F_like.kp, m_like⟩
  have C_bag : Cal l.prog w K mg base 1 "_law_bag" ["_law_script"] (spBag K) := ⟨_, _, ok_bag B F_bag, b_bag, F_bag.kp, m_bag⟩
  have C_pull : Cal l.prog w K mg base 1 "_law_pull" ["_law_bag_here", "_law_amount"] spPull := ⟨_, _, ok_pull B F_pull, b_pull, F_pull.kp, m_pull⟩
  have C_of : Cal l.prog w K mg base 2 "_law_of" ["_law_bag_here", "_law_things"] spOf := ⟨_, _, ok_of B C_pull F_of, b_of, F_of.kp, m_of⟩
  have C_clipped : Cal l.prog w K mg base 1 "_law_clipped" ["_law_number"] spClip := ⟨_, _, ok_clipped B F_clipped, b_clipped, F_clipped.kp, m_clipped⟩
  have C_spot : Cal l.prog w K mg base 2 "_law_spot" ["_law_bag_here", "_law_base_here", "_law_wide"] spSpot := ⟨_, _, ok_spot C_pull C_clipped F_spot, b_spot, F_spot.kp, m_spot⟩
  have C_base : Cal l.prog w K mg base 3 "_law_base" ["_law_bag_here"] spBase := ⟨_, _, ok_base C_pull C_of F_base, b_base, F_base.kp, m_base⟩
  have C_stroke : Cal l.prog w K mg base 3 "_law_stroke" ["_law_bag_here", "_law_base_here", "_law_wide"] spStroke := ⟨_, _, ok_stroke C_spot F_stroke, b_stroke, F_stroke.kp, m_stroke⟩
  have C_common : Cal l.prog w K mg base 1 "_law_common" ["_law_one", "_law_other"] spCom := ⟨_, _, ok_common B F_common, b_common, F_common.kp, m_common⟩
  have C_low : Cal l.prog w K mg base 2 "_law_low" ["_law_over", "_law_under"] spLowP := ⟨_, _, ok_low C_common F_low, b_low, F_low.kp, m_low⟩
  have C_cross : Cal l.prog w K mg base 1 "_law_cross" ["_law_one", "_law_two", "_law_three"] (spCross K) := ⟨_, _, ok_cross F_cross, b_cross, F_cross.kp, m_cross⟩
  have C_low : Cal l.prog w K mg base 2 "_law_low" ["_law_over", "_law_under"] spLowN := ⟨_, _, ok_lowN C_common F_low, b_low, F_low.kp, m_low⟩
  have C_beside : Cal l.prog w K mg base 4 "_law_beside" ["_law_bag_here", "_law_base_here", "_law_wide", "_law_some"] spBeside := ⟨_, _, ok_beside B C_pull C_of C_stroke F_beside, b_beside, F_beside.kp, m_beside⟩
  have C_meet : Cal l.prog w K mg base 3 "_law_meet" ["_law_one", "_law_other"] spMeet := ⟨_, _, ok_meet B C_cross C_low F_meet, b_meet, F_meet.kp, m_meet⟩
  have C_common_measure : Cal l.prog w K mg base 1 "common_measure" ["one", "other"] spGcd := ⟨_, _, ok_common_measure F_common_measure, b_common_measure, F_common_measure.kp, m_common_measure⟩
  have C_lowest : Cal l.prog w K mg base 2 "lowest" ["over", "under"] spLow := ⟨_, _, ok_lowest B C_common_measure F_lowest, b_lowest, F_lowest.kp, m_lowest⟩
  have D_lowest : CalD l.prog w K mg base 2 "lowest" ["over", "under"] spLow [.int 1] := ⟨_, _, _, ok_lowest B C_common_measure F_lowest, bblowest_0, vlowest_0, F_lowest.kp, m_lowest⟩
  have C_meet_in_line : Cal l.prog w K mg base 3 "meet_in_line" ["one", "other"] spLine := ⟨_, _, ok_meet_in_line B D_lowest F_meet_in_line, b_meet_in_line, F_meet_in_line.kp, m_meet_in_line⟩
  have C_p_meet : Cal l.prog w K mg base 4 "meet" ["one", "other"] spMeet := ⟨_, _, ok_p_meet C_lowest C_meet_in_line F_p_meet, b_p_meet, F_p_meet.kp, m_p_meet⟩
  have C_ends_of : Cal l.prog w K mg base 1 "ends_of" ["stroke"] spEnds := ⟨_, _, ok_ends_of F_ends_of, b_ends_of, F_ends_of.kp, m_ends_of⟩
  have C_moments : Cal l.prog w K mg base 1 "moments" ["start", "end", "unit", "least", "greatest"] spMoments := ⟨_, _, ok_moments F_moments, b_moments, F_moments.kp, m_moments⟩
  have C_passes : Cal l.prog w K mg base 2 "passes" ["stroke", "least", "greatest"] spPasses := ⟨_, _, ok_passes B C_moments F_passes, b_passes, F_passes.kp, m_passes⟩
  have C_p_goes : Cal l.prog w K mg base 3 "goes" ["stroke", "spot"] spGoes := ⟨_, _, ok_p_goes C_passes F_p_goes, b_p_goes, F_p_goes.kp, m_p_goes⟩
  have C_clip : Cal l.prog w K mg base 1 "_law_clip" ["_law_begin", "_law_step", "_law_low_here", "_law_high"] spClp := ⟨_, _, ok_clip F_clip, b_clip, F_clip.kp, m_clip⟩
  have C_later : Cal l.prog w K mg base 1 "_law_later" ["_law_one", "_law_other"] spLater := ⟨_, _, ok_later F_later, b_later, F_later.kp, m_later⟩
  have C_sooner : Cal l.prog w K mg base 1 "_law_sooner" ["_law_one", "_law_other"] spSooner := ⟨_, _, ok_sooner F_sooner, b_sooner, F_sooner.kp, m_sooner⟩
  have C_inside : Cal l.prog w K mg base 1 "_law_inside" ["_law_stroke_here", "_law_when", "_law_spot_here"] spInside := ⟨_, _, ok_inside F_inside, b_inside, F_inside.kp, m_inside⟩
  have C_goes : Cal l.prog w K mg base 2 "_law_goes" ["_law_stroke_here", "_law_spot_here"] spGoes := ⟨_, _, ok_goes B C_clip C_later C_sooner C_inside F_goes, b_goes, F_goes.kp, m_goes⟩
  have C_nearest : Cal l.prog w K mg base 1 "nearest" ["one"] spNear := ⟨_, _, ok_nearest F_nearest, b_nearest, F_nearest.kp, m_nearest⟩
  have C_square_of : Cal l.prog w K mg base 2 "square_of" ["place"] spSquare := ⟨_, _, ok_square_of C_nearest F_square_of, b_square_of, F_square_of.kp, m_square_of⟩
  have C_p_sign : Cal l.prog w K mg base 1 "sign" ["number"] spSign := ⟨_, _, ok_p_sign F_p_sign, b_p_sign, F_p_sign.kp, m_p_sign⟩
  have C_heading : Cal l.prog w K mg base 2 "heading" ["stroke"] spHeading := ⟨_, _, ok_heading C_p_sign F_heading, b_heading, F_heading.kp, m_heading⟩
  have C_square_behind : Cal l.prog w K mg base 4 "square_behind" ["stroke", "here"] spBehind := ⟨_, _, ok_square_behind C_heading C_p_goes F_square_behind, b_square_behind, F_square_behind.kp, m_square_behind⟩
  have C_p_squares : Cal l.prog w K mg base 5 "squares" ["stroke"] spSquares := ⟨_, _, ok_p_squares C_ends_of C_square_behind F_p_squares, b_p_squares, F_p_squares.kp, m_p_squares⟩
  have C_met_square : Cal l.prog w K mg base 5 "met_square" ["one", "other"] spMetSq := ⟨_, _, ok_met_square C_p_meet C_square_of F_met_square, b_met_square, F_met_square.kp, m_met_square⟩
  have C_end_causes : Cal l.prog w K mg base 2 "end_causes" ["heap"] spEndCz := ⟨_, _, ok_end_causes B C_ends_of F_end_causes, b_end_causes, F_end_causes.kp, m_end_causes⟩
  have C_cross_causes : Cal l.prog w K mg base 6 "cross_causes" ["heap"] spCrossCz := ⟨_, _, ok_cross_causes B C_met_square F_cross_causes, b_cross_causes, F_cross_causes.kp, m_cross_causes⟩
  have C_p_causes : Cal l.prog w K mg base 7 "causes" ["heap"] spCauses := ⟨_, _, ok_p_causes B C_end_causes C_cross_causes F_p_causes, b_p_causes, F_p_causes.kp, m_p_causes⟩
  have C_names : Cal l.prog w K mg base 2 "_law_names" ["_law_bag_here"] spNames := ⟨_, _, ok_names C_pull F_names, b_names, F_names.kp, m_names⟩
  have C_posts : Cal l.prog w K mg base 2 "_law_posts" ["_law_bag_here", "_law_many"] spMany := ⟨_, _, ok_posts B C_pull F_posts, b_posts, F_posts.kp, m_posts⟩
  have C_strokes : Cal l.prog w K mg base 5 "_law_strokes" ["_law_bag_here", "_law_many"] spMany0 := ⟨_, _, zk_strokes B C_pull C_of C_base C_beside C_posts F_strokes, b_strokes, F_strokes.kp, m_strokes⟩
  have C_near : Cal l.prog w K mg base 1 "_law_near" ["_law_part"] spNear := ⟨_, _, ok_near F_near, b_near, F_near.kp, m_near⟩
  have C_causes : Cal l.prog w K mg base 4 "_law_causes" ["_law_heap"] spCauses := ⟨_, _, ok_causes B C_near C_meet F_causes, b_causes, F_causes.kp, m_causes⟩
  have C_hot : Cal l.prog w K mg base 5 "_law_hot" ["_law_heap"] spHotG := ⟨_, _, ok_hot B C_causes F_hot, b_hot, F_hot.kp, m_hot⟩
  have C_through : Cal l.prog w K mg base 4 "through" ["heap", "spot"] spThru := ⟨_, _, ok_through B C_p_goes F_through, b_through, F_through.kp, m_through⟩
  have C_ends_there : Cal l.prog w K mg base 2 "ends_there" ["heap", "spot", "name", "which"] spEndsThere := ⟨_, _, ok_ends_there B C_ends_of F_ends_there, b_ends_there, F_ends_there.kp, m_ends_there⟩
  have C_cross_there : Cal l.prog w K mg base 6 "cross_there" ["heap", "spot", "name", "other"] spCrossThere := ⟨_, _, ok_cross_there B C_met_square F_cross_there, b_cross_there, F_cross_there.kp, m_cross_there⟩
  have C_leave_cold : Cal l.prog w K mg base 7 "leave_cold" ["heap", "spot", "names"] spLeaveCold := ⟨_, _, ok_leave_cold B C_ends_of C_cross_there F_leave_cold, b_leave_cold, F_leave_cold.kp, m_leave_cold⟩
  have C_judge_heat : Cal l.prog w K mg base 8 "judge_heat" ["heap", "spot", "paper"] spJudge := ⟨_, _, ok_judge_heat B C_through C_ends_there C_cross_there C_leave_cold F_judge_heat, b_judge_heat, F_judge_heat.kp, m_judge_heat⟩
  have C_paper_right : Cal l.prog w K mg base 6 "_law_paper_right" ["_law_heap", "_law_spot_here", "_law_paper"] spJudge := ⟨_, _, ok_paper_right B C_goes C_causes C_hot F_paper_right, b_paper_right, F_paper_right.kp, m_paper_right⟩
  have C_any_paper : Cal l.prog w K mg base 5 "_law_any_paper" ["_law_bag_here", "_law_heap", "_law_spot_here"] spAnyPaper := ⟨_, _, ok_any_paper B C_pull C_of C_goes C_causes F_any_paper, b_any_paper, F_any_paper.kp, m_any_paper⟩
  have C_need_named : Cal l.prog w K mg base 1 "need_named" ["heap", "name"] spNamed := ⟨_, _, ok_need_named B F_need_named, b_need_named, F_need_named.kp, m_need_named⟩
  have C_bend_paper : Cal l.prog w K mg base 8 "bend_paper" ["heap", "name"] spBendP := ⟨_, _, ok_bend_paper B C_need_named C_p_causes C_through C_p_squares F_bend_paper, b_bend_paper, F_bend_paper.kp, m_bend_paper⟩
  have C_judge_bend : Cal l.prog w K mg base 9 "judge_bend" ["heap", "name", "rows"] spJudgeB := ⟨_, _, ok_judge_bend B C_need_named C_judge_heat C_p_squares F_judge_bend, b_judge_bend, F_judge_bend.kp, m_judge_bend⟩
  have C_row_shown : Cal l.prog w K mg base 1 "row_shown" ["rows"] spShown := ⟨_, _, ok_row_shown B F_row_shown, b_row_shown, F_row_shown.kp, m_row_shown⟩
  have C_bent : Cal l.prog w K mg base 3 "_law_bent" ["_law_stroke_here", "_law_spots"] spLBent := ⟨_, _, ok_bent B C_goes F_bent, b_bent, F_bent.kp, m_bent⟩
  have C_squares : Cal l.prog w K mg base 4 "_law_squares" ["_law_stroke_here"] spLSq := ⟨_, _, ok_squares B C_bent F_squares, b_squares, F_squares.kp, m_squares⟩
  have C_spoilt : Cal l.prog w K mg base 6 "_law_spoilt" ["_law_bag_here", "_law_heap", "_law_told"] spSpoilt := ⟨_, _, ok_spoilt B C_pull C_any_paper F_spoilt, b_spoilt, F_spoilt.kp, m_spoilt⟩
  have C_due : Cal l.prog w K mg base 7 "_law_due" ["_law_heap", "_law_squares_of", "_law_told"] spDue := ⟨_, _, ok_due B C_paper_right F_due, b_due, F_due.kp, m_due⟩
  exact ok_law B C_bag C_pull C_of C_names C_like C_strokes C_squares C_spoilt C_due C_bend_paper C_judge_bend C_row_shown F_law
theorem walk {l : PySem.W.OpenLaw} {q : Program} {loose : List Str} {XP : (Str → Option Value) → Heap → Prop} {YP : World → Heap → Prop} {d : DefRec} {K : Params → PySem.W.Frag} (hn : l.most = some 63) (hdf : d.params.defaults = [])
    (hY : ∀ (w : World) (h : Heap), YP w h → (K w.params).In h)
    (F : ∀ (w : World) (mg : Str → Option Value) (fa : Addr) (h : Heap), (K w.params).In h → h.Ns mainGlobals mg → mg d.name = some (.ref fa) →
      ∃ fd : FuncData, (∀ (s : Shared) (u : Value), BindsTo s fd ⟨[u], []⟩ [("_law_script", u)]) ∧ ∀ base : Heap, (K w.params).In base → base.Ns mainGlobals mg → FnOk l.prog w (K w.params) mg base CX0 10 fa fd ["_law_script"] (spLaw (K w.params))) :
    PySem.W.WalkO q loose XP YP l.row.toRowW d [] (fun f vs => PySem.call f vs) :=
  L2.walk_of (n := 63) (k := 10) (x := "_law_script") (CX := fun _ => CX0) (sp := fun w => spLaw (K w.params)) hn (by decide) hdf ⟨rfl, by decide, by decide⟩ hY F (fun _ _ a ns hl _ hS => ⟨a, ns, rfl, hS, hl, fun _ => rfl⟩) fun _ _ _ _ _ z => z
end DM
open PySem PySem.W PyProof.Rows
set_option maxRecDepth 100000 in
set_option maxHeartbeats 0 in
theorem PySem.Challenge.cw_dotmoor_k43_whole_the_judge_of_bent_rows_holds : PySem.Challenge.rw_dotmoor_k43_whole_the_judge_of_bent_rows.Holds := by
  w_on; o_law; k_head; (case hw => w_witness2)
  k_fill
  refine DM.walk (l := PySem.Challenge.rw_dotmoor_k43_whole_the_judge_of_bent_rows) rfl rfl (fun w h Y => PySem.W.kIn_of Y) ?F
  case F =>
    intro w mg fa h KX G hmg
    refine' DM.all_mk KX G hmg ?a1 ?l1 ?c1 ?k1 ?a2 ?l2 ?c2 ?k2 ?t2 ?a3 ?l3 ?c3 ?k3 ?a4 ?l4 ?c4 ?k4 ?a5 ?l5 ?c5 ?k5 ?a6 ?l6 ?c6 ?k6 ?a7 ?l7 ?c7 ?k7 ?a8 ?l8 ?c8 ?k8 ?a9 ?l9 ?c9 ?k9 ?a10 ?l10 ?c10 ?k10 ?a11 ?l11 ?c11 ?k11 ?a12 ?l12 ?c12 ?k12 ?a13 ?l13 ?c13 ?k13 ?a14 ?l14 ?c14 ?k14 ?a15 ?l15 ?c15 ?k15 ?a16 ?l16 ?c16 ?k16 ?a17 ?l17 ?c17 ?k17 ?a18 ?l18 ?c18 ?k18 ?a19 ?l19 ?c19 ?k19 ?a20 ?l20 ?c20 ?k20 ?a21 ?l21 ?c21 ?k21 ?a22 ?l22 ?c22 ?k22 ?a23 ?l23 ?c23 ?k23 ?a24 ?l24 ?c24 ?k24 ?a25 ?l25 ?c25 ?k25 ?a26 ?l26 ?c26 ?k26 ?a27 ?l27 ?c27 ?k27 ?a28 ?l28 ?c28 ?k28 ?a29 ?l29 ?c29 ?k29 ?a30 ?l30 ?c30 ?k30 ?a31 ?l31 ?c31 ?k31 ?a32 ?l32 ?c32 ?k32 ?a33 ?l33 ?c33 ?k33 ?a34 ?l34 ?c34 ?k34 ?a35 ?l35 ?c35 ?k35 ?a36 ?l36 ?c36 ?k36 ?a37 ?l37 ?c37 ?k37 ?a38 ?l38 ?c38 ?k38 ?a39 ?l39 ?c39 ?k39 ?a40 ?l40 ?c40 ?k40 ?a41 ?l41 ?c41 ?k41 ?a42 ?l42 ?c42 ?k42 ?a43 ?l43 ?c43 ?k43 ?a44 ?l44 ?c44 ?k44 ?a45 ?l45 ?c45 ?k45 ?a46 ?l46 ?c46 ?k46 ?a47 ?l47 ?c47 ?k47 ?a48 ?l48 ?c48 ?k48 ?a49 ?l49 ?c49 ?k49 ?a50 ?l50 ?c50 ?k50 ?a51 ?l51 ?c51 ?k51 ?a52 ?l52 ?c52 ?k52 ?a53 ?l53 ?c53 ?k53 ?a54 ?l54 ?c54 ?k54 ?a55 ?l55 ?c55 ?k55 ?a56 ?l56 ?c56 ?k56 ?a57 ?l57 ?c57 ?k57 ?a58 ?l58 ?c58 ?k58 ?z_len ?z_isinstance ?z_all ?z_list ?z_tuple ?z_dict ?z_bool ?z_range ?z_abs ?z_any ?z_sorted ?z_int ?z_max ?z_min ?z_sum ?z_zip ?z_enumerate
    (case a1 => k_is)
    (case l1 => k_is)
    (case c1 => k_is)
    (case k1 => k_is)
    (case a2 => k_is)
    (case l2 => k_is)
    (case c2 => k_is)
    (case k2 => k_is)
    (case t2 => k_is)
    (case a3 => k_is)
    (case l3 => k_is)
    (case c3 => k_is)
    (case k3 => k_is)
    (case a4 => k_is)
    (case l4 => k_is)
    (case c4 => k_is)
    (case k4 => k_is)
    (case a5 => k_is)
    (case l5 => k_is)
    (case c5 => k_is)
    (case k5 => k_is)
    (case a6 => k_is)
    (case l6 => k_is)
    (case c6 => k_is)
    (case k6 => k_is)
    (case a7 => k_is)
    (case l7 => k_is)
    (case c7 => k_is)
    (case k7 => k_is)
    (case a8 => k_is)
    (case l8 => k_is)
    (case c8 => k_is)
    (case k8 => k_is)
    (case a9 => k_is)
    (case l9 => k_is)
    (case c9 => k_is)
    (case k9 => k_is)
    (case a10 => k_is)
    (case l10 => k_is)
    (case c10 => k_is)
    (case k10 => k_is)
    (case a11 => k_is)
    (case l11 => k_is)
    (case c11 => k_is)
    (case k11 => k_is)
    (case a12 => k_is)
    (case l12 => k_is)
    (case c12 => k_is)
    (case k12 => k_is)
    (case a13 => k_is)
    (case l13 => k_is)
    (case c13 => k_is)
    (case k13 => k_is)
    (case a14 => k_is)
    (case l14 => k_is)
    (case c14 => k_is)
    (case k14 => k_is)
    (case a15 => k_is)
    (case l15 => k_is)
    (case c15 => k_is)
    (case k15 => k_is)
    (case a16 => k_is)
    (case l16 => k_is)
    (case c16 => k_is)
    (case k16 => k_is)
    (case a17 => k_is)
    (case l17 => k_is)
    (case c17 => k_is)
    (case k17 => k_is)
    (case a18 => k_is)
    (case l18 => k_is)
    (case c18 => k_is)
    (case k18 => k_is)
    (case a19 => k_is)
    (case l19 => k_is)
    (case c19 => k_is)
    (case k19 => k_is)
    (case a20 => k_is)
    (case l20 => k_is)
    (case c20 => k_is)
    (case k20 => k_is)
    (case a21 => k_is)
    (case l21 => k_is)
    (case c21 => k_is)
    (case k21 => k_is)
    (case a22 => k_is)
    (case l22 => k_is)
    (case c22 => k_is)
    (case k22 => k_is)
    (case a23 => k_is)
    (case l23 => k_is)
    (case c23 => k_is)
    (case k23 => k_is)
    (case a24 => k_is)
    (case l24 => k_is)
    (case c24 => k_is)
    (case k24 => k_is)
    (case a25 => k_is)
    (case l25 => k_is)
    (case c25 => k_is)
    (case k25 => k_is)
    (case a26 => k_is)
    (case l26 => k_is)
    (case c26 => k_is)
    (case k26 => k_is)
    (case a27 => k_is)
    (case l27 => k_is)
    (case c27 => k_is)
    (case k27 => k_is)
    (case a28 => k_is)
    (case l28 => k_is)
    (case c28 => k_is)
    (case k28 => k_is)
    (case a29 => k_is)
    (case l29 => k_is)
    (case c29 => k_is)
    (case k29 => k_is)
    (case a30 => k_is)
    (case l30 => k_is)
    (case c30 => k_is)
    (case k30 => k_is)
    (case a31 => k_is)
    (case l31 => k_is)
    (case c31 => k_is)
    (case k31 => k_is)
    (case a32 => k_is)
    (case l32 => k_is)
    (case c32 => k_is)
    (case k32 => k_is)
    (case a33 => k_is)
    (case l33 => k_is)
    (case c33 => k_is)
    (case k33 => k_is)
    (case a34 => k_is)
    (case l34 => k_is)
    (case c34 => k_is)
    (case k34 => k_is)
    (case a35 => k_is)
    (case l35 => k_is)
    (case c35 => k_is)
    (case k35 => k_is)
    (case a36 => k_is)
    (case l36 => k_is)
    (case c36 => k_is)
    (case k36 => k_is)
    (case a37 => k_is)
    (case l37 => k_is)
    (case c37 => k_is)
    (case k37 => k_is)
    (case a38 => k_is)
    (case l38 => k_is)
    (case c38 => k_is)
    (case k38 => k_is)
    (case a39 => k_is)
    (case l39 => k_is)
    (case c39 => k_is)
    (case k39 => k_is)
    (case a40 => k_is)
    (case l40 => k_is)
    (case c40 => k_is)
    (case k40 => k_is)
    (case a41 => k_is)
    (case l41 => k_is)
    (case c41 => k_is)
    (case k41 => k_is)
    (case a42 => k_is)
    (case l42 => k_is)
    (case c42 => k_is)
    (case k42 => k_is)
    (case a43 => k_is)
    (case l43 => k_is)
    (case c43 => k_is)
    (case k43 => k_is)
    (case a44 => k_is)
    (case l44 => k_is)
    (case c44 => k_is)
    (case k44 => k_is)
    (case a45 => k_is)
    (case l45 => k_is)
    (case c45 => k_is)
    (case k45 => k_is)
    (case a46 => k_is)
    (case l46 => k_is)
    (case c46 => k_is)
    (case k46 => k_is)
    (case a47 => k_is)
    (case l47 => k_is)
    (case c47 => k_is)
    (case k47 => k_is)
    (case a48 => k_is)
    (case l48 => k_is)
    (case c48 => k_is)
    (case k48 => k_is)
    (case a49 => k_is)
    (case l49 => k_is)
    (case c49 => k_is)
    (case k49 => k_is)
    (case a50 => k_is)
    (case l50 => k_is)
    (case c50 => k_is)
    (case k50 => k_is)
    (case a51 => k_is)
    (case l51 => k_is)
    (case c51 => k_is)
    (case k51 => k_is)
    (case a52 => k_is)
    (case l52 => k_is)
    (case c52 => k_is)
    (case k52 => k_is)
    (case a53 => k_is)
    (case l53 => k_is)
    (case c53 => k_is)
    (case k53 => k_is)
    (case a54 => k_is)
    (case l54 => k_is)
    (case c54 => k_is)
    (case k54 => k_is)
    (case a55 => k_is)
    (case l55 => k_is)
    (case c55 => k_is)
    (case k55 => k_is)
    (case a56 => k_is)
    (case l56 => k_is)
    (case c56 => k_is)
    (case k56 => k_is)
    (case a57 => k_is)
    (case l57 => k_is)
    (case c57 => k_is)
    (case k57 => k_is)
    (case a58 => k_is)
    (case l58 => k_is)
    (case c58 => k_is)
    (case k58 => k_is)
    (case z_len => k_is)
    (case z_isinstance => k_is)
    (case z_all => k_is)
    (case z_list => k_is)
    (case z_tuple => k_is)
    (case z_dict => k_is)
    (case z_bool => k_is)
    (case z_range => k_is)
    (case z_abs => k_is)
    (case z_any => k_is)
    (case z_sorted => k_is)
    (case z_int => k_is)
    (case z_max => k_is)
    (case z_min => k_is)
    (case z_sum => k_is)
    (case z_zip => k_is)
    (case z_enumerate => k_is)

