import PyProof.Rows.All
import Wide.All
import OpenK.AllK
import Wide.FinOn
import HandS.ForMost
import HandS.IsInst
import HandS.Wide
import HandS.Style
import HandS.Flt
import HandS.Deep
import HandS.Lambda
import HandS.Nested
import HandS.SortKw
import KE.SortKeyHeap
import HandS.EndOwn
import KE.KNestM
import KE.KDictPairs
import HandS.DictComp
import HandS.ForExc
import HandS.ExcInit
import HandS.ExcField
import HandS.ClsMeth
import HandS.CallSlots
import KE.KExcIs
import HandS.Defaults
import HandS.TryMany
import HandS.FStr
import HandS.FStrTup
import KE.SortData
import HandS.Conv
import HandS.Small
import PySem.Challenge.RW_dotmoor_k13_strokes_bent_through_spots
set_option Elab.async false
set_option linter.all false
set_option maxRecDepth 100000
set_option maxHeartbeats 4000000
namespace DM
open PySem L2
/-! ### built-ins by their names -/
theorem bt_len : bootBuiltins "len" = some (.builtin "len") := by decide +kernel
theorem bt_isinstance : bootBuiltins "isinstance" = some (.builtin "isinstance") := by decide +kernel
theorem bt_all : bootBuiltins "all" = some (.builtin "all") := by decide +kernel
theorem bt_any : bootBuiltins "any" = some (.builtin "any") := by decide +kernel
theorem bt_sorted : bootBuiltins "sorted" = some (.builtin "sorted") := by decide +kernel
theorem bt_abs : bootBuiltins "abs" = some (.builtin "abs") := by decide +kernel
theorem bt_max : bootBuiltins "max" = some (.builtin "max") := by decide +kernel
theorem bt_min : bootBuiltins "min" = some (.builtin "min") := by decide +kernel
theorem bt_sum : bootBuiltins "sum" = some (.builtin "sum") := by decide +kernel
theorem bt_list : bootBuiltins "list" = some (.type "list") := by decide +kernel
theorem bt_tuple : bootBuiltins "tuple" = some (.type "tuple") := by decide +kernel
theorem bt_dict : bootBuiltins "dict" = some (.type "dict") := by decide +kernel
theorem bt_bool : bootBuiltins "bool" = some (.type "bool") := by decide +kernel
theorem bt_int : bootBuiltins "int" = some (.type "int") := by decide +kernel
structure Blt (mg : Str → Option Value) : Prop where
  len : mg "len" = none
  isinstance : mg "isinstance" = none
  all : mg "all" = none
  list : mg "list" = none
  tuple : mg "tuple" = none
  dict : mg "dict" = none
  bool : mg "bool" = none
  range : mg "range" = none
  abs : mg "abs" = none
  any : mg "any" = none
  sorted : mg "sorted" = none
  int : mg "int" = none
  max : mg "max" = none
  min : mg "min" = none
  sum : mg "sum" = none
  zip : mg "zip" = none
  enumerate : mg "enumerate" = none
/-! ### a def that may be called by its name -/
def Cal (P : Program) (w : World) (K : PySem.W.Frag) (mg : Str → Option Value) (base : Heap) (k : Nat) (x : Str) (ps : List Str) (sp : Sp) : Prop :=
  ∃ (f : Addr) (fd : FuncData), FnOk P w K mg base CX0 k f fd ps sp ∧ Binds K fd ps [] ∧ PySem.W.keepIn K (.ref f) = true ∧ mg x = some (.ref f)
section
variable {X : Cx}
theorem pe_cal {k k' : Nat} {x : Str} {ps : List Str} {sp : Sp} {e : Expr} {es : List Expr} {t : TA} {p pos : Pos} (C : Cal X.prog X.w X.K X.mg X.base k x ps sp) (hr : Room k' X.A) (ha : PA X (e :: es) t)
    (hk : k ≤ k' := by decide) (hg : Gl X x := by rfl) (hdb : (x == ("__debug__" : Str)) = false := by decide) (he : starEach (e :: es) X.env = (false, eval e X.env) :: starEach es X.env := by rfl) (hpl : (backTo pos (starEach es X.env)).any (·.1) = false := by rfl) :
    PE X (.Call (.Name x p) (e :: es) [] pos) (tCall sp [] E0 t) := by
  obtain ⟨f, fd, F, b, kp, hm⟩ := C
  exact pe_call F (hr.mono hk) hg hm kp b .nil pass0 ha hdb he hpl
end
theorem nil_binds {K : PySem.W.Frag} {fd : FuncData} {ps : List Str} {ds : List Value} (v : Vals [] ds) (b : Binds K fd ps ds) : Binds K fd ps [] := by
  cases v
  exact b
/-! ### statements -/
theorem seq_with {t u : TS} {D : Ends} {σ : St} {H : Hp} (P : St → Hp → Prop) (h1 : ∀ R : St → Hp → Prop, (∀ σ' H', P σ' H' → R σ' H') → t { D with nx := R } σ H) (h2 : ∀ σ' H', P σ' H' → u D σ' H') : tSeq t u D σ H := h1 (u D) h2
theorem iteDF {c : Prop} [Decidable c] {A B : Prop} (hc : ¬ c) (h : B) : if decide c = true then A else B := by
  rw [decide_eq_false hc]
  exact iteF h
theorem iteDT {c : Prop} [Decidable c] {A B : Prop} (hc : c) (h : A) : if decide c = true then A else B := by
  rw [decide_eq_true hc]
  exact iteT h
theorem same_new {H : Hp} {p : Addr} (h : H p = none) (o : HO) : Same H (upd H p o) := fun b u q => by rw [upd_ne (ne_of_none q h)]; exact q
theorem new_at {H : Hp} {p : Addr} {o : HO} (_ : Same H (upd H p o)) : upd H p o p = some o := upd_same
theorem sz {n : Nat} (h : n ≤ 100000) : n ≤ sizeLine := Nat.le_trans h (by decide)
/-! ### the bag -/
/-- all but what stands at b is as it was -/
def But (b : Addr) (H H' : Hp) : Prop := ∀ a o, a ≠ b → H a = some o → H' a = some o
theorem But.refl {b : Addr} {H : Hp} : But b H H := fun _ _ _ h => h
theorem But.trans {b : Addr} {H H1 H2 : Hp} (x : But b H H1) (y : But b H1 H2) : But b H H2 := fun a o h e => y a o h (x a o h e)
theorem But.of {b : Addr} {H H1 : Hp} (x : Same H H1) : But b H H1 := fun a o _ e => x a o e
theorem But.upd {b : Addr} {H : Hp} {o : HO} : But b H (upd H b o) := fun a u h e => by rw [upd_ne h]; exact e
def BagAt (H : Hp) (b l : Addr) : Prop := ∃ (ns : List Int) (i g s : Int), H b = some (.lst [.ref l, .int i, .int g, .int s]) ∧ H l = some (.lst (ns.map V.int)) ∧ ns.length ≤ 63 ∧ 0 ≤ i ∧ 0 ≤ g ∧ 0 ≤ s ∧ s < 2147483647
theorem bag_ne {H : Hp} {b l : Addr} {ns : List Int} {i g s : Int} (h : H b = some (.lst [.ref l, .int i, .int g, .int s])) (h' : H l = some (.lst (ns.map V.int))) : l ≠ b := by
  refine ne_of h' h fun e => ?_
  have e1 := HO.lst.inj e
  cases ns with
  | nil => cases e1
  | cons a r => cases e1
theorem bag_upd {H : Hp} {b l : Addr} {ns : List Int} {i g s : Int} (hl : l ≠ b) (h' : H l = some (.lst (ns.map V.int))) (h63 : ns.length ≤ 63) (hi : 0 ≤ i) (hg : 0 ≤ g) (h0 : 0 ≤ s) (h1 : s < 2147483647) : BagAt (upd H b (.lst [.ref l, .int i, .int g, .int s])) b l :=
  ⟨ns, i, g, s, upd_same, by rw [upd_ne hl]; exact h', h63, hi, hg, h0, h1⟩
theorem BagAt.same {H H' : Hp} {b l : Addr} (h : BagAt H b l) (e : Same H H') : BagAt H' b l := by
  obtain ⟨ns, i, g, s, h1, h2, r⟩ := h
  exact ⟨ns, i, g, s, e _ _ h1, e _ _ h2, r⟩
theorem BagAt.hasB {H : Hp} {b l : Addr} (h : BagAt H b l) : ∃ xs, H b = some (.lst xs) := by
  obtain ⟨ns, i, g, s, h1, _⟩ := h
  exact ⟨_, h1⟩
theorem BagAt.hasL {H : Hp} {b l : Addr} (h : BagAt H b l) : ∃ xs, H l = some (.lst xs) := by
  obtain ⟨ns, i, g, s, h1, h2, _⟩ := h
  exact ⟨_, h2⟩
/-- a store elsewhere leaves the bag -/
theorem BagAt.put {H : Hp} {b l p : Addr} {o : HO} (h : BagAt H b l) (h1 : p ≠ b) (h2 : p ≠ l) : BagAt (upd H p o) b l := by
  obtain ⟨ns, i, g, s, e1, e2, r⟩ := h
  exact ⟨ns, i, g, s, by rw [upd_ne (Ne.symm h1)]; exact e1, by rw [upd_ne (Ne.symm h2)]; exact e2, r⟩
/-- what is new is not the bag's -/
theorem BagAt.new {H : Hp} {b l p : Addr} (h : BagAt H b l) (hp : H p = none) : p ≠ b ∧ p ≠ l := by
  obtain ⟨xs, e1⟩ := h.hasB
  obtain ⟨ys, e2⟩ := h.hasL
  exact ⟨Ne.symm (ne_of_none e1 hp), Ne.symm (ne_of_none e2 hp)⟩
theorem bag_tup {H : Hp} {b l p : Addr} {xs : List V} (hB : BagAt H b l) (h : H p = some (.tup xs)) : p ≠ b := by
  obtain ⟨ys, e⟩ := hB.hasB
  exact ne_of h e (by intro z; cases z)
/-- what the bag's makers and readers promise -/
def spBag (K : PySem.W.Frag) : Sp := fun vs H Q _ => ∃ (a : Addr) (ns : List Int), vs = [.ref a] ∧ SqL K H a (ns.map V.int) ∧ ns.length ≤ 63 ∧ ∀ (b l : Addr) (H' : Hp), Same H H' → H b = none → H l = none → BagAt H' b l → Q (.ref b) H'
def spPull : Sp := fun vs H Q _ => ∃ (b l : Addr) (m : Int), vs = [.ref b, .int m] ∧ BagAt H b l ∧ 0 < m ∧ m < 4611686018427387904 ∧ ∀ (r : Int) (H' : Hp), BagAt H' b l → But b H H' → 0 ≤ r → r < m → Q (.int r) H'
def spOf : Sp := fun vs H Q _ => ∃ (b l p : Addr) (xs : List V), vs = [.ref b, .ref p] ∧ BagAt H b l ∧ H p = some (.lst xs) ∧ p ≠ b ∧ 0 < xs.length ∧ xs.length ≤ 1000 ∧ ∀ (v : V) (H' : Hp), BagAt H' b l → But b H H' → v ∈ xs → Q v H'
def spLaw (K : PySem.W.Frag) : Sp := fun vs H Q _ => ∃ (a : Addr) (ns : List Int), vs = [.ref a] ∧ SqL K H a (ns.map V.int) ∧ ns.length ≤ 63 ∧ ∀ H', Q (.bl true) H'
end DM

namespace DM
open PySem L2
def top (i : Nat) : Stmt := PySem.Challenge.pw_dotmoor_k13_strokes_bent_through_spots.main.body.getD i (.Pass ⟨0, 0, 0, 0⟩)
section
variable {P : Program} {w : World} {K : PySem.W.Frag} {mg : Str → Option Value} {base : Heap} {f : Addr} {fd : FuncData}
abbrev s_bag : Stmt := top 23
theorem sc_bag : FnScope ["_law_script", "_law_salt", "_law_cell"] ["_law_script"] (defScope s_bag) := ⟨rfl, rfl, rfl, by decide +kernel, rfl, by decide +kernel, by decide +kernel⟩
theorem cut_ints (ns : List Int) : ∃ ms : List Int, cutV (ns.map V.int) none (some 63) = ms.map V.int ∧ ms.length ≤ ns.length := by
  refine ⟨(ns.drop (HT.sIx ns.length 0 none)).take (HT.sIx ns.length ns.length (some 63) - HT.sIx ns.length 0 none), ?_, ?_⟩
  · unfold cutV
    rw [List.length_map, List.map_take, List.map_drop]
  · rw [List.length_take, List.length_drop]
    omega
theorem ok_bag (B : Blt mg) (F : Fun K "_law_bag" "_law_bag" s_bag f fd) : FnOk P w K mg base CX0 1 f fd ["_law_script"] (spBag K) := by
  refine F.ok sc_bag (fun vs H Q E h => ?_) (fun cdv A outer s H vs Q E hr h => ?_)
  · obtain ⟨a, ns, rfl, _⟩ := h
    rfl
  obtain ⟨a, ns, rfl, hS, h63, q⟩ := h
  refine ⟨_, (pss_cons (ps_set (i := 1) sc_bag.nd rfl (Or.inl rfl) pe_int)
    (pss_cons (ps_for PassesOwn.never rfl (pi_list (pe_slice sl_list (pv 0) po_none (po_some pe_int))) (pg_name (i := 2) sc_bag.nd rfl (Or.inl rfl))
    (pss_one (ps_set (i := 1) sc_bag.nd rfl (Or.inl rfl) (pe_op op_mod (pe_op op_add (pe_op op_add (pe_op op_mul (pv 1) pe_int) (pe_op op_mod (pv 2) pe_int)) pe_int) pe_int))))
    (pss_one (ps_ret (pe_lst (pa_cons (pe_callTy call_list_of rfl B.list bt_list (pa_cons (pe_slice sl_list (pv 0) po_none (po_some pe_int)) pa_nil)) (pa_cons pe_int (pa_cons pe_int (pa_cons (pv 1) pa_nil))))))))), ?_⟩
  obtain ⟨ms, em, lm⟩ := cut_ints ns
  refine ⟨_, rfl, _, rfl, a, _, rfl, hS, fun p hp => ?_⟩
  refine ⟨p, rfl, ⟨_, SqL.of upd_same⟩, ?_⟩
  have g1 : Same H (upd H p (.lst (cutV (ns.map V.int) none (some 63)))) := same_new hp _
  have hp1 : upd H p (.lst (cutV (ns.map V.int) none (some 63))) p = some (.lst (ms.map V.int)) := by rw [upd_same, em]
  refine for_list (K := K) (a := p) (xs := ms.map V.int) (fun _ σ H' => H' = upd H p (.lst (cutV (ns.map V.int) none (some 63))) ∧ ∃ (s : Int) (c : Option V), σ = [some (.ref a), some (.int s), c] ∧ 0 ≤ s ∧ s < 2147483647) ?_ ?_ ?_ ?_
  · exact ⟨rfl, 9117, none, rfl, by decide, by decide⟩
  · rintro i σ H' _ ⟨rfl, _⟩
    exact SqL.of hp1
  · rintro i x σ H' hx ⟨rfl, s, c, rfl, h0, h1⟩
    obtain ⟨n, rfl⟩ : ∃ n, x = V.int n := by
      rw [List.getElem?_map] at hx
      cases e : ms[i]? with
      | none => rw [e] at hx; cases hx
      | some n => rw [e] at hx; exact ⟨n, (Option.some.inj hx).symm⟩
    refine ⟨_, rfl, _, _, rfl, rfl, .inr ⟨by decide, by decide⟩, _, rfl, _, _, rfl, rfl, (by dsimp only; decide), _, _, rfl, rfl, _, _, rfl, rfl, _, _, rfl, rfl, (by dsimp only; decide), ?_⟩
    refine ⟨rfl, _, _, rfl, ?_, ?_⟩
    · exact Int.emod_nonneg _ (by decide)
    · exact Int.emod_lt_of_pos _ (by decide)
  · rintro σ H' ⟨rfl, s, c, rfl, h0, h1⟩
    refine ⟨_, rfl, _, rfl, a, _, rfl, g1.seq hS, fun p2 hp2 => ?_⟩
    refine ⟨p2, _, rfl, .inl (SqL.of upd_same), fun p3 hp3 => ?_⟩
    refine ⟨_, rfl, sz (by decide : 4 ≤ 100000), fun p4 hp4 => ?_⟩
    refine q p4 p3 _ (g1.trans ((same_new hp2 _).trans ((same_new hp3 _).trans (same_new hp4 _)))) ?_ (g1.free ((same_new hp2 _).free hp3)) ?_
    · exact g1.free ((same_new hp2 _).free ((same_new hp3 _).free hp4))
    · refine bag_upd (ns := ms) (Ne.symm (Ne.symm (ne_of_none (H := upd _ p3 _) upd_same hp4))) ?_ (by omega) (by decide) (by decide) h0 h1
      rw [upd_same, em]
abbrev s_pull : Stmt := top 24
theorem sc_pull : FnScope ["_law_bag_here", "_law_amount", "_law_cell", "_law_got", "_law_seed"] ["_law_bag_here", "_law_amount"] (defScope s_pull) := ⟨rfl, rfl, rfl, by decide +kernel, rfl, by decide +kernel, by decide +kernel⟩
theorem ok_pull (B : Blt mg) (F : Fun K "_law_pull" "_law_pull" s_pull f fd) : FnOk P w K mg base CX0 1 f fd ["_law_bag_here", "_law_amount"] spPull := by
  refine F.ok sc_pull (fun vs H Q E h => ?_) (fun cdv A outer s H vs Q E hr h => ?_)
  · obtain ⟨b, l, m, rfl, _⟩ := h
    rfl
  obtain ⟨b, l, m, rfl, hB, hm0, hm1, q⟩ := h
  refine ⟨_, (pss_cons (ps_if (PW.pt (pw_and (pt_cmpR op_eq (pe_ix ix_list (pv 0) pe_int (fun _ _ => rfl)) pe_int (nomark _)) (pw_and1 (pt_cmpR op_lt (pe_ix ix_list (pv 0) pe_int (fun _ _ => rfl)) (pe_callB call_len_seq rfl B.len bt_len (pa_cons (pe_ix ix_list (pv 0) pe_int (fun _ _ => rfl)) pa_nil)) (nomark _)))))
    (pss_cons (ps_set (i := 2) sc_pull.nd rfl (Or.inl rfl) (pe_ix ix_list (pe_ix ix_list (pv 0) pe_int (fun _ _ => rfl)) (pe_ix ix_list (pv 0) pe_int (fun _ _ => rfl)) (fun _ _ => rfl)))
    (pss_cons (ps_asg (pe_op op_add (pe_ix ix_list (pv 0) pe_int (fun _ _ => rfl)) pe_int) (pg_sub (pv 0) pe_int set_list))
    (pss_one (ps_if (pt_cmpR op_ge (pv 2) (pe_op op_pow pe_int pe_int) (nomark _))
    (pss_one (ps_asg (pv 2) (pg_sub (pv 0) pe_int set_list)))
    (pss_one (ps_asg (pe_op op_mod (pe_op op_add (pe_op op_add (pe_op op_mul (pe_ix ix_list (pv 0) pe_int (fun _ _ => rfl)) pe_int) (pe_op op_mul (pe_op op_mod (pv 2) pe_int) pe_int)) pe_int) pe_int) (pg_sub (pv 0) pe_int set_list)))))))
    pss_nil)
    (pss_cons (ps_if (pt_cmpR op_gt (pe_ix ix_list (pv 0) pe_int (fun _ _ => rfl)) pe_int (nomark _))
    (pss_cons (ps_set (i := 3) sc_pull.nd rfl (Or.inl rfl) (pe_op op_mod (pe_ix ix_list (pv 0) pe_int (fun _ _ => rfl)) (pv 1)))
    (pss_cons (ps_asg (pe_op op_fdivW (pe_ix ix_list (pv 0) pe_int (fun _ _ => rfl)) (pv 1)) (pg_sub (pv 0) pe_int set_list))
    (pss_one (ps_ret (pv 3)))))
    pss_nil)
    (pss_cons (ps_set (i := 4) sc_pull.nd rfl (Or.inl rfl) (pe_ix ix_list (pv 0) pe_int (fun _ _ => rfl)))
    (pss_cons (ps_asg (pe_op op_mod (pe_op op_add (pe_op op_add (pe_op op_mul (pv 4) pe_int) (pe_op op_mul (pe_op op_fdiv (pv 4) pe_int) pe_int)) pe_int) pe_int) (pg_sub (pv 0) pe_int set_list))
    (pss_one (ps_ret (pe_op op_mod (pe_op op_add (pe_op op_fdiv (pe_ix ix_list (pv 0) pe_int (fun _ _ => rfl)) pe_int) (pe_op op_mul (pe_op op_mod (pe_ix ix_list (pv 0) pe_int (fun _ _ => rfl)) pe_int) pe_int)) (pv 1)))))))), ?_⟩
  obtain ⟨ns, i, g, z, hb, hl, h63, hi, hg, hz0, hz1⟩ := hB
  have hlb := bag_ne hb hl
  refine seq_with (fun σ' H' => (∃ c, σ' = [some (.ref b), some (.int m), c, none, none]) ∧ BagAt H' b l ∧ But b H H') (fun R hR => ?_) ?_
  · refine ⟨_, rfl, b, _, _, _, rfl, rfl, SqL.of hb, rfl, rfl, _, rfl, ?_⟩
    refine ite2 (fun c => ?_) (fun c => ?_)
    · refine ⟨_, rfl, b, _, _, _, rfl, rfl, SqL.of hb, rfl, _, rfl, b, _, _, _, rfl, rfl, SqL.of hb, rfl, l, _, rfl, .inl (SqL.of hl), _, _, rfl, rfl, _, rfl, ?_⟩
      refine ite2 (fun c2 => ?_) (fun c2 => ?_)
      · have c3 : i < ((ns.map V.int).length : Int) := of_decide_eq_true c2
        rw [List.length_map] at c3
        have hit : i.toNat < ns.length := by omega
        have ei : i = ((i.toNat : Nat) : Int) := by omega
        have hat : atI (ns.map V.int) i = some (.int ns[i.toNat]) := by
          exact at_of ei (by rw [List.getElem?_map, List.getElem?_eq_getElem hit] <;> rfl)
        refine ⟨_, rfl, b, _, _, _, rfl, rfl, SqL.of hb, rfl, _, rfl, b, _, _, _, rfl, rfl, SqL.of hb, rfl, l, _, _, _, rfl, rfl, SqL.of hl, hat, ?_⟩
        refine ⟨_, rfl, b, _, _, _, rfl, rfl, SqL.of hb, rfl, _, _, rfl, rfl, _, rfl, b, _, _, _, rfl, rfl, hb, rfl, ?_⟩
        refine ⟨_, rfl, _, _, rfl, rfl, ⟨by decide, by decide, by decide⟩, _, _, rfl, rfl, _, rfl, ?_⟩
        refine ite2 (fun c4 => ?_) (fun c4 => ?_)
        · have c5 : ns[i.toNat] ≥ (10 : Int) ^ (18 : Int).toNat := of_decide_eq_true c4
          have c6 : (0 : Int) ≤ (10 : Int) ^ (18 : Int).toNat := by decide
          refine ⟨_, rfl, _, rfl, b, _, _, _, rfl, rfl, upd_same, rfl, hR _ _ ⟨⟨_, rfl⟩, ?_, ?_⟩⟩
          · rw [upd_upd]
            exact bag_upd (ns := ns) hlb hl h63 (by omega) (by omega) hz0 hz1
          · rw [upd_upd]
            exact But.upd
        · refine ⟨_, rfl, b, _, _, _, rfl, rfl, SqL.of upd_same, rfl, _, _, rfl, rfl, .inr ⟨by decide, by decide⟩, _, rfl, _, _, rfl, rfl, (by dsimp only; decide), _, _, rfl, rfl, .inr ⟨by decide, by decide⟩, _, _, rfl, rfl, _, _, rfl, rfl, _, _, rfl, rfl, (by dsimp only; decide), ?_⟩
          refine ⟨_, rfl, b, _, _, _, rfl, rfl, upd_same, rfl, hR _ _ ⟨⟨_, rfl⟩, ?_, ?_⟩⟩
          · rw [upd_upd]
            exact bag_upd (ns := ns) hlb hl h63 (by omega) hg (Int.emod_nonneg _ (by decide)) (Int.emod_lt_of_pos _ (by decide))
          · rw [upd_upd]
            exact But.upd
      · refine hR _ _ ⟨⟨_, rfl⟩, ⟨ns, i, g, z, hb, hl, h63, hi, hg, hz0, hz1⟩, But.refl⟩
    · refine iteF ?_
      exact hR _ _ ⟨⟨_, rfl⟩, ⟨ns, i, g, z, hb, hl, h63, hi, hg, hz0, hz1⟩, But.refl⟩
  · rintro σ' H' ⟨⟨c, rfl⟩, hB', hBut⟩
    obtain ⟨ns, i, g, z, hb, hl, h63, hi, hg, hz0, hz1⟩ := hB'
    have hlb := bag_ne hb hl
    refine ⟨_, rfl, b, _, _, _, rfl, rfl, SqL.of hb, rfl, _, _, rfl, rfl, _, rfl, ?_⟩
    refine ite2 (fun c => ?_) (fun c => ?_)
    · refine ⟨_, rfl, b, _, _, _, rfl, rfl, SqL.of hb, rfl, _, rfl, _, _, rfl, rfl, hm0, ?_⟩
      refine ⟨_, rfl, b, _, _, _, rfl, rfl, SqL.of hb, rfl, _, rfl, _, _, rfl, rfl, wide_div (b := 62) hm0 (by omega) (by decide) (by decide), ?_⟩
      refine ⟨_, rfl, b, _, _, _, rfl, rfl, hb, rfl, _, rfl, ?_⟩
      refine q _ _ ?_ (hBut.trans But.upd) (Int.emod_nonneg _ (by omega)) (Int.emod_lt_of_pos _ hm0)
      exact bag_upd (ns := ns) hlb hl h63 hi (Int.ediv_nonneg hg (by omega)) hz0 hz1
    · refine ⟨_, rfl, b, _, _, _, rfl, rfl, SqL.of hb, rfl, ?_⟩
      refine ⟨_, rfl, _, _, rfl, rfl, .inr ⟨by decide, by decide⟩, _, rfl, _, _, rfl, rfl, ⟨by decide, by decide⟩, _, _, rfl, rfl, .inr ⟨by decide, by decide⟩, _, _, rfl, rfl, _, _, rfl, rfl, _, _, rfl, rfl, (by dsimp only; decide), ?_⟩
      refine ⟨_, rfl, b, _, _, _, rfl, rfl, hb, rfl, ?_⟩
      refine ⟨_, rfl, b, _, _, _, rfl, rfl, SqL.of upd_same, rfl, _, _, rfl, rfl, ⟨by decide, by decide⟩, _, rfl, b, _, _, _, rfl, rfl, SqL.of upd_same, rfl, _, _, rfl, rfl, (by dsimp only; decide), _, _, rfl, rfl, .inr ⟨by decide, by decide⟩, _, _, rfl, rfl, _, rfl, _, _, rfl, rfl, hm0, ?_⟩
      refine q _ _ ?_ (hBut.trans But.upd) (Int.emod_nonneg _ (by omega)) (Int.emod_lt_of_pos _ hm0)
      exact bag_upd (ns := ns) hlb hl h63 hi hg (Int.emod_nonneg _ (by decide)) (Int.emod_lt_of_pos _ (by decide))
abbrev s_of : Stmt := top 25
theorem sc_of : FnScope ["_law_bag_here", "_law_things"] ["_law_bag_here", "_law_things"] (defScope s_of) := ⟨rfl, rfl, rfl, by decide +kernel, rfl, by decide +kernel, by decide +kernel⟩
theorem ok_of (B : Blt mg) (c_pull : Cal P w K mg base 1 "_law_pull" ["_law_bag_here", "_law_amount"] spPull) (F : Fun K "_law_of" "_law_of" s_of f fd) : FnOk P w K mg base CX0 2 f fd ["_law_bag_here", "_law_things"] spOf := by
  refine F.ok sc_of (fun vs H Q E h => ?_) (fun cdv A outer s H vs Q E hr h => ?_)
  · obtain ⟨b, l, p, xs, rfl, _⟩ := h
    rfl
  obtain ⟨b, l, p, xs, rfl, hB, hp, hpb, h0, h1, q⟩ := h
  refine ⟨_, (pss_one (ps_ret (pe_ix ix_list (pv 1) (pe_cal c_pull hr (pa_cons (pv 0) (pa_cons (pe_callB call_len_seq rfl B.len bt_len (pa_cons (pv 1) pa_nil)) pa_nil))) (fun _ _ => rfl)))), ?_⟩
  refine ⟨_, rfl, _, rfl, _, rfl, p, xs, rfl, .inl (SqL.of hp), b, _, _, rfl, hB, by omega, by omega, fun r H' hB' hbut r0 r1 => ?_⟩
  have hr' : r.toNat < xs.length := by omega
  have er : r = ((r.toNat : Nat) : Int) := by omega
  have hat : atI xs r = some xs[r.toNat] := by
    exact at_of er (List.getElem?_eq_getElem hr')
  exact ⟨p, xs, r, _, rfl, rfl, SqL.of (hbut _ _ hpb hp), hat, q _ _ hB' hbut (List.getElem_mem hr')⟩
end
end DM

namespace DM
open PySem L2
/-! ### what is like what -/
def scl : V → Bool
  | .non => true | .bl _ => true | .int _ => true | .str _ => true
  | _ => false
def Alike : Nat → Hp → V → V → Prop
  | 0, _, x, y => x = y ∧ scl x = true
  | n + 1, H, x, y => (x = y ∧ scl x = true) ∨
    (∃ p q xs ys, x = .ref p ∧ y = .ref q ∧ H p = some (.tup xs) ∧ H q = some (.tup ys) ∧ xs.length = ys.length ∧ xs.length ≤ 1000 ∧ ∀ (i : Nat) (x y : V), xs[i]? = some x → ys[i]? = some y → Alike n H x y) ∨
    (∃ p q xs ys, x = .ref p ∧ y = .ref q ∧ H p = some (.lst xs) ∧ H q = some (.lst ys) ∧ xs.length = ys.length ∧ xs.length ≤ 1000 ∧ ∀ (i : Nat) (x y : V), xs[i]? = some x → ys[i]? = some y → Alike n H x y)
theorem Alike.same : ∀ {n : Nat} {H H' : Hp} {x y : V}, Alike n H x y → Same H H' → Alike n H' x y
  | 0, _, _, _, _, h, _ => h
  | n + 1, _, _, _, _, h, e => by
    rcases h with h | ⟨p, q, xs, ys, a, b, c, d, l, m, r⟩ | ⟨p, q, xs, ys, a, b, c, d, l, m, r⟩
    · exact .inl h
    · exact .inr (.inl ⟨p, q, xs, ys, a, b, e _ _ c, e _ _ d, l, m, fun i x y hx hy => (r i x y hx hy).same e⟩)
    · exact .inr (.inr ⟨p, q, xs, ys, a, b, e _ _ c, e _ _ d, l, m, fun i x y hx hy => (r i x y hx hy).same e⟩)
theorem Alike.scal {n : Nat} {H : Hp} {x : V} (h : scl x = true) : Alike n H x x := by
  cases n with
  | zero => exact ⟨rfl, h⟩
  | succ n => exact .inl ⟨rfl, h⟩
theorem Alike.of_eq {n : Nat} {H : Hp} {x y : V} (e : x = y) (h : scl x = true) : Alike n H x y := by
  subst e
  exact Alike.scal h
theorem Alike.up : ∀ {n : Nat} {H : Hp} {x y : V}, Alike n H x y → Alike (n + 1) H x y
  | 0, _, _, _, h => .inl h
  | _ + 1, _, _, _, .inl h => .inl h
  | _ + 1, _, _, _, .inr (.inl ⟨p, q, xs, ys, a, b, c, d, e, f, g⟩) => .inr (.inl ⟨p, q, xs, ys, a, b, c, d, e, f, fun i x y hx hy => (g i x y hx hy).up⟩)
  | _ + 1, _, _, _, .inr (.inr ⟨p, q, xs, ys, a, b, c, d, e, f, g⟩) => .inr (.inr ⟨p, q, xs, ys, a, b, c, d, e, f, fun i x y hx hy => (g i x y hx hy).up⟩)
theorem alike_pair {n : Nat} {H : Hp} {u v : Int} : ∀ (i : Nat) (x y : V), ([.int u, .int v] : List V)[i]? = some x → ([.int u, .int v] : List V)[i]? = some y → Alike n H x y
  | 0, _, _, hx, hy => by cases hx; cases hy; exact Alike.scal rfl
  | 1, _, _, hx, hy => by cases hx; cases hy; exact Alike.scal rfl
def spLike (n : Nat) : Sp := fun vs H Q _ => ∃ x y, vs = [x, y] ∧ Alike n H x y ∧ ∀ H', Same H H' → Q (.bl true) H'
theorem if_pos' {c A B : Prop} [Decidable c] (h : c) (a : A) : if c then A else B := by
  rw [if_pos h]
  exact a
theorem lc_yes {σ : St} {H : Hp} {A B : Hp → Prop} (h : A H) : tYes σ H (fun b H3 => if b = true then A H3 else B H3) := by
  show (if true = true then A H else B H)
  rw [if_pos rfl]
  exact h
def tyn : V → String
  | .non => "NoneType" | .bl _ => "bool" | .int _ => "int" | .str _ => "str"
  | _ => ""
theorem tyn_x {K : PySem.W.Frag} {H : Hp} : ∀ {x : V}, scl x = true → TyX K H x (.type (tyn x))
  | .non, _ => .base .non
  | .bl b, _ => .base (.bl b)
  | .int i, _ => .base (.int i)
  | .str s, _ => .base (.str s)
theorem tyn_no {K : PySem.W.Frag} : ∀ {x : V}, scl x = true → PySem.W.kitOne K (.type (tyn x)) (.type "dict") = some false ∧ PySem.W.kitOne K (.type (tyn x)) (.type "tuple") = some false ∧ PySem.W.kitOne K (.type (tyn x)) (.type "list") = some false ∧ ∃ b, PySem.W.kitOne K (.type (tyn x)) (.type "bool") = some b
  | .non, _ => ⟨kit_ty (by decide +kernel : kitB "NoneType" "dict" = some false), kit_ty (by decide +kernel : kitB "NoneType" "tuple" = some false), kit_ty (by decide +kernel : kitB "NoneType" "list" = some false), _, kit_ty (by decide +kernel : kitB "NoneType" "bool" = some false)⟩
  | .bl _, _ => ⟨kit_ty (by decide +kernel : kitB "bool" "dict" = some false), kit_ty (by decide +kernel : kitB "bool" "tuple" = some false), kit_ty (by decide +kernel : kitB "bool" "list" = some false), _, kit_ty (by decide +kernel : kitB "bool" "bool" = some true)⟩
  | .int _, _ => ⟨kit_ty (by decide +kernel : kitB "int" "dict" = some false), kit_ty (by decide +kernel : kitB "int" "tuple" = some false), kit_ty (by decide +kernel : kitB "int" "list" = some false), _, kit_ty (by decide +kernel : kitB "int" "bool" = some false)⟩
  | .str _, _ => ⟨kit_ty (by decide +kernel : kitB "str" "dict" = some false), kit_ty (by decide +kernel : kitB "str" "tuple" = some false), kit_ty (by decide +kernel : kitB "str" "list" = some false), _, kit_ty (by decide +kernel : kitB "str" "bool" = some false)⟩
theorem scl_eq : ∀ {x : V}, scl x = true → L2.scal x x = true
  | .non, _ => rfl
  | .bl _, _ => rfl
  | .int _, _ => rfl
  | .str _, _ => rfl
section
variable {P : Program} {w : World} {K : PySem.W.Frag} {mg : Str → Option Value} {base : Heap} {f : Addr} {fd : FuncData}
abbrev s_like : Stmt := top 26
theorem sc_like : FnScope ["_law_found", "_law_due", "_law_k"] ["_law_found", "_law_due"] (defScope s_like) := ⟨rfl, rfl, rfl, by decide +kernel, rfl, by decide +kernel, by decide +kernel⟩
theorem like_leaf {k n : Nat} (B : Blt mg) (F : Fun K "_law_like" "_law_like" s_like f fd) (x : V) (hx : scl x = true) (cdv : Value) (A : Around) (outer : List Env) (s : Shared) (H : Hp) (Q : VK) (E : XK) (hr : Room k (A.deeper (PyProof.Rows.envOfC "_law_like" (defScope s_like) s.heap.objs.size f cdv))) (q : ∀ H', Same H H' → Q (.bl true) H') :
    ∃ t, PSs (cxOf CX0 P w K mg base ["_law_found", "_law_due", "_law_k"] "_law_like" (defScope s_like) f cdv A outer s H E).nox (defBody s_like) t ∧ t { nx := fun _ H' => Q .non H', rt := Q } (start ["_law_found", "_law_due", "_law_k"] [x, x]) H := by
  refine ⟨_, (pss_cons (ps_if (pt_val (pe_callB call_isi rfl B.isinstance bt_isinstance (pa_cons (pv 1) (pa_cons (pe_bltn (v := .ty "dict") rfl B.dict bt_dict rfl) pa_nil)))) pss_never pss_nil) (pss_cons (ps_if (PW.pt (pw_or (pt_cmpR op_ne (pe_callB call_isi rfl B.isinstance bt_isinstance (pa_cons (pv 1) (pa_cons (pe_bltn (v := .ty "tuple") rfl B.tuple bt_tuple rfl) pa_nil))) (pe_callB call_isi rfl B.isinstance bt_isinstance (pa_cons (pv 0) (pa_cons (pe_bltn (v := .ty "tuple") rfl B.tuple bt_tuple rfl) pa_nil))) (nomark _)) (pw_or1 (pt_cmpR op_ne (pe_callB call_isi rfl B.isinstance bt_isinstance (pa_cons (pv 1) (pa_cons (pe_bltn (v := .ty "list") rfl B.list bt_list rfl) pa_nil))) (pe_callB call_isi rfl B.isinstance bt_isinstance (pa_cons (pv 0) (pa_cons (pe_bltn (v := .ty "list") rfl B.list bt_list rfl) pa_nil))) (nomark _))))) pss_never pss_nil) (pss_cons (ps_if (pt_not (pt_val (pe_callB call_isiT rfl B.isinstance bt_isinstance (pa_cons (pv 1) (pa_cons (pe_tup (pa_cons (pe_bltn (v := .ty "tuple") rfl B.tuple bt_tuple rfl) (pa_cons (pe_bltn (v := .ty "list") rfl B.list bt_list rfl) pa_nil))) pa_nil))))) (pss_one (ps_ret (pe_and (pe_cmpR op_eq (pe_callB call_isi rfl B.isinstance bt_isinstance (pa_cons (pv 0) (pa_cons (pe_bltn (v := .ty "bool") rfl B.bool bt_bool rfl) pa_nil))) (pe_callB call_isi rfl B.isinstance bt_isinstance (pa_cons (pv 1) (pa_cons (pe_bltn (v := .ty "bool") rfl B.bool bt_bool rfl) pa_nil))) (nomark _)) (pe_one (pe_cmpR op_eq (pv 0) (pv 1) (nomark _)))))) pss_nil) pss_never))), ?_⟩
  have ty : ∀ H', TyX K H' x (.type (tyn x)) := fun H' => tyn_x hx
  obtain ⟨kd, kt, kl, b, kb⟩ := tyn_no (K := K) hx
  refine ⟨_, rfl, _, _, _, _, _, rfl, .ty _, ty _, kd, _, rfl, iteF ?_⟩
  refine ⟨_, rfl, _, _, _, _, _, rfl, .ty _, ty _, kt, _, rfl, _, _, _, _, _, rfl, .ty _, ty _, kt, rfl, _, rfl, iteF ?_⟩
  refine ⟨_, rfl, _, _, _, _, _, rfl, .ty _, ty _, kl, _, rfl, _, _, _, _, _, rfl, .ty _, ty _, kl, rfl, _, rfl, iteF ?_⟩
  refine ⟨_, rfl, sz (by decide : 2 ≤ 100000), fun p1 hp1 => ?_⟩
  refine ⟨_, p1, _, _, _, false, rfl, upd_same, .cons (.ty _) (.cons (.ty _) .nil), ty _, kitAny_cons kt (fun _ => kitAny_cons kl (fun _ => kitAny_nil) (fun z => nomatch z)) (fun z => nomatch z), _, rfl, iteT ?_⟩
  refine ⟨_, rfl, _, _, _, _, _, rfl, .ty _, ty _, kb, _, rfl, _, _, _, _, _, rfl, .ty _, ty _, kb, rfl, _, rfl, ?_⟩
  refine if_pos' (decide_eq_true rfl) ?_
  refine ⟨_, rfl, _, rfl, scl_eq hx, ?_⟩
  have e : decide (x = x) = true := decide_eq_true rfl
  rw [e]
  exact q _ (same_new hp1 _)
theorem ok_like0 (B : Blt mg) (F : Fun K "_law_like" "_law_like" s_like f fd) : FnOk P w K mg base CX0 1 f fd ["_law_found", "_law_due"] (spLike 0) := by
  refine F.ok sc_like (fun vs H Q E h => ?_) (fun cdv A outer s H vs Q E hr h => ?_)
  · obtain ⟨x, y, rfl, _⟩ := h
    rfl
  obtain ⟨x, y, rfl, ⟨rfl, hx⟩, q⟩ := h
  exact like_leaf (n := 0) B F x hx cdv A outer s H Q E hr q
theorem ok_likeS {n : Nat} (B : Blt mg) (F : Fun K "_law_like" "_law_like" s_like f fd) (c_like : Cal P w K mg base (n + 1) "_law_like" ["_law_found", "_law_due"] (spLike n)) : FnOk P w K mg base CX0 (n + 2) f fd ["_law_found", "_law_due"] (spLike (n + 1)) := by
  refine F.ok sc_like (fun vs H Q E h => ?_) (fun cdv A outer s H vs Q E hr h => ?_)
  · obtain ⟨x, y, rfl, _⟩ := h
    rfl
  obtain ⟨x, y, rfl, hA, q⟩ := h
  rcases hA with ⟨rfl, hx⟩ | ⟨p, q0, xs, ys, rfl, rfl, hp, hq, hlen, h1000, hall⟩ | ⟨p, q0, xs, ys, rfl, rfl, hp, hq, hlen, h1000, hall⟩
  · exact like_leaf (n := n) B F x hx cdv A outer s H Q E hr q
  ·
    refine ⟨_, (pss_cons (ps_if (pt_val (pe_callB call_isi rfl B.isinstance bt_isinstance (pa_cons (pv 1) (pa_cons (pe_bltn (v := .ty "dict") rfl B.dict bt_dict rfl) pa_nil)))) pss_never pss_nil) (pss_cons (ps_if (PW.pt (pw_or (pt_cmpR op_ne (pe_callB call_isi rfl B.isinstance bt_isinstance (pa_cons (pv 1) (pa_cons (pe_bltn (v := .ty "tuple") rfl B.tuple bt_tuple rfl) pa_nil))) (pe_callB call_isi rfl B.isinstance bt_isinstance (pa_cons (pv 0) (pa_cons (pe_bltn (v := .ty "tuple") rfl B.tuple bt_tuple rfl) pa_nil))) (nomark _)) (pw_or1 (pt_cmpR op_ne (pe_callB call_isi rfl B.isinstance bt_isinstance (pa_cons (pv 1) (pa_cons (pe_bltn (v := .ty "list") rfl B.list bt_list rfl) pa_nil))) (pe_callB call_isi rfl B.isinstance bt_isinstance (pa_cons (pv 0) (pa_cons (pe_bltn (v := .ty "list") rfl B.list bt_list rfl) pa_nil))) (nomark _))))) pss_never pss_nil) (pss_cons (ps_if (pt_not (pt_val (pe_callB call_isiT rfl B.isinstance bt_isinstance (pa_cons (pv 1) (pa_cons (pe_tup (pa_cons (pe_bltn (v := .ty "tuple") rfl B.tuple bt_tuple rfl) (pa_cons (pe_bltn (v := .ty "list") rfl B.list bt_list rfl) pa_nil))) pa_nil))))) pss_never pss_nil) (pss_one (ps_ret (pe_and (pe_cmpR op_eq (pe_callB call_len_seq rfl B.len bt_len (pa_cons (pv 0) pa_nil)) (pe_callB call_len_seq rfl B.len bt_len (pa_cons (pv 1) pa_nil)) (nomark _)) (pe_one (pe_callB (cr_all rfl) rfl B.all bt_all (pa_cons (pe_lc (own := [("_law_k", 2)]) (g := gName 2) (tt := tYes) rfl sc_like.nd (pi_range1 rfl B.range (pa_cons (pe_callB call_len_seq rfl B.len bt_len (pa_cons (pv 1) pa_nil)) pa_nil)) (blkOk_by (own := [("_law_k", 2)]) (N := ["_law_found", "_law_due", "_law_k"]) (sc := defScope s_like) (by decide +kernel)) (fun _ _ _ _ _ => pg_name (i := 2) sc_like.nd rfl (Or.inl rfl)) (fun _ _ _ _ _ => pts_nil) (fun _ _ _ _ _ => (pe_cal c_like hr (pa_cons (pe_ix (r := rIxT K) ix_tup (pv 0) (pv 2) (fun _ _ => rfl)) (pa_cons (pe_ix (r := rIxT K) ix_tup (pv 1) (pv 2) (fun _ _ => rfl)) pa_nil)) (Nat.le_refl _)))) pa_nil))))))))), ?_⟩
    refine ⟨_, rfl, _, _, _, _, _, rfl, .ty _, .base (TyOf.tup hq), kit_ty (by decide +kernel : kitB "tuple" "dict" = some false), _, rfl, iteF ?_⟩
    refine ⟨_, rfl, _, _, _, _, _, rfl, .ty _, .base (TyOf.tup hq), kit_ty (by decide +kernel : kitB "tuple" "tuple" = some true), _, rfl, _, _, _, _, _, rfl, .ty _, .base (TyOf.tup hp), kit_ty (by decide +kernel : kitB "tuple" "tuple" = some true), rfl, _, rfl, iteF ?_⟩
    refine ⟨_, rfl, _, _, _, _, _, rfl, .ty _, .base (TyOf.tup hq), kit_ty (by decide +kernel : kitB "tuple" "list" = some false), _, rfl, _, _, _, _, _, rfl, .ty _, .base (TyOf.tup hp), kit_ty (by decide +kernel : kitB "tuple" "list" = some false), rfl, _, rfl, iteF ?_⟩
    refine ⟨_, rfl, sz (by decide : 2 ≤ 100000), fun p1 hp1 => ?_⟩
    have g1 := same_new hp1 (.tup [.ty "tuple", .ty "list"])
    have hp' := g1 _ _ hp
    have hq' := g1 _ _ hq
    refine ⟨_, p1, _, _, _, true, rfl, upd_same, .cons (.ty _) (.cons (.ty _) .nil), .base (TyOf.tup hq'), kitAny_cons (kit_ty (by decide +kernel : kitB "tuple" "tuple" = some true)) (fun z => nomatch z) (fun _ => rfl), _, rfl, iteF ?_⟩
    refine ⟨_, rfl, p, xs, rfl, .inr (SqT.of hp'), _, rfl, q0, ys, rfl, .inr (SqT.of hq'), rfl, _, rfl, ?_⟩
    have el : V.int (xs.length : Int) = V.int (ys.length : Int) := by rw [hlen]
    refine if_pos' (decide_eq_true el) ?_
    refine ⟨_, rfl, q0, ys, rfl, .inr (SqT.of hq'), _, rfl, by omega, by omega, fun D hD => ?_⟩
    have en : ((ys.length : Int)).toNat = ys.length := by omega
    refine lc_range (lo := 0) (n := ((ys.length : Int)).toNat) (fun i H' => Same (upd H p1 (.tup [.ty "tuple", .ty "list"])) H' ∧ H' D = some (.lst ((List.replicate i true).map V.bl))) ?_ ?_ ?_
    · exact ⟨same_new hD _, upd_same⟩
    · rintro i H' hi ⟨sm, hd'⟩
      refine ⟨rfl, lc_yes ?_⟩
      have hi1 : i < xs.length := by omega
      have hi2 : i < ys.length := by omega
      refine ⟨_, rfl, _, rfl, p, xs, _, _, rfl, rfl, SqT.of (sm _ _ hp'), at_of (by omega) (List.getElem?_eq_getElem hi1), _, rfl, _, rfl, q0, ys, _, _, rfl, rfl, SqT.of (sm _ _ hq'), at_of (by omega) (List.getElem?_eq_getElem hi2), ?_⟩
      refine ⟨_, _, rfl, (hall i _ _ (List.getElem?_eq_getElem hi1) (List.getElem?_eq_getElem hi2)).same (g1.trans sm), fun H2 s2 => ?_⟩
      refine ⟨_, s2 _ _ hd', ?_, ?_, ?_⟩
      · rw [List.length_map, List.length_replicate]
        exact Nat.lt_of_lt_of_le (by omega : i < 100000) (sz (Nat.le_refl _))
      · exact fun a o e => by rw [upd_ne (ne_of_none e hD)]; exact s2 _ _ (sm _ _ e)
      · rw [upd_same, List.replicate_succ', List.map_append]
        rfl
    · rintro H' ⟨sm, hd'⟩
      refine ⟨D, _, rfl, SqL.of hd', ?_⟩
      have ea : (List.replicate ((ys.length : Int)).toNat true).all id = true := by simp
      rw [ea]
      exact q _ (g1.trans sm)
  ·
    refine ⟨_, (pss_cons (ps_if (pt_val (pe_callB call_isi rfl B.isinstance bt_isinstance (pa_cons (pv 1) (pa_cons (pe_bltn (v := .ty "dict") rfl B.dict bt_dict rfl) pa_nil)))) pss_never pss_nil) (pss_cons (ps_if (PW.pt (pw_or (pt_cmpR op_ne (pe_callB call_isi rfl B.isinstance bt_isinstance (pa_cons (pv 1) (pa_cons (pe_bltn (v := .ty "tuple") rfl B.tuple bt_tuple rfl) pa_nil))) (pe_callB call_isi rfl B.isinstance bt_isinstance (pa_cons (pv 0) (pa_cons (pe_bltn (v := .ty "tuple") rfl B.tuple bt_tuple rfl) pa_nil))) (nomark _)) (pw_or1 (pt_cmpR op_ne (pe_callB call_isi rfl B.isinstance bt_isinstance (pa_cons (pv 1) (pa_cons (pe_bltn (v := .ty "list") rfl B.list bt_list rfl) pa_nil))) (pe_callB call_isi rfl B.isinstance bt_isinstance (pa_cons (pv 0) (pa_cons (pe_bltn (v := .ty "list") rfl B.list bt_list rfl) pa_nil))) (nomark _))))) pss_never pss_nil) (pss_cons (ps_if (pt_not (pt_val (pe_callB call_isiT rfl B.isinstance bt_isinstance (pa_cons (pv 1) (pa_cons (pe_tup (pa_cons (pe_bltn (v := .ty "tuple") rfl B.tuple bt_tuple rfl) (pa_cons (pe_bltn (v := .ty "list") rfl B.list bt_list rfl) pa_nil))) pa_nil))))) pss_never pss_nil) (pss_one (ps_ret (pe_and (pe_cmpR op_eq (pe_callB call_len_seq rfl B.len bt_len (pa_cons (pv 0) pa_nil)) (pe_callB call_len_seq rfl B.len bt_len (pa_cons (pv 1) pa_nil)) (nomark _)) (pe_one (pe_callB (cr_all rfl) rfl B.all bt_all (pa_cons (pe_lc (own := [("_law_k", 2)]) (g := gName 2) (tt := tYes) rfl sc_like.nd (pi_range1 rfl B.range (pa_cons (pe_callB call_len_seq rfl B.len bt_len (pa_cons (pv 1) pa_nil)) pa_nil)) (blkOk_by (own := [("_law_k", 2)]) (N := ["_law_found", "_law_due", "_law_k"]) (sc := defScope s_like) (by decide +kernel)) (fun _ _ _ _ _ => pg_name (i := 2) sc_like.nd rfl (Or.inl rfl)) (fun _ _ _ _ _ => pts_nil) (fun _ _ _ _ _ => (pe_cal c_like hr (pa_cons (pe_ix (r := rIxL K) ix_list (pv 0) (pv 2) (fun _ _ => rfl)) (pa_cons (pe_ix (r := rIxL K) ix_list (pv 1) (pv 2) (fun _ _ => rfl)) pa_nil)) (Nat.le_refl _)))) pa_nil))))))))), ?_⟩
    refine ⟨_, rfl, _, _, _, _, _, rfl, .ty _, .base (TyOf.lst hq), kit_ty (by decide +kernel : kitB "list" "dict" = some false), _, rfl, iteF ?_⟩
    refine ⟨_, rfl, _, _, _, _, _, rfl, .ty _, .base (TyOf.lst hq), kit_ty (by decide +kernel : kitB "list" "tuple" = some false), _, rfl, _, _, _, _, _, rfl, .ty _, .base (TyOf.lst hp), kit_ty (by decide +kernel : kitB "list" "tuple" = some false), rfl, _, rfl, iteF ?_⟩
    refine ⟨_, rfl, _, _, _, _, _, rfl, .ty _, .base (TyOf.lst hq), kit_ty (by decide +kernel : kitB "list" "list" = some true), _, rfl, _, _, _, _, _, rfl, .ty _, .base (TyOf.lst hp), kit_ty (by decide +kernel : kitB "list" "list" = some true), rfl, _, rfl, iteF ?_⟩
    refine ⟨_, rfl, sz (by decide : 2 ≤ 100000), fun p1 hp1 => ?_⟩
    have g1 := same_new hp1 (.tup [.ty "tuple", .ty "list"])
    have hp' := g1 _ _ hp
    have hq' := g1 _ _ hq
    refine ⟨_, p1, _, _, _, true, rfl, upd_same, .cons (.ty _) (.cons (.ty _) .nil), .base (TyOf.lst hq'), kitAny_cons (kit_ty (by decide +kernel : kitB "list" "tuple" = some false)) (fun _ => kitAny_cons (kit_ty (by decide +kernel : kitB "list" "list" = some true)) (fun z => nomatch z) (fun _ => rfl)) (fun z => nomatch z), _, rfl, iteF ?_⟩
    refine ⟨_, rfl, p, xs, rfl, .inl (SqL.of hp'), _, rfl, q0, ys, rfl, .inl (SqL.of hq'), rfl, _, rfl, ?_⟩
    have el : V.int (xs.length : Int) = V.int (ys.length : Int) := by rw [hlen]
    refine if_pos' (decide_eq_true el) ?_
    refine ⟨_, rfl, q0, ys, rfl, .inl (SqL.of hq'), _, rfl, by omega, by omega, fun D hD => ?_⟩
    have en : ((ys.length : Int)).toNat = ys.length := by omega
    refine lc_range (lo := 0) (n := ((ys.length : Int)).toNat) (fun i H' => Same (upd H p1 (.tup [.ty "tuple", .ty "list"])) H' ∧ H' D = some (.lst ((List.replicate i true).map V.bl))) ?_ ?_ ?_
    · exact ⟨same_new hD _, upd_same⟩
    · rintro i H' hi ⟨sm, hd'⟩
      refine ⟨rfl, lc_yes ?_⟩
      have hi1 : i < xs.length := by omega
      have hi2 : i < ys.length := by omega
      refine ⟨_, rfl, _, rfl, p, xs, _, _, rfl, rfl, SqL.of (sm _ _ hp'), at_of (by omega) (List.getElem?_eq_getElem hi1), _, rfl, _, rfl, q0, ys, _, _, rfl, rfl, SqL.of (sm _ _ hq'), at_of (by omega) (List.getElem?_eq_getElem hi2), ?_⟩
      refine ⟨_, _, rfl, (hall i _ _ (List.getElem?_eq_getElem hi1) (List.getElem?_eq_getElem hi2)).same (g1.trans sm), fun H2 s2 => ?_⟩
      refine ⟨_, s2 _ _ hd', ?_, ?_, ?_⟩
      · rw [List.length_map, List.length_replicate]
        exact Nat.lt_of_lt_of_le (by omega : i < 100000) (sz (Nat.le_refl _))
      · exact fun a o e => by rw [upd_ne (ne_of_none e hD)]; exact s2 _ _ (sm _ _ e)
      · rw [upd_same, List.replicate_succ', List.map_append]
        rfl
    · rintro H' ⟨sm, hd'⟩
      refine ⟨D, _, rfl, SqL.of hd', ?_⟩
      have ea : (List.replicate ((ys.length : Int)).toNat true).all id = true := by simp
      rw [ea]
      exact q _ (g1.trans sm)

theorem ok_like (B : Blt mg) (F : Fun K "_law_like" "_law_like" s_like f fd) (b : Binds K fd ["_law_found", "_law_due"] []) (m : mg "_law_like" = some (.ref f)) : ∀ n : Nat, FnOk P w K mg base CX0 (n + 1) f fd ["_law_found", "_law_due"] (spLike n)
  | 0 => ok_like0 B F
  | n + 1 => ok_likeS B F ⟨f, fd, ok_like B F b m n, b, F.kp, m⟩
end
end DM

namespace DM
open PySem L2
/-- a pair of numbers from -40 to 40 -/
def Pt (H : Hp) (p : Addr) (x y : Int) : Prop := H p = some (.tup [.int x, .int y]) ∧ -40 ≤ x ∧ x ≤ 40 ∧ -40 ≤ y ∧ y ≤ 40
theorem Pt.same {H H' : Hp} {p : Addr} {x y : Int} (h : Pt H p x y) (e : Same H H') : Pt H' p x y := ⟨e _ _ h.1, h.2⟩
theorem Pt.but {H H' : Hp} {b l p : Addr} {x y : Int} (h : Pt H p x y) (hB : BagAt H b l) (e : But b H H') : Pt H' p x y := ⟨e _ _ (bag_tup hB h.1) h.1, h.2⟩
def spClip : Sp := fun vs H Q _ => ∃ n : Int, vs = [.int n] ∧ ∀ r : Int, -40 ≤ r → r ≤ 40 → Q (.int r) H
def spSpot : Sp := fun vs H Q _ => ∃ (b l pb : Addr) (x y m : Int), vs = [.ref b, .ref pb, .int m] ∧ BagAt H b l ∧ H pb = some (.tup [.int x, .int y]) ∧ 0 < m ∧ m ≤ 1000 ∧ ∀ (p : Addr) (H' : Hp) (x' y' : Int), BagAt H' b l → But b H H' → Pt H' p x' y' → Q (.ref p) H'
def spBase : Sp := fun vs H Q _ => ∃ (b l : Addr), vs = [.ref b] ∧ BagAt H b l ∧ ∀ (p : Addr) (H' : Hp) (x y : Int), BagAt H' b l → But b H H' → H' p = some (.tup [.int x, .int y]) → Q (.ref p) H'
section
variable {P : Program} {w : World} {K : PySem.W.Frag} {mg : Str → Option Value} {base : Heap} {f : Addr} {fd : FuncData}
abbrev s_clipped : Stmt := top 27
theorem sc_clipped : FnScope ["_law_number"] ["_law_number"] (defScope s_clipped) := ⟨rfl, rfl, rfl, by decide +kernel, rfl, by decide +kernel, by decide +kernel⟩
theorem ok_clipped (B : Blt mg) (F : Fun K "_law_clipped" "_law_clipped" s_clipped f fd) : FnOk P w K mg base CX0 1 f fd ["_law_number"] spClip := by
  refine F.ok sc_clipped (fun vs H Q E h => ?_) (fun cdv A outer s H vs Q E hr h => ?_)
  · obtain ⟨n, rfl, _⟩ := h
    rfl
  obtain ⟨n, rfl, q⟩ := h
  refine ⟨_, (pss_one (ps_ret (pe_callB (call_max2 rfl) rfl B.max bt_max (pa_cons (pe_un un_neg pe_int) (pa_cons (pe_callB (call_min2 rfl) rfl B.min bt_min (pa_cons pe_int (pa_cons (pv 0) pa_nil))) pa_nil))))), ?_⟩
  refine ⟨_, rfl, _, rfl, _, _, rfl, _, _, rfl, ?_⟩
  refine q _ ?_ ?_ <;> split <;> split <;> omega
abbrev s_spot : Stmt := top 28
theorem sc_spot : FnScope ["_law_bag_here", "_law_base_here", "_law_wide", "_law_x"] ["_law_bag_here", "_law_base_here", "_law_wide"] (defScope s_spot) := ⟨rfl, rfl, rfl, by decide +kernel, rfl, by decide +kernel, by decide +kernel⟩
theorem ok_spot (c_pull : Cal P w K mg base 1 "_law_pull" ["_law_bag_here", "_law_amount"] spPull) (c_clipped : Cal P w K mg base 1 "_law_clipped" ["_law_number"] spClip) (F : Fun K "_law_spot" "_law_spot" s_spot f fd) : FnOk P w K mg base CX0 2 f fd ["_law_bag_here", "_law_base_here", "_law_wide"] spSpot := by
  refine F.ok sc_spot (fun vs H Q E h => ?_) (fun cdv A outer s H vs Q E hr h => ?_)
  · obtain ⟨b, l, pb, x, y, m, rfl, _⟩ := h
    rfl
  obtain ⟨b, l, pb, x, y, m, rfl, hB, hp, m0, m1, q⟩ := h
  refine ⟨_, (pss_cons (ps_set (i := 3) sc_spot.nd rfl (Or.inl rfl) (pe_cal c_clipped hr (pa_cons (pe_op op_sub (pe_op op_add (pe_ix ix_tup (pv 1) pe_int (fun _ _ => rfl)) (pe_cal c_pull hr (pa_cons (pv 0) (pa_cons (pe_op op_add (pe_op op_mul pe_int (pv 2)) pe_int) pa_nil)))) (pv 2)) pa_nil)))
    (pss_one (ps_ret (pe_tup (pa_cons (pv 3) (pa_cons (pe_cal c_clipped hr (pa_cons (pe_op op_sub (pe_op op_add (pe_ix ix_tup (pv 1) pe_int (fun _ _ => rfl)) (pe_cal c_pull hr (pa_cons (pv 0) (pa_cons (pe_op op_add (pe_op op_mul pe_int (pv 2)) pe_int) pa_nil)))) (pv 2)) pa_nil)) pa_nil)))))), ?_⟩
  refine ⟨_, rfl, pb, _, _, _, rfl, rfl, SqT.of hp, rfl, _, rfl, _, rfl, _, _, rfl, rfl, .inl ⟨by decide, by decide⟩, _, _, rfl, rfl, b, _, _, rfl, hB, by omega, by omega, fun r1 H1 hB1 bt1 r10 r11 => ?_⟩
  refine ⟨_, _, rfl, rfl, _, rfl, _, _, rfl, rfl, _, rfl, fun x' hx1 hx2 => ?_⟩
  have hp1 := bt1 _ _ (bag_tup hB hp) hp
  refine ⟨_, rfl, _, rfl, pb, _, _, _, rfl, rfl, SqT.of hp1, rfl, _, rfl, _, rfl, _, _, rfl, rfl, .inl ⟨by decide, by decide⟩, _, _, rfl, rfl, b, _, _, rfl, hB1, by omega, by omega, fun r2 H2 hB2 bt2 r20 r21 => ?_⟩
  refine ⟨_, _, rfl, rfl, _, rfl, _, _, rfl, rfl, _, rfl, fun y' hy1 hy2 => ?_⟩
  refine ⟨sz (by decide : 2 ≤ 100000), fun p hpn => ?_⟩
  exact q p _ x' y' (hB2.same (same_new hpn _)) ((bt1.trans bt2).trans (But.of (same_new hpn _))) ⟨upd_same, hx1, hx2, hy1, hy2⟩
abbrev s_base : Stmt := top 29
theorem sc_base : FnScope ["_law_bag_here", "_law_far"] ["_law_bag_here"] (defScope s_base) := ⟨rfl, rfl, rfl, by decide +kernel, rfl, by decide +kernel, by decide +kernel⟩
theorem ok_base (c_pull : Cal P w K mg base 1 "_law_pull" ["_law_bag_here", "_law_amount"] spPull) (c_of : Cal P w K mg base 2 "_law_of" ["_law_bag_here", "_law_things"] spOf) (F : Fun K "_law_base" "_law_base" s_base f fd) : FnOk P w K mg base CX0 3 f fd ["_law_bag_here"] spBase := by
  refine F.ok sc_base (fun vs H Q E h => ?_) (fun cdv A outer s H vs Q E hr h => ?_)
  · obtain ⟨b, l, rfl, _⟩ := h
    rfl
  obtain ⟨b, l, rfl, hB, q⟩ := h
  refine ⟨_, (pss_cons (ps_set (i := 1) sc_base.nd rfl (Or.inl rfl) (pe_tup (pa_cons (pe_op op_sub (pe_cal c_pull hr (pa_cons (pv 0) (pa_cons pe_int pa_nil))) pe_int) (pa_cons (pe_op op_sub (pe_cal c_pull hr (pa_cons (pv 0) (pa_cons pe_int pa_nil))) pe_int) pa_nil))))
    (pss_one (ps_ret (pe_cal c_of hr (pa_cons (pv 0) (pa_cons (pe_lst (pa_cons (pe_tup (pa_cons pe_int (pa_cons pe_int pa_nil))) (pa_cons (pe_tup (pa_cons pe_int (pa_cons pe_int pa_nil))) (pa_cons (pe_tup (pa_cons pe_int (pa_cons pe_int pa_nil))) (pa_cons (pe_tup (pa_cons (pe_un un_neg pe_int) (pa_cons (pe_un un_neg pe_int) pa_nil))) (pa_cons (pe_tup (pa_cons pe_int (pa_cons pe_int pa_nil))) (pa_cons (pe_tup (pa_cons pe_int (pa_cons (pe_un un_neg pe_int) pa_nil))) (pa_cons (pv 1) pa_nil)))))))) pa_nil)))))), ?_⟩
  refine ⟨_, rfl, b, _, _, rfl, hB, by decide, by decide, fun r1 H1 hB1 bt1 r10 r11 => ?_⟩
  refine ⟨_, _, rfl, rfl, _, rfl, b, _, _, rfl, hB1, by decide, by decide, fun r2 H2 hB2 bt2 r20 r21 => ?_⟩
  refine ⟨_, _, rfl, rfl, sz (by decide : 2 ≤ 100000), fun p0 n0 => ?_⟩
  refine ⟨_, rfl, sz (by decide : 2 ≤ 100000), fun p1 n1 => ⟨sz (by decide : 2 ≤ 100000), fun p2 n2 => ⟨sz (by decide : 2 ≤ 100000), fun p3 n3 => ?_⟩⟩⟩
  refine ⟨_, rfl, _, rfl, sz (by decide : 2 ≤ 100000), fun p4 n4 => ⟨sz (by decide : 2 ≤ 100000), fun p5 n5 => ?_⟩⟩
  refine ⟨_, rfl, sz (by decide : 2 ≤ 100000), fun p6 n6 => ?_⟩
  refine ⟨_, rfl, sz (by decide : 7 ≤ 100000), fun p7 n7 => ?_⟩
  have g0 := same_new n0 (.tup [.int (r1 - 40), .int (r2 - 40)])
  have g1 := same_new n1 (.tup [.int 0, .int 0])
  have g2 := same_new n2 (.tup [.int 0, .int 0])
  have g3 := same_new n3 (.tup [.int 0, .int 0])
  have g4 := same_new n4 (.tup [.int (-38), .int (-38)])
  have g5 := same_new n5 (.tup [.int 38, .int 38])
  have g6 := same_new n6 (.tup [.int 37, .int (-39)])
  have g7 := same_new n7 (.lst [.ref p1, .ref p2, .ref p3, .ref p4, .ref p5, .ref p6, .ref p0])
  have gA := g0.trans (g1.trans (g2.trans (g3.trans (g4.trans (g5.trans (g6.trans g7))))))
  have hB3 := hB2.same gA
  have e0 := (g1.trans (g2.trans (g3.trans (g4.trans (g5.trans (g6.trans g7)))))) _ _ upd_same
  have e1 := (g2.trans (g3.trans (g4.trans (g5.trans (g6.trans g7))))) _ _ upd_same
  have e2 := (g3.trans (g4.trans (g5.trans (g6.trans g7)))) _ _ upd_same
  have e3 := (g4.trans (g5.trans (g6.trans g7))) _ _ upd_same
  have e4 := (g5.trans (g6.trans g7)) _ _ upd_same
  have e5 := (g6.trans g7) _ _ upd_same
  have e6 := g7 _ _ upd_same
  obtain ⟨ys, eb⟩ := (hB2.same (g0.trans (g1.trans (g2.trans (g3.trans (g4.trans (g5.trans g6))))))).hasB
  refine ⟨b, _, p7, _, rfl, hB3, upd_same, Ne.symm (ne_of_none eb n7), by show 0 < 7; decide, by show 7 ≤ 1000; decide, fun v H' hB' bt' hv => ?_⟩
  have btA := (bt1.trans bt2).trans ((But.of gA).trans bt')
  have fin : ∀ (p : Addr) (x y : Int), upd _ p7 _ p = some (.tup [.int x, .int y]) → Q (.ref p) H' := fun p x y e => q p H' x y hB' btA (bt' _ _ (bag_tup hB3 e) e)
  simp only [List.mem_cons, List.not_mem_nil, or_false] at hv
  rcases hv with rfl | rfl | rfl | rfl | rfl | rfl | rfl
  · exact fin _ _ _ e1
  · exact fin _ _ _ e2
  · exact fin _ _ _ e3
  · exact fin _ _ _ e4
  · exact fin _ _ _ e5
  · exact fin _ _ _ e6
  · exact fin _ _ _ e0
end
end DM

namespace DM
open PySem L2
/-- a pair of numbers as data -/
theorem dp_pair {K : PySem.W.Frag} {H : Hp} {p : Addr} {x y : Int} (h : H p = some (.tup [.int x, .int y])) : Dp K H (.ref p) (.tuple [.int x, .int y]) := .tup (SqT.of h) (.cons (.int x) (.cons (.int y) .nil))
theorem dp_four {K : PySem.W.Frag} {H : Hp} {p : Addr} {x y z w : Int} (h : H p = some (.tup [.int x, .int y, .int z, .int w])) : Dp K H (.ref p) (.tuple [.int x, .int y, .int z, .int w]) := .tup (SqT.of h) (.cons (.int x) (.cons (.int y) (.cons (.int z) (.cons (.int w) .nil))))
theorem eqv_pair (a b c d : Int) : PyData.eqv (.tuple [.int a, .int b]) (.tuple [.int c, .int d]) = decide (a = c ∧ b = d) := by
  simp only [PyData.eqv, PyData.eqvAll, Bool.and_true, Bool.decide_and]
  rfl
theorem shaped_pair (a b : Int) : SeqAt.shaped (.tuple [.int a, .int b]) = true := by
  first | rfl | simp [SeqAt.shaped, PyData.canLay0, PyData.depth]
end DM

namespace DM
open PySem L2
/-! ### a stroke as a tuple -/
def Stk (H : Hp) (p : Addr) (x1 y1 x2 y2 : Int) : Prop := H p = some (.tup [.int x1, .int y1, .int x2, .int y2]) ∧ (-40 ≤ x1 ∧ x1 ≤ 40 ∧ -40 ≤ y1 ∧ y1 ≤ 40 ∧ -40 ≤ x2 ∧ x2 ≤ 40 ∧ -40 ≤ y2 ∧ y2 ≤ 40) ∧ ¬ (x1 = x2 ∧ y1 = y2)
theorem Stk.same {H H' : Hp} {p : Addr} {x1 y1 x2 y2 : Int} (h : Stk H p x1 y1 x2 y2) (e : Same H H') : Stk H' p x1 y1 x2 y2 := ⟨e _ _ h.1, h.2⟩
theorem Stk.but {H H' : Hp} {b l p : Addr} {x1 y1 x2 y2 : Int} (h : Stk H p x1 y1 x2 y2) (hB : BagAt H b l) (e : But b H H') : Stk H' p x1 y1 x2 y2 := ⟨e _ _ (bag_tup hB h.1) h.1, h.2⟩
def spStroke : Sp := fun vs H Q _ => ∃ (b l pb : Addr) (x y m : Int), vs = [.ref b, .ref pb, .int m] ∧ BagAt H b l ∧ H pb = some (.tup [.int x, .int y]) ∧ 0 < m ∧ m ≤ 1000 ∧ ∀ (p : Addr) (H' : Hp) (x1 y1 x2 y2 : Int), BagAt H' b l → But b H H' → Stk H' p x1 y1 x2 y2 → Q (.ref p) H'
section
variable {P : Program} {w : World} {K : PySem.W.Frag} {mg : Str → Option Value} {base : Heap} {f : Addr} {fd : FuncData}
abbrev s_stroke : Stmt := top 30
theorem sc_stroke : FnScope ["_law_bag_here", "_law_base_here", "_law_wide", "_law_one", "_law_other"] ["_law_bag_here", "_law_base_here", "_law_wide"] (defScope s_stroke) := ⟨rfl, rfl, rfl, by decide +kernel, rfl, by decide +kernel, by decide +kernel⟩
theorem ok_stroke (c_spot : Cal P w K mg base 2 "_law_spot" ["_law_bag_here", "_law_base_here", "_law_wide"] spSpot) (F : Fun K "_law_stroke" "_law_stroke" s_stroke f fd) : FnOk P w K mg base CX0 3 f fd ["_law_bag_here", "_law_base_here", "_law_wide"] spStroke := by
  refine F.ok sc_stroke (fun vs H Q E h => ?_) (fun cdv A outer s H vs Q E hr h => ?_)
  · obtain ⟨b, l, pb, x, y, m, rfl, _⟩ := h
    rfl
  obtain ⟨b, l, pb, x, y, m, rfl, hB, hp, m0, m1, q⟩ := h
  refine ⟨_, (pss_cons (ps_par (i := 3) (j := 4) (by rfl) sc_stroke.nd rfl rfl (by decide) rfl rfl (pa_cons (pe_cal c_spot hr (pa_cons (pv 0) (pa_cons (pv 1) (pa_cons (pv 2) pa_nil)))) (pa_cons (pe_cal c_spot hr (pa_cons (pv 0) (pa_cons (pv 1) (pa_cons (pv 2) pa_nil)))) pa_nil)) (by rfl))
    (pss_cons (ps_if (pt_cmpR (op_eqD hr.units) (pv 3) (pv 4) (nomark _))
    (pss_one (ps_set (i := 4) sc_stroke.nd rfl (Or.inl rfl) (pe_tup (pa_cons (pe_op op_add (pe_ix ix_tup (pv 4) pe_int (fun _ _ => rfl)) (pe_ifExp (pt_cmpR op_lt (pe_ix ix_tup (pv 4) pe_int (fun _ _ => rfl)) pe_int (nomark _)) pe_int (pe_un un_neg pe_int))) (pa_cons (pe_ix ix_tup (pv 4) pe_int (fun _ _ => rfl)) pa_nil)))))
    pss_nil)
    (pss_one (ps_ret (pe_op op_catT (pv 3) (pv 4)))))), ?_⟩
  refine ⟨_, rfl, _, rfl, _, rfl, b, _, pb, x, y, m, rfl, hB, hp, m0, m1, fun p1 H1 x1 y1 hB1 bt1 h1 => ?_⟩
  have hp1 := bt1 _ _ (bag_tup hB hp) hp
  refine ⟨_, rfl, _, rfl, _, rfl, b, _, pb, x, y, m, rfl, hB1, hp1, m0, m1, fun p2 H2 x2 y2 hB2 bt2 h2 => ?_⟩
  have h1' := h1.but hB1 bt2
  refine ⟨_, _, rfl, ?_⟩
  dsimp only
  have bt := bt1.trans bt2
  refine seq_with (fun σ' H' => ∃ (p : Addr) (u v : Int), σ' = [some (.ref b), some (.ref pb), some (.int m), some (.ref p1), some (.ref p)] ∧ BagAt H' b l ∧ But b H H' ∧ Pt H' p1 x1 y1 ∧ Pt H' p u v ∧ ¬ (x1 = u ∧ y1 = v)) (fun R hR => ?_) ?_
  · refine ⟨_, rfl, _, rfl, _, _, dp_pair h1'.1, dp_pair h2.1, shaped_pair _ _, shaped_pair _ _, _, rfl, ?_⟩
    rw [eqv_pair]
    by_cases c : x1 = x2 ∧ y1 = y2
    · refine iteDT c ?_
      have b2 := h2.2
      refine ⟨_, rfl, p2, _, _, _, rfl, rfl, SqT.of h2.1, rfl, _, rfl, p2, _, _, _, rfl, rfl, SqT.of h2.1, rfl, _, _, rfl, rfl, _, rfl, ?_⟩
      by_cases d : x2 < 40
      · refine iteDT d ?_
        refine ⟨_, _, rfl, rfl, _, rfl, p2, _, _, _, rfl, rfl, SqT.of h2.1, rfl, sz (by decide : 2 ≤ 100000), fun p3 n3 => ?_⟩
        have g := same_new n3 (.tup [.int (x2 + 1), .int y2])
        exact hR _ _ ⟨p3, x2 + 1, y2, rfl, hB2.same g, bt.trans (But.of g), h1'.same g, ⟨upd_same, by omega⟩, by omega⟩
      · refine iteDF d ?_
        refine ⟨_, rfl, _, _, rfl, rfl, _, rfl, p2, _, _, _, rfl, rfl, SqT.of h2.1, rfl, sz (by decide : 2 ≤ 100000), fun p3 n3 => ?_⟩
        have g := same_new n3 (.tup [.int (x2 + -1), .int y2])
        exact hR _ _ ⟨p3, x2 + -1, y2, rfl, hB2.same g, bt.trans (But.of g), h1'.same g, ⟨upd_same, by omega⟩, by omega⟩
    · refine iteDF c ?_
      exact hR _ _ ⟨p2, x2, y2, rfl, hB2, bt, h1', h2, c⟩
  · rintro σ' H' ⟨p, u, v, rfl, hB', bt', k1, k2, hne⟩
    refine ⟨_, rfl, _, rfl, p1, p, _, _, rfl, rfl, SqT.of k1.1, SqT.of k2.1, (by intro z; cases z), sz (by decide : 4 ≤ 100000), (fun z => by cases z), fun _ p4 n4 => ?_⟩
    have g := same_new n4 (.tup [.int x1, .int y1, .int u, .int v])
    obtain ⟨_, c1⟩ := k1
    obtain ⟨_, c2⟩ := k2
    exact q p4 _ x1 y1 u v (hB'.same g) (bt'.trans (But.of g)) ⟨upd_same, by omega, hne⟩
end
end DM

namespace DM
/-! ### fractions as pairs, by products -/
theorem fr_trans {a A b B c C : Int} (hB : 0 < B) (hA : 0 ≤ A) (hC : 0 ≤ C) (h1 : a * B ≤ b * A) (h2 : b * C ≤ c * B) : a * C ≤ c * A := by
  have e1 := Int.mul_le_mul_of_nonneg_right h1 hC
  have e2 := Int.mul_le_mul_of_nonneg_right h2 hA
  have e3 : b * A * C = b * C * A := by simp only [Int.mul_comm, Int.mul_left_comm]
  have e4 : a * B * C = B * (a * C) := by simp only [Int.mul_comm, Int.mul_left_comm]
  have e5 : c * B * A = B * (c * A) := by simp only [Int.mul_comm, Int.mul_left_comm]
  rw [e3] at e1
  exact Int.le_of_mul_le_mul_left (by omega : B * (a * C) ≤ B * (c * A)) hB
def later (p q : Int × Int) : Int × Int := if p.1 * q.2 > q.1 * p.2 then p else q
def sooner (p q : Int × Int) : Int × Int := if p.1 * q.2 < q.1 * p.2 then p else q
theorem later_pos {p q : Int × Int} (h1 : 0 < p.2) (h2 : 0 < q.2) : 0 < (later p q).2 := by
  unfold later
  split
  · exact h1
  · exact h2
theorem sooner_pos {p q : Int × Int} (h1 : 0 < p.2) (h2 : 0 < q.2) : 0 < (sooner p q).2 := by
  unfold sooner
  split
  · exact h1
  · exact h2
/-- no later than n / m: both are -/
theorem later_le {p q : Int × Int} {n m : Int} (h1 : 0 < p.2) (h2 : 0 < q.2) (hm : 0 ≤ m) : (later p q).1 * m ≤ n * (later p q).2 ↔ p.1 * m ≤ n * p.2 ∧ q.1 * m ≤ n * q.2 := by
  unfold later
  split
  · rename_i c
    refine ⟨fun h => ⟨h, ?_⟩, fun h => h.1⟩
    exact fr_trans h1 (by omega) hm (show q.1 * p.2 ≤ p.1 * q.2 by omega) h
  · rename_i c
    refine ⟨fun h => ⟨?_, h⟩, fun h => h.2⟩
    exact fr_trans h2 (by omega) hm (show p.1 * q.2 ≤ q.1 * p.2 by omega) h
theorem sooner_ge {p q : Int × Int} {n m : Int} (h1 : 0 < p.2) (h2 : 0 < q.2) (hm : 0 ≤ m) : n * (sooner p q).2 ≤ (sooner p q).1 * m ↔ n * p.2 ≤ p.1 * m ∧ n * q.2 ≤ q.1 * m := by
  unfold sooner
  split
  · rename_i c
    refine ⟨fun h => ⟨h, ?_⟩, fun h => h.1⟩
    exact fr_trans h1 hm (by omega) h (show p.1 * q.2 ≤ q.1 * p.2 by omega)
  · rename_i c
    refine ⟨fun h => ⟨?_, h⟩, fun h => h.2⟩
    exact fr_trans h2 hm (by omega) h (show q.1 * p.2 ≤ p.1 * q.2 by omega)
/-! ### one axis: begin + step * t from low to high -/
def clip (b s lo hi : Int) : Option ((Int × Int) × (Int × Int)) :=
  if s = 0 then (if lo ≤ b ∧ b ≤ hi then some ((0, 1), (1, 1)) else none) else if s < 0 then some ((b - hi, 0 - s), (b - lo, 0 - s)) else some ((lo - b, s), (hi - b, s))
/-- at n / m within, both rims counted -/
def Clo (b s lo hi n m : Int) : Prop := 0 ≤ (b - lo) * m + s * n ∧ 0 ≤ (hi - b) * m - s * n
theorem clip_none {b s lo hi : Int} (h : clip b s lo hi = none) {n m : Int} (hm : 0 < m) : ¬ Clo b s lo hi n m := by
  unfold clip at h
  split at h
  · rename_i hs
    split at h
    · cases h
    · rename_i c
      subst hs
      unfold Clo
      rw [Int.zero_mul]
      intro ⟨h1, h2⟩
      apply c
      have a1 : 0 ≤ (b - lo) * m := by omega
      have a2 : 0 ≤ (hi - b) * m := by omega
      constructor
      · rcases Int.lt_or_le b lo with z | z
        · have := Int.mul_neg_of_neg_of_pos (show b - lo < 0 by omega) hm
          omega
        · exact z
      · rcases Int.lt_or_le hi b with z | z
        · have := Int.mul_neg_of_neg_of_pos (show hi - b < 0 by omega) hm
          omega
        · exact z
  · split at h <;> cases h
theorem clip_some {b s lo hi : Int} {p q : Int × Int} (h : clip b s lo hi = some (p, q)) : 0 < p.2 ∧ 0 < q.2 ∧ ∀ n m : Int, 0 < m → 0 ≤ n → n ≤ m → (Clo b s lo hi n m ↔ p.1 * m ≤ n * p.2 ∧ n * q.2 ≤ q.1 * m) := by
  unfold clip at h
  split at h
  · rename_i hs
    split at h
    · rename_i c
      cases h
      refine ⟨by decide, by decide, fun n m hm h0 h1 => ?_⟩
      subst hs
      unfold Clo
      rw [Int.zero_mul, Int.zero_mul, Int.mul_one, Int.one_mul]
      refine ⟨fun _ => ⟨h0, h1⟩, fun _ => ?_⟩
      have a1 := Int.mul_nonneg (show 0 ≤ b - lo by omega) (show 0 ≤ m by omega)
      have a2 := Int.mul_nonneg (show 0 ≤ hi - b by omega) (show 0 ≤ m by omega)
      omega
    · cases h
  · split at h
    · rename_i hs
      cases h
      refine ⟨by show 0 < 0 - s; omega, by show 0 < 0 - s; omega, fun n m hm h0 h1 => ?_⟩
      unfold Clo
      have e1 : (b - hi) * m = - ((hi - b) * m) := by rw [← Int.neg_mul]; congr 1; omega
      have e2 : n * (0 - s) = - (s * n) := by rw [Int.zero_sub, Int.mul_neg, Int.mul_comm]
      show _ ↔ (b - hi) * m ≤ n * (0 - s) ∧ n * (0 - s) ≤ (b - lo) * m
      rw [e1, e2]
      omega
    · rename_i hs
      cases h
      refine ⟨by show 0 < s; omega, by show 0 < s; omega, fun n m hm h0 h1 => ?_⟩
      unfold Clo
      have e1 : (lo - b) * m = - ((b - lo) * m) := by rw [← Int.neg_mul]; congr 1; omega
      have e2 : n * s = s * n := Int.mul_comm ..
      show _ ↔ (lo - b) * m ≤ n * s ∧ n * s ≤ (hi - b) * m
      rw [e1, e2]
      omega
/-! ### a stroke and a square -/
/-- at n / m on the stroke, in the square (left and lower rim with it) -/
def Ins (x1 y1 x2 y2 sx sy n m : Int) : Prop :=
  (2 * sx - 1) * m ≤ 2 * x1 * m + 2 * (x2 - x1) * n ∧ 2 * x1 * m + 2 * (x2 - x1) * n < (2 * sx + 1) * m ∧ (2 * sy - 1) * m ≤ 2 * y1 * m + 2 * (y2 - y1) * n ∧ 2 * y1 * m + 2 * (y2 - y1) * n < (2 * sy + 1) * m
instance {x1 y1 x2 y2 sx sy n m : Int} : Decidable (Ins x1 y1 x2 y2 sx sy n m) := by unfold Ins; exact inferInstance
/-- the square of (sx, sy) holds a place of the stroke -/
def Thr (x1 y1 x2 y2 sx sy : Int) : Prop := ∃ n m : Int, 0 < m ∧ 0 ≤ n ∧ n ≤ m ∧ Ins x1 y1 x2 y2 sx sy n m
def goesL (x1 y1 x2 y2 sx sy : Int) : Bool :=
  match clip (2 * x1) (2 * (x2 - x1)) (2 * sx - 1) (2 * sx + 1), clip (2 * y1) (2 * (y2 - y1)) (2 * sy - 1) (2 * sy + 1) with
  | some (px, qx), some (py, qy) =>
    let c := later (0, 1) (later px py)
    let e := sooner (1, 1) (sooner qx qy)
    if e.1 * c.2 < c.1 * e.2 then false else decide (Ins x1 y1 x2 y2 sx sy c.1 c.2) || (decide (Ins x1 y1 x2 y2 sx sy e.1 e.2) || decide (Ins x1 y1 x2 y2 sx sy (c.1 * e.2 + e.1 * c.2) (2 * c.2 * e.2)))
  | _, _ => false
/-- a form in (n, m) -/
def lin (u v n m : Int) : Int := u * m + v * n
theorem lin_add (u v n m n' m' k k' : Int) : lin u v (k * n + k' * n') (k * m + k' * m') = k * lin u v n m + k' * lin u v n' m' := by
  unfold lin
  simp only [Int.mul_add, Int.mul_left_comm]
  omega
theorem ins_lin {x1 y1 x2 y2 sx sy n m : Int} : Ins x1 y1 x2 y2 sx sy n m ↔ 0 ≤ lin (2 * x1 - (2 * sx - 1)) (2 * (x2 - x1)) n m ∧ 0 < lin (2 * sx + 1 - 2 * x1) (-(2 * (x2 - x1))) n m ∧ 0 ≤ lin (2 * y1 - (2 * sy - 1)) (2 * (y2 - y1)) n m ∧ 0 < lin (2 * sy + 1 - 2 * y1) (-(2 * (y2 - y1))) n m := by
  unfold Ins lin
  rw [Int.sub_mul (2 * x1), Int.sub_mul (2 * sx + 1), Int.sub_mul (2 * y1), Int.sub_mul (2 * sy + 1), Int.neg_mul, Int.neg_mul]
  omega
theorem clo_lin {b s lo hi n m : Int} : Clo b s lo hi n m ↔ 0 ≤ lin (b - lo) s n m ∧ 0 ≤ lin (hi - b) (-s) n m := by
  unfold Clo lin
  rw [Int.neg_mul]
  omega
theorem mid_ge {u v c C e E : Int} (hC : 0 < C) (hE : 0 < E) (h1 : 0 ≤ lin u v c C) (h2 : 0 ≤ lin u v e E) : 0 ≤ lin u v (c * E + e * C) (2 * C * E) := by
  have e1 : c * E + e * C = E * c + C * e := by rw [Int.mul_comm c, Int.mul_comm e]
  have e2 : 2 * C * E = E * C + C * E := by rw [Int.mul_assoc, Int.mul_comm E C]; omega
  rw [e1, e2, lin_add]
  have a1 := Int.mul_nonneg (show 0 ≤ E by omega) h1
  have a2 := Int.mul_nonneg (show 0 ≤ C by omega) h2
  omega
/-- the middle of two unlike times is strictly within a form that is nowhere below nought and not nought at all -/
theorem mid_gt {u v c C e E n m : Int} (hC : 0 < C) (hE : 0 < E) (hne : c * E ≠ e * C) (h1 : 0 ≤ lin u v c C) (h2 : 0 ≤ lin u v e E) (h3 : 0 < lin u v n m) : 0 < lin u v (c * E + e * C) (2 * C * E) := by
  have e1 : c * E + e * C = E * c + C * e := by rw [Int.mul_comm c, Int.mul_comm e]
  have e2 : 2 * C * E = E * C + C * E := by rw [Int.mul_assoc, Int.mul_comm E C]; omega
  rw [e1, e2, lin_add]
  have a1 := Int.mul_nonneg (show 0 ≤ E by omega) h1
  have a2 := Int.mul_nonneg (show 0 ≤ C by omega) h2
  rcases Int.lt_or_eq_of_le h1 with z1 | z1
  · have := Int.mul_pos hE z1
    omega
  rcases Int.lt_or_eq_of_le h2 with z2 | z2
  · have := Int.mul_pos hC z2
    omega
  exfalso
  unfold lin at z1 z2 h3
  -- u C + v c = 0, u E + v e = 0
  have k1 : (u * C + v * c) * E = 0 := by rw [← z1]; exact Int.zero_mul _
  have k2 : (u * E + v * e) * C = 0 := by rw [← z2]; exact Int.zero_mul _
  have k3 : v * (c * E - e * C) = 0 := by
    rw [Int.mul_sub]
    rw [Int.add_mul] at k1 k2
    have f1 : u * C * E = u * E * C := by simp only [Int.mul_comm, Int.mul_left_comm]
    rw [f1] at k1
    have f2 : v * c * E = v * (c * E) := Int.mul_assoc ..
    have f3 : v * e * C = v * (e * C) := Int.mul_assoc ..
    rw [f2] at k1
    rw [f3] at k2
    omega
  have k4 : v = 0 := by
    rcases Int.mul_eq_zero.mp k3 with z | z
    · exact z
    · omega
  subst k4
  have k5 : u * C = 0 := by rw [Int.zero_mul] at z1; omega
  have k6 : u = 0 := by
    rcases Int.mul_eq_zero.mp k5 with z | z
    · exact z
    · omega
  subst k6
  rw [Int.zero_mul, Int.zero_mul] at h3
  omega
theorem lin_same {u v c C n m : Int} (h : n * C = c * m) : lin u v c C * m = lin u v n m * C := by
  unfold lin
  rw [Int.add_mul, Int.add_mul]
  have f1 : u * C * m = u * m * C := by simp only [Int.mul_comm, Int.mul_left_comm]
  have f2 : v * c * m = v * (c * m) := Int.mul_assoc ..
  have f3 : v * n * C = v * (n * C) := Int.mul_assoc ..
  rw [f1, f2, f3, h]
theorem same_ge {u v c C n m : Int} (hm : 0 < m) (hC : 0 < C) (h : n * C = c * m) (h1 : 0 ≤ lin u v n m) : 0 ≤ lin u v c C := by
  have e := lin_same (u := u) (v := v) h
  have a := Int.mul_nonneg h1 (show 0 ≤ C by omega)
  rcases Int.lt_or_le (lin u v c C) 0 with z | z
  · have := Int.mul_neg_of_neg_of_pos z hm
    omega
  · exact z
theorem same_gt {u v c C n m : Int} (hm : 0 < m) (hC : 0 < C) (h : n * C = c * m) (h1 : 0 < lin u v n m) : 0 < lin u v c C := by
  have e := lin_same (u := u) (v := v) h
  have a := Int.mul_pos h1 hC
  rcases Int.lt_or_le 0 (lin u v c C) with z | z
  · exact z
  · have := Int.mul_le_mul_of_nonneg_right z (show 0 ≤ m by omega)
    omega
theorem goesL_iff (x1 y1 x2 y2 sx sy : Int) : goesL x1 y1 x2 y2 sx sy = true ↔ Thr x1 y1 x2 y2 sx sy := by
  have cx : ∀ {n m : Int}, Ins x1 y1 x2 y2 sx sy n m → Clo (2 * x1) (2 * (x2 - x1)) (2 * sx - 1) (2 * sx + 1) n m ∧ Clo (2 * y1) (2 * (y2 - y1)) (2 * sy - 1) (2 * sy + 1) n m := fun {n m} h => by
    rw [ins_lin] at h
    rw [clo_lin, clo_lin]
    omega
  unfold goesL
  cases ex : clip (2 * x1) (2 * (x2 - x1)) (2 * sx - 1) (2 * sx + 1) with
  | none =>
    refine ⟨fun h => absurd h Bool.false_ne_true, fun ⟨n, m, hm, h0, h1, hi⟩ => ?_⟩
    exact absurd (cx hi).1 (clip_none ex hm)
  | some pq =>
    obtain ⟨px, qx⟩ := pq
    cases ey : clip (2 * y1) (2 * (y2 - y1)) (2 * sy - 1) (2 * sy + 1) with
    | none =>
      refine ⟨fun h => absurd h Bool.false_ne_true, fun ⟨n, m, hm, h0, h1, hi⟩ => ?_⟩
      exact absurd (cx hi).2 (clip_none ey hm)
    | some pq =>
      obtain ⟨py, qy⟩ := pq
      obtain ⟨ax, bx, hx⟩ := clip_some ex
      obtain ⟨ay, bay, hy⟩ := clip_some ey
      dsimp only
      have pc : 0 < (later (0, 1) (later px py)).2 := later_pos (by decide) (later_pos ax ay)
      have pe : 0 < (sooner (1, 1) (sooner qx qy)).2 := sooner_pos (by decide) (sooner_pos bx bay)
      have lc : ∀ {n m : Int}, 0 ≤ m → ((later (0, 1) (later px py)).1 * m ≤ n * (later (0, 1) (later px py)).2 ↔ 0 ≤ n ∧ px.1 * m ≤ n * px.2 ∧ py.1 * m ≤ n * py.2) := fun {n m} h => by
        rw [later_le (by decide) (later_pos ax ay) h, later_le ax ay h]
        show (0 * m ≤ n * 1 ∧ _) ↔ _
        rw [Int.zero_mul, Int.mul_one]
      have le : ∀ {n m : Int}, 0 ≤ m → (n * (sooner (1, 1) (sooner qx qy)).2 ≤ (sooner (1, 1) (sooner qx qy)).1 * m ↔ n ≤ m ∧ n * qx.2 ≤ qx.1 * m ∧ n * qy.2 ≤ qy.1 * m) := fun {n m} h => by
        rw [sooner_ge (by decide) (sooner_pos bx bay) h, sooner_ge bx bay h]
        show (n * 1 ≤ 1 * m ∧ _) ↔ _
        rw [Int.mul_one, Int.one_mul]
      generalize later (0, 1) (later px py) = c at *
      generalize sooner (1, 1) (sooner qx qy) = e at *
      obtain ⟨c, C⟩ := c
      obtain ⟨e, E⟩ := e
      dsimp only at *
      split
      · rename_i hlt
        refine ⟨fun h => absurd h Bool.false_ne_true, fun ⟨n, m, hm, h0, h1, hi⟩ => ?_⟩
        obtain ⟨k1, k2⟩ := cx hi
        have a := (hx n m hm h0 h1).mp k1
        have b := (hy n m hm h0 h1).mp k2
        have r1 := (lc (n := n) (m := m) (by omega)).mpr ⟨h0, a.1, b.1⟩
        have r2 := (le (n := n) (m := m) (by omega)).mpr ⟨h1, a.2, b.2⟩
        have := fr_trans hm (by omega) (by omega) r1 r2
        omega
      · rename_i hle
        have hce : c * E ≤ e * C := by omega
        -- both lie within, closed
        have lcc := (lc (n := c) (m := C) (by omega)).mp (Int.le_refl _)
        have lec := (le (n := c) (m := C) (by omega)).mp hce
        have lee := (le (n := e) (m := E) (by omega)).mp (Int.le_refl _)
        have lce := (lc (n := e) (m := E) (by omega)).mp hce
        have vc1 := (hx c C pc lcc.1 lec.1).mpr ⟨lcc.2.1, lec.2.1⟩
        have vc2 := (hy c C pc lcc.1 lec.1).mpr ⟨lcc.2.2, lec.2.2⟩
        have ve1 := (hx e E pe lce.1 lee.1).mpr ⟨lce.2.1, lee.2.1⟩
        have ve2 := (hy e E pe lce.1 lee.1).mpr ⟨lce.2.2, lee.2.2⟩
        rw [clo_lin] at vc1 vc2 ve1 ve2
        simp only [Bool.or_eq_true, decide_eq_true_eq]
        constructor
        · rintro (h | h | h)
          · exact ⟨c, C, pc, lcc.1, lec.1, h⟩
          · exact ⟨e, E, pe, lce.1, lee.1, h⟩
          · have z1 := Int.mul_nonneg lcc.1 (show 0 ≤ E by omega)
            have z2 := Int.mul_nonneg lce.1 (show 0 ≤ C by omega)
            have z3 := Int.mul_le_mul_of_nonneg_right lec.1 (show 0 ≤ E by omega)
            have z4 := Int.mul_le_mul_of_nonneg_right lee.1 (show 0 ≤ C by omega)
            have z5 : 2 * C * E = C * E + E * C := by rw [Int.mul_assoc, Int.mul_comm E C]; omega
            have z6 := Int.mul_pos pc pe
            have z7 : E * C = C * E := Int.mul_comm ..
            exact ⟨_, _, by omega, by omega, by omega, h⟩
        · rintro ⟨n, m, hm, h0, h1, hi⟩
          obtain ⟨k1, k2⟩ := cx hi
          have a := (hx n m hm h0 h1).mp k1
          have b := (hy n m hm h0 h1).mp k2
          have r1 := (lc (n := n) (m := m) (by omega)).mpr ⟨h0, a.1, b.1⟩
          have r2 := (le (n := n) (m := m) (by omega)).mpr ⟨h1, a.2, b.2⟩
          rw [ins_lin] at hi
          by_cases hne : c * E = e * C
          · left
            have r3 : n * C ≤ c * m := by
              have := fr_trans (a := n) (A := m) (b := e) (B := E) (c := c) (C := C) pe (by omega) (by omega) r2 (by omega)
              exact this
            have r4 : n * C = c * m := by omega
            rw [ins_lin]
            exact ⟨same_ge hm pc r4 hi.1, same_gt hm pc r4 hi.2.1, same_ge hm pc r4 hi.2.2.1, same_gt hm pc r4 hi.2.2.2⟩
          · right; right
            rw [ins_lin]
            exact ⟨mid_ge pc pe vc1.1 ve1.1, mid_gt pc pe hne vc1.2 ve1.2 hi.2.1, mid_ge pc pe vc2.1 ve2.1, mid_gt pc pe hne vc2.2 ve2.2 hi.2.2.2⟩
end DM

namespace DM
open PySem L2
/-! ### the law's own going through a square -/
def fr (H : Hp) (p : Addr) (a : Int × Int) : Prop := H p = some (.tup [.int a.1, .int a.2])
/-- numbers that stay small -/
def sm (k : Int) (a : Int × Int) : Prop := -k ≤ a.1 ∧ a.1 ≤ k ∧ -k ≤ a.2 ∧ a.2 ≤ k
def spClp : Sp := fun vs H Q _ => ∃ b s lo hi : Int, vs = [.int b, .int s, .int lo, .int hi] ∧
  (clip b s lo hi = none → ∀ (r : Addr) (H' : Hp), Same H H' → H' r = some (.lst []) → Q (.ref r) H') ∧
  (∀ p q : Int × Int, clip b s lo hi = some (p, q) → ∀ (r p1 p2 : Addr) (H' : Hp), Same H H' → H' r = some (.lst [.ref p1, .ref p2]) → fr H' p1 p → fr H' p2 q → Q (.ref r) H')
def spLater : Sp := fun vs H Q _ => ∃ (p1 p2 : Addr) (a b : Int × Int), vs = [.ref p1, .ref p2] ∧ fr H p1 a ∧ fr H p2 b ∧ sm 1000000000 a ∧ ∀ r : Addr, fr H r (later a b) → Q (.ref r) H
def spSooner : Sp := fun vs H Q _ => ∃ (p1 p2 : Addr) (a b : Int × Int), vs = [.ref p1, .ref p2] ∧ fr H p1 a ∧ fr H p2 b ∧ sm 1000000000 a ∧ ∀ r : Addr, fr H r (sooner a b) → Q (.ref r) H
def spInside : Sp := fun vs H Q _ => ∃ (ps pt pw : Addr) (x1 y1 x2 y2 sx sy n m : Int), vs = [.ref ps, .ref pw, .ref pt] ∧ Stk H ps x1 y1 x2 y2 ∧ H pw = some (.tup [.int n, .int m]) ∧ H pt = some (.tup [.int sx, .int sy]) ∧ (-1000 ≤ sx ∧ sx ≤ 1000 ∧ -1000 ≤ sy ∧ sy ≤ 1000) ∧ Q (.bl (decide (Ins x1 y1 x2 y2 sx sy n m))) H
def spGoes : Sp := fun vs H Q _ => ∃ (ps pt : Addr) (x1 y1 x2 y2 sx sy : Int), vs = [.ref ps, .ref pt] ∧ Stk H ps x1 y1 x2 y2 ∧ H pt = some (.tup [.int sx, .int sy]) ∧ (-1000 ≤ sx ∧ sx ≤ 1000 ∧ -1000 ≤ sy ∧ sy ≤ 1000) ∧ ∀ H', Same H H' → Q (.bl (goesL x1 y1 x2 y2 sx sy)) H'
theorem sm_later {a b : Int × Int} {k : Int} (h1 : sm k a) (h2 : sm k b) : sm k (later a b) := by
  unfold later
  split
  · exact h1
  · exact h2
theorem sm_sooner {a b : Int × Int} {k : Int} (h1 : sm k a) (h2 : sm k b) : sm k (sooner a b) := by
  unfold sooner
  split
  · exact h1
  · exact h2
theorem sm_clip {b s lo hi : Int} {p q : Int × Int} (h : clip b s lo hi = some (p, q)) (hb : -80 ≤ b ∧ b ≤ 80) (hs : -160 ≤ s ∧ s ≤ 160) (hl : -3000 ≤ lo ∧ lo ≤ 3000) (hh : -3000 ≤ hi ∧ hi ≤ 3000) : sm 10000 p ∧ sm 10000 q := by
  unfold clip at h
  split at h
  · split at h
    · cases h
      exact ⟨⟨by decide, by decide, by decide, by decide⟩, ⟨by decide, by decide, by decide, by decide⟩⟩
    · cases h
  · split at h
    · cases h
      exact ⟨⟨by show -10000 ≤ b - hi; omega, by show b - hi ≤ 10000; omega, by show -10000 ≤ 0 - s; omega, by show 0 - s ≤ 10000; omega⟩, ⟨by show -10000 ≤ b - lo; omega, by show b - lo ≤ 10000; omega, by show -10000 ≤ 0 - s; omega, by show 0 - s ≤ 10000; omega⟩⟩
    · cases h
      exact ⟨⟨by show -10000 ≤ lo - b; omega, by show lo - b ≤ 10000; omega, by show -10000 ≤ s; omega, by show s ≤ 10000; omega⟩, ⟨by show -10000 ≤ hi - b; omega, by show hi - b ≤ 10000; omega, by show -10000 ≤ s; omega, by show s ≤ 10000; omega⟩⟩
section
variable {P : Program} {w : World} {K : PySem.W.Frag} {mg : Str → Option Value} {base : Heap} {f : Addr} {fd : FuncData}
abbrev s_clip : Stmt := top 31
theorem sc_clip : FnScope ["_law_begin", "_law_step", "_law_low", "_law_high"] ["_law_begin", "_law_step", "_law_low", "_law_high"] (defScope s_clip) := ⟨rfl, rfl, rfl, by decide +kernel, rfl, by decide +kernel, by decide +kernel⟩
theorem ok_clip (F : Fun K "_law_clip" "_law_clip" s_clip f fd) : FnOk P w K mg base CX0 1 f fd ["_law_begin", "_law_step", "_law_low", "_law_high"] spClp := by
  refine F.ok sc_clip (fun vs H Q E h => ?_) (fun cdv A outer s H vs Q E hr h => ?_)
  · obtain ⟨b, s, lo, hi, rfl, _⟩ := h
    rfl
  obtain ⟨b, s', lo, hi, rfl, qn, qs⟩ := h
  refine ⟨_, (pss_cons (ps_if (pt_cmpR op_eq (pv 1) pe_int (nomark _))
    (pss_one (ps_ret (pe_ifExp (pt_chain op_le op_le (pv 2) (pv 0) (pv 3)) (pe_lst (pa_cons (pe_tup (pa_cons pe_int (pa_cons pe_int pa_nil))) (pa_cons (pe_tup (pa_cons pe_int (pa_cons pe_int pa_nil))) pa_nil))) (pe_lst pa_nil))))
    pss_nil)
    (pss_cons (ps_if (pt_cmpR op_lt (pv 1) pe_int (nomark _))
    (pss_one (ps_ret (pe_lst (pa_cons (pe_tup (pa_cons (pe_op op_sub (pv 0) (pv 3)) (pa_cons (pe_op op_sub pe_int (pv 1)) pa_nil))) (pa_cons (pe_tup (pa_cons (pe_op op_sub (pv 0) (pv 2)) (pa_cons (pe_op op_sub pe_int (pv 1)) pa_nil))) pa_nil)))))
    pss_nil)
    (pss_one (ps_ret (pe_lst (pa_cons (pe_tup (pa_cons (pe_op op_sub (pv 2) (pv 0)) (pa_cons (pv 1) pa_nil))) (pa_cons (pe_tup (pa_cons (pe_op op_sub (pv 3) (pv 0)) (pa_cons (pv 1) pa_nil))) pa_nil))))))), ?_⟩
  refine ⟨_, rfl, rfl, _, rfl, ?_⟩
  by_cases c : s' = 0
  · refine iteDT (congrArg V.int c) ?_
    refine ⟨_, rfl, _, rfl, _, _, rfl, rfl, _, rfl, ?_⟩
    by_cases d1 : lo ≤ b
    · refine iteDT d1 ?_
      refine ⟨_, rfl, _, _, rfl, rfl, _, rfl, ?_⟩
      by_cases d2 : b ≤ hi
      · refine iteDT d2 ?_
        refine ⟨sz (by decide : 2 ≤ 100000), fun p1 n1 => ⟨sz (by decide : 2 ≤ 100000), fun p2 n2 => ⟨sz (by decide : 2 ≤ 100000), fun p3 n3 => ?_⟩⟩⟩
        refine qs (0, 1) (1, 1) (by unfold clip; rw [if_pos c, if_pos ⟨d1, d2⟩]) p3 p1 p2 _ ((same_new n1 _).trans ((same_new n2 _).trans (same_new n3 _))) upd_same ?_ ?_
        · exact same_new n3 _ _ _ (same_new n2 _ _ _ upd_same)
        · exact same_new n3 _ _ _ upd_same
      · refine iteDF d2 ?_
        refine ⟨sz (by decide : 0 ≤ 100000), fun p1 n1 => ?_⟩
        exact qn (by unfold clip; rw [if_pos c, if_neg (fun z => d2 z.2)]) p1 _ (same_new n1 _) upd_same
    · refine iteDF d1 ?_
      refine ⟨_, rfl, iteF ?_⟩
      refine ⟨sz (by decide : 0 ≤ 100000), fun p1 n1 => ?_⟩
      exact qn (by unfold clip; rw [if_pos c, if_neg (fun z => d1 z.1)]) p1 _ (same_new n1 _) upd_same
  · refine iteDF (fun z => c (V.int.inj z)) ?_
    refine ⟨_, rfl, _, _, rfl, rfl, _, rfl, ?_⟩
    by_cases d : s' < 0
    · refine iteDT d ?_
      refine ⟨_, rfl, _, rfl, _, _, rfl, rfl, _, rfl, _, _, rfl, rfl, sz (by decide : 2 ≤ 100000), fun p1 n1 => ?_⟩
      refine ⟨_, rfl, _, rfl, _, _, rfl, rfl, _, rfl, _, _, rfl, rfl, sz (by decide : 2 ≤ 100000), fun p2 n2 => ⟨sz (by decide : 2 ≤ 100000), fun p3 n3 => ?_⟩⟩
      refine qs (b - hi, 0 - s') (b - lo, 0 - s') (by unfold clip; rw [if_neg c, if_pos d]) p3 p1 p2 _ ((same_new n1 _).trans ((same_new n2 _).trans (same_new n3 _))) upd_same ?_ ?_
      · exact same_new n3 _ _ _ (same_new n2 _ _ _ upd_same)
      · exact same_new n3 _ _ _ upd_same
    · refine iteDF d ?_
      refine ⟨_, rfl, _, rfl, _, _, rfl, rfl, _, rfl, sz (by decide : 2 ≤ 100000), fun p1 n1 => ?_⟩
      refine ⟨_, rfl, _, rfl, _, _, rfl, rfl, _, rfl, sz (by decide : 2 ≤ 100000), fun p2 n2 => ⟨sz (by decide : 2 ≤ 100000), fun p3 n3 => ?_⟩⟩
      refine qs (lo - b, s') (hi - b, s') (by unfold clip; rw [if_neg c, if_neg d]) p3 p1 p2 _ ((same_new n1 _).trans ((same_new n2 _).trans (same_new n3 _))) upd_same ?_ ?_
      · exact same_new n3 _ _ _ (same_new n2 _ _ _ upd_same)
      · exact same_new n3 _ _ _ upd_same
abbrev s_later : Stmt := top 32
theorem sc_later : FnScope ["_law_one", "_law_other"] ["_law_one", "_law_other"] (defScope s_later) := ⟨rfl, rfl, rfl, by decide +kernel, rfl, by decide +kernel, by decide +kernel⟩
theorem ok_later (F : Fun K "_law_later" "_law_later" s_later f fd) : FnOk P w K mg base CX0 1 f fd ["_law_one", "_law_other"] spLater := by
  refine F.ok sc_later (fun vs H Q E h => ?_) (fun cdv A outer s H vs Q E hr h => ?_)
  · obtain ⟨p1, p2, a, b, rfl, _⟩ := h
    rfl
  obtain ⟨p1, p2, a, b, rfl, h1, h2, hs, q⟩ := h
  refine ⟨_, (pss_one (ps_ret (pe_ifExp (pt_cmpR op_gt (pe_op op_mul (pe_ix ix_tup (pv 0) pe_int (fun _ _ => rfl)) (pe_ix ix_tup (pv 1) pe_int (fun _ _ => rfl))) (pe_op op_mul (pe_ix ix_tup (pv 1) pe_int (fun _ _ => rfl)) (pe_ix ix_tup (pv 0) pe_int (fun _ _ => rfl))) (nomark _)) (pv 0) (pv 1)))), ?_⟩
  unfold sm at hs
  refine ⟨_, rfl, p1, _, _, _, rfl, rfl, SqT.of h1, rfl, _, rfl, p2, _, _, _, rfl, rfl, SqT.of h2, rfl, _, _, rfl, rfl, .inl ⟨by omega, by omega⟩, ?_⟩
  refine ⟨_, rfl, p2, _, _, _, rfl, rfl, SqT.of h2, rfl, _, rfl, p1, _, _, _, rfl, rfl, SqT.of h1, rfl, _, _, rfl, rfl, .inr ⟨by omega, by omega⟩, _, _, rfl, rfl, _, rfl, ?_⟩
  unfold later at q
  by_cases c : a.1 * b.2 > b.1 * a.2
  · refine iteDT c ?_
    rw [if_pos c] at q
    exact ⟨_, rfl, q p1 h1⟩
  · refine iteDF c ?_
    rw [if_neg c] at q
    exact ⟨_, rfl, q p2 h2⟩
abbrev s_sooner : Stmt := top 33
theorem sc_sooner : FnScope ["_law_one", "_law_other"] ["_law_one", "_law_other"] (defScope s_sooner) := ⟨rfl, rfl, rfl, by decide +kernel, rfl, by decide +kernel, by decide +kernel⟩
theorem ok_sooner (F : Fun K "_law_sooner" "_law_sooner" s_sooner f fd) : FnOk P w K mg base CX0 1 f fd ["_law_one", "_law_other"] spSooner := by
  refine F.ok sc_sooner (fun vs H Q E h => ?_) (fun cdv A outer s H vs Q E hr h => ?_)
  · obtain ⟨p1, p2, a, b, rfl, _⟩ := h
    rfl
  obtain ⟨p1, p2, a, b, rfl, h1, h2, hs, q⟩ := h
  refine ⟨_, (pss_one (ps_ret (pe_ifExp (pt_cmpR op_lt (pe_op op_mul (pe_ix ix_tup (pv 0) pe_int (fun _ _ => rfl)) (pe_ix ix_tup (pv 1) pe_int (fun _ _ => rfl))) (pe_op op_mul (pe_ix ix_tup (pv 1) pe_int (fun _ _ => rfl)) (pe_ix ix_tup (pv 0) pe_int (fun _ _ => rfl))) (nomark _)) (pv 0) (pv 1)))), ?_⟩
  unfold sm at hs
  refine ⟨_, rfl, p1, _, _, _, rfl, rfl, SqT.of h1, rfl, _, rfl, p2, _, _, _, rfl, rfl, SqT.of h2, rfl, _, _, rfl, rfl, .inl ⟨by omega, by omega⟩, ?_⟩
  refine ⟨_, rfl, p2, _, _, _, rfl, rfl, SqT.of h2, rfl, _, rfl, p1, _, _, _, rfl, rfl, SqT.of h1, rfl, _, _, rfl, rfl, .inr ⟨by omega, by omega⟩, _, _, rfl, rfl, _, rfl, ?_⟩
  unfold sooner at q
  by_cases c : a.1 * b.2 < b.1 * a.2
  · refine iteDT c ?_
    rw [if_pos c] at q
    exact ⟨_, rfl, q p1 h1⟩
  · refine iteDF c ?_
    rw [if_neg c] at q
    exact ⟨_, rfl, q p2 h2⟩
abbrev s_inside : Stmt := top 34
theorem sc_inside : FnScope ["_law_stroke_here", "_law_when", "_law_spot_here", "_law_over", "_law_under", "_law_x", "_law_y", "_law_right"] ["_law_stroke_here", "_law_when", "_law_spot_here"] (defScope s_inside) := ⟨rfl, rfl, rfl, by decide +kernel, rfl, by decide +kernel, by decide +kernel⟩
theorem ok_inside (F : Fun K "_law_inside" "_law_inside" s_inside f fd) : FnOk P w K mg base CX0 1 f fd ["_law_stroke_here", "_law_when", "_law_spot_here"] spInside := by
  refine F.ok sc_inside (fun vs H Q E h => ?_) (fun cdv A outer s H vs Q E hr h => ?_)
  · obtain ⟨ps, pt, pw, x1, y1, x2, y2, sx, sy, n, m, rfl, _⟩ := h
    rfl
  obtain ⟨ps, pt, pw, x1, y1, x2, y2, sx, sy, n, m, rfl, ⟨hs, bs, _⟩, hw, ht, bt, q⟩ := h
  refine ⟨_, (pss_cons (ps_asg (pv 1) (pg_tup rfl (pgs_cons (pg_name (i := 3) sc_inside.nd rfl (Or.inl rfl)) (pgs_cons (pg_name (i := 4) sc_inside.nd rfl (Or.inl rfl)) pgs_nil))))
    (pss_cons (ps_set (i := 5) sc_inside.nd rfl (Or.inl rfl) (pe_op op_add (pe_op op_mul (pe_op op_mul pe_int (pe_ix ix_tup (pv 0) pe_int (fun _ _ => rfl))) (pv 4)) (pe_op op_mul (pe_op op_mul pe_int (pe_op op_sub (pe_ix ix_tup (pv 0) pe_int (fun _ _ => rfl)) (pe_ix ix_tup (pv 0) pe_int (fun _ _ => rfl)))) (pv 3))))
    (pss_cons (ps_set (i := 6) sc_inside.nd rfl (Or.inl rfl) (pe_op op_add (pe_op op_mul (pe_op op_mul pe_int (pe_ix ix_tup (pv 0) pe_int (fun _ _ => rfl))) (pv 4)) (pe_op op_mul (pe_op op_mul pe_int (pe_op op_sub (pe_ix ix_tup (pv 0) pe_int (fun _ _ => rfl)) (pe_ix ix_tup (pv 0) pe_int (fun _ _ => rfl)))) (pv 3))))
    (pss_cons (ps_set (i := 7) sc_inside.nd rfl (Or.inl rfl) (pe_chain op_le op_lt (pe_op op_mul (pe_op op_sub (pe_op op_mul pe_int (pe_ix ix_tup (pv 2) pe_int (fun _ _ => rfl))) pe_int) (pv 4)) (pv 5) (pe_op op_mul (pe_op op_add (pe_op op_mul pe_int (pe_ix ix_tup (pv 2) pe_int (fun _ _ => rfl))) pe_int) (pv 4))))
    (pss_one (ps_ret (pe_and (pv 7) (pe_one (pe_chain op_le op_lt (pe_op op_mul (pe_op op_sub (pe_op op_mul pe_int (pe_ix ix_tup (pv 2) pe_int (fun _ _ => rfl))) pe_int) (pv 4)) (pv 6) (pe_op op_mul (pe_op op_add (pe_op op_mul pe_int (pe_ix ix_tup (pv 2) pe_int (fun _ _ => rfl))) pe_int) (pv 4))))))))))), ?_⟩
  refine ⟨_, rfl, pw, _, rfl, SqT.of hw, rfl, _, _, rfl, _, _, rfl, rfl, ?_⟩
  refine ⟨_, rfl, ps, _, _, _, rfl, rfl, SqT.of hs, rfl, _, _, rfl, rfl, .inl ⟨by decide, by decide⟩, _, rfl, _, _, rfl, rfl, .inl ⟨by omega, by omega⟩, _, rfl, ps, _, _, _, rfl, rfl, SqT.of hs, rfl, _, rfl, ps, _, _, _, rfl, rfl, SqT.of hs, rfl, _, _, rfl, rfl, _, _, rfl, rfl, .inl ⟨by decide, by decide⟩, _, rfl, _, _, rfl, rfl, .inl ⟨by omega, by omega⟩, _, _, rfl, rfl, ?_⟩
  refine ⟨_, rfl, ps, _, _, _, rfl, rfl, SqT.of hs, rfl, _, _, rfl, rfl, .inl ⟨by decide, by decide⟩, _, rfl, _, _, rfl, rfl, .inl ⟨by omega, by omega⟩, _, rfl, ps, _, _, _, rfl, rfl, SqT.of hs, rfl, _, rfl, ps, _, _, _, rfl, rfl, SqT.of hs, rfl, _, _, rfl, rfl, _, _, rfl, rfl, .inl ⟨by decide, by decide⟩, _, rfl, _, _, rfl, rfl, .inl ⟨by omega, by omega⟩, _, _, rfl, rfl, ?_⟩
  have key : decide (Ins x1 y1 x2 y2 sx sy n m) = (decide ((2 * sx - 1) * m ≤ 2 * x1 * m + 2 * (x2 - x1) * n) && (decide (2 * x1 * m + 2 * (x2 - x1) * n < (2 * sx + 1) * m) && (decide ((2 * sy - 1) * m ≤ 2 * y1 * m + 2 * (y2 - y1) * n) && decide (2 * y1 * m + 2 * (y2 - y1) * n < (2 * sy + 1) * m)))) := by
    rw [← Bool.decide_and, ← Bool.decide_and, ← Bool.decide_and]
    rfl
  rw [key] at q
  refine ⟨_, rfl, pt, _, _, _, rfl, rfl, SqT.of ht, rfl, _, _, rfl, rfl, .inl ⟨by decide, by decide⟩, _, _, rfl, rfl, _, rfl, _, _, rfl, rfl, .inl ⟨by omega, by omega⟩, _, rfl, _, _, rfl, rfl, _, rfl, ?_⟩
  by_cases d1 : (2 * sx - 1) * m ≤ 2 * x1 * m + 2 * (x2 - x1) * n
  · refine iteDT d1 ?_
    rw [decide_eq_true d1, Bool.true_and] at q
    refine ⟨_, rfl, pt, _, _, _, rfl, rfl, SqT.of ht, rfl, _, _, rfl, rfl, .inl ⟨by decide, by decide⟩, _, _, rfl, rfl, _, rfl, _, _, rfl, rfl, .inl ⟨by omega, by omega⟩, _, _, rfl, rfl, ?_⟩
    refine ⟨_, rfl, _, rfl, ?_⟩
    by_cases d2 : 2 * x1 * m + 2 * (x2 - x1) * n < (2 * sx + 1) * m
    · refine iteDT d2 ?_
      rw [decide_eq_true d2, Bool.true_and] at q
      refine ⟨_, rfl, pt, _, _, _, rfl, rfl, SqT.of ht, rfl, _, _, rfl, rfl, .inl ⟨by decide, by decide⟩, _, _, rfl, rfl, _, rfl, _, _, rfl, rfl, .inl ⟨by omega, by omega⟩, _, rfl, _, _, rfl, rfl, _, rfl, ?_⟩
      by_cases d3 : (2 * sy - 1) * m ≤ 2 * y1 * m + 2 * (y2 - y1) * n
      · refine iteDT d3 ?_
        rw [decide_eq_true d3, Bool.true_and] at q
        exact ⟨_, rfl, pt, _, _, _, rfl, rfl, SqT.of ht, rfl, _, _, rfl, rfl, .inl ⟨by decide, by decide⟩, _, _, rfl, rfl, _, rfl, _, _, rfl, rfl, .inl ⟨by omega, by omega⟩, _, _, rfl, rfl, q⟩
      · refine iteDF d3 ?_
        rw [decide_eq_false d3, Bool.false_and] at q
        exact q
    · refine iteDF d2 ?_
      rw [decide_eq_false d2, Bool.false_and] at q
      exact q
  · refine iteDF d1 ?_
    rw [decide_eq_false d1, Bool.false_and] at q
    exact ⟨_, rfl, _, rfl, iteF q⟩
end
end DM

namespace DM
/-! ### a stroke goes through a box of squares -/
def InBox (x1 y1 x2 y2 lx ly gx gy n m : Int) : Prop :=
  (2 * lx - 1) * m ≤ 2 * x1 * m + 2 * (x2 - x1) * n ∧ 2 * x1 * m + 2 * (x2 - x1) * n < (2 * gx + 1) * m ∧ (2 * ly - 1) * m ≤ 2 * y1 * m + 2 * (y2 - y1) * n ∧ 2 * y1 * m + 2 * (y2 - y1) * n < (2 * gy + 1) * m
def Box (x1 y1 x2 y2 lx ly gx gy : Int) : Prop := ∃ n m : Int, 0 < m ∧ 0 ≤ n ∧ n ≤ m ∧ InBox x1 y1 x2 y2 lx ly gx gy n m
theorem box_thr {x1 y1 x2 y2 sx sy : Int} : Box x1 y1 x2 y2 sx sy sx sy ↔ Thr x1 y1 x2 y2 sx sy := Iff.rfl
theorem box_of_thr {x1 y1 x2 y2 lx ly gx gy sx sy : Int} (h : Thr x1 y1 x2 y2 sx sy) (h1 : lx ≤ sx) (h2 : sx ≤ gx) (h3 : ly ≤ sy) (h4 : sy ≤ gy) : Box x1 y1 x2 y2 lx ly gx gy := by
  obtain ⟨n, m, hm, h0, h1', a, b, c, d⟩ := h
  have e1 := Int.mul_le_mul_of_nonneg_right (show 2 * lx - 1 ≤ 2 * sx - 1 by omega) (show 0 ≤ m by omega)
  have e2 := Int.mul_le_mul_of_nonneg_right (show 2 * sx + 1 ≤ 2 * gx + 1 by omega) (show 0 ≤ m by omega)
  have e3 := Int.mul_le_mul_of_nonneg_right (show 2 * ly - 1 ≤ 2 * sy - 1 by omega) (show 0 ≤ m by omega)
  have e4 := Int.mul_le_mul_of_nonneg_right (show 2 * sy + 1 ≤ 2 * gy + 1 by omega) (show 0 ≤ m by omega)
  exact ⟨n, m, hm, h0, h1', by omega, by omega, by omega, by omega⟩
theorem conv_le {a b c n m : Int} (hn : 0 ≤ n) (hnm : n ≤ m) (h1 : a ≤ c) (h2 : b ≤ c) : 2 * a * m + 2 * (b - a) * n ≤ 2 * c * m := by
  have e1 := Int.mul_nonneg (show 0 ≤ c - a by omega) (show 0 ≤ m - n by omega)
  have e2 := Int.mul_nonneg (show 0 ≤ c - b by omega) hn
  simp only [Int.sub_mul, Int.mul_sub, Int.mul_assoc] at *
  omega
theorem conv_ge {a b c n m : Int} (hn : 0 ≤ n) (hnm : n ≤ m) (h1 : c ≤ a) (h2 : c ≤ b) : 2 * c * m ≤ 2 * a * m + 2 * (b - a) * n := by
  have e1 := Int.mul_nonneg (show 0 ≤ a - c by omega) (show 0 ≤ m - n by omega)
  have e2 := Int.mul_nonneg (show 0 ≤ b - c by omega) hn
  simp only [Int.sub_mul, Int.mul_sub, Int.mul_assoc] at *
  omega
theorem out_low {a b l n m : Int} (hm : 0 < m) (hn : 0 ≤ n) (hnm : n ≤ m) (h1 : a < l) (h2 : b < l) (h : (2 * l - 1) * m ≤ 2 * a * m + 2 * (b - a) * n) : False := by
  have e := conv_le hn hnm (show a ≤ l - 1 by omega) (show b ≤ l - 1 by omega)
  have f : 2 * (l - 1) * m = (2 * l - 1) * m - m := by simp only [Int.sub_mul, Int.mul_sub]; omega
  omega
theorem out_high {a b g n m : Int} (hm : 0 < m) (hn : 0 ≤ n) (hnm : n ≤ m) (h1 : g < a) (h2 : g < b) (h : 2 * a * m + 2 * (b - a) * n < (2 * g + 1) * m) : False := by
  have e := conv_ge hn hnm (show g + 1 ≤ a by omega) (show g + 1 ≤ b by omega)
  have f : 2 * (g + 1) * m = (2 * g + 1) * m + m := by simp only [Int.add_mul, Int.mul_add]; omega
  omega
/-- one number between both ends and within the bounds -/
theorem mid_some {a b l g : Int} (h1 : ¬ (a < l ∧ b < l)) (h2 : ¬ (g < a ∧ g < b)) (hlg : l ≤ g) : ∃ c n m : Int, 0 < m ∧ 0 ≤ n ∧ n ≤ m ∧ 2 * a * m + 2 * (b - a) * n = 2 * c * m ∧ l ≤ c ∧ c ≤ g := by
  by_cases e : l ≤ a ∧ a ≤ g
  · exact ⟨a, 0, 1, by decide, by decide, by decide, by omega, by omega, by omega⟩
  · by_cases c : a < l
    · refine ⟨l, l - a, b - a, by omega, by omega, by omega, ?_, by omega, by omega⟩
      have : 2 * (b - a) * (l - a) = 2 * (l - a) * (b - a) := by rw [Int.mul_assoc, Int.mul_assoc, Int.mul_comm (b - a)]
      rw [this, ← Int.add_mul]
      congr 1
      omega
    · refine ⟨g, a - g, a - b, by omega, by omega, by omega, ?_, by omega, by omega⟩
      have : 2 * (b - a) * (a - g) = 2 * (g - a) * (a - b) := by
        have z : (b - a) * (a - g) = (g - a) * (a - b) := by rw [← Int.neg_mul_neg (b - a), Int.mul_comm]; congr 1 <;> omega
        rw [Int.mul_assoc, z, Int.mul_assoc]
      rw [this, ← Int.add_mul]
      congr 1
      omega
theorem half_in {c l g m V : Int} (hm : 0 < m) (e : V = 2 * c * m) (h1 : l ≤ c) (h2 : c ≤ g) : (2 * l - 1) * m ≤ V ∧ V < (2 * g + 1) * m := by
  have e1 := Int.mul_le_mul_of_nonneg_right (show 2 * l - 1 ≤ 2 * c - 1 by omega) (show 0 ≤ m by omega)
  have e2 := Int.mul_le_mul_of_nonneg_right (show 2 * c + 1 ≤ 2 * g + 1 by omega) (show 0 ≤ m by omega)
  rw [Int.sub_mul (2 * c)] at e1
  rw [Int.add_mul (2 * c)] at e2
  omega
/-- a bound from below, from above, by moments -/
def LoOk (v W m : Int) : Prop := (∃ k : Int, v = 2 * k ∧ 2 * k * m ≤ W) ∨ (∃ k : Int, v = 2 * k + 1 ∧ 2 * k * m < W)
def HiOk (v W m : Int) : Prop := (∃ k : Int, v = 2 * k ∧ W ≤ 2 * k * m) ∨ (∃ k : Int, v = 2 * k - 1 ∧ W < 2 * k * m)
theorem lo_hi {v v' W m : Int} (hm : 0 < m) (h : LoOk v W m) (h' : HiOk v' W m) : v ≤ v' := by
  have lt : ∀ a b : Int, a * m < b * m → a < b := fun a b z => Int.lt_of_mul_lt_mul_right z (by omega)
  have le : ∀ a b : Int, a * m ≤ b * m → a ≤ b := fun a b z => Int.le_of_mul_le_mul_right z hm
  rcases h with ⟨k, rfl, h⟩ | ⟨k, rfl, h⟩ <;> rcases h' with ⟨j, rfl, h'⟩ | ⟨j, rfl, h'⟩
  · have := le _ _ (Int.le_trans h h'); omega
  · have := lt _ _ (Int.lt_of_le_of_lt h h'); omega
  · have := lt _ _ (Int.lt_of_lt_of_le h h'); omega
  · have := lt _ _ (Int.lt_trans h h'); omega
def inM (a b t l g : Int) : Int := if a < b then 2 * t * (2 * (l - a) - 1) else 1 - 2 * t * (2 * (g - a) + 1)
def outM (a b t l g : Int) : Int := if a < b then 2 * t * (2 * (g - a) + 1) - 1 else -2 * t * (2 * (l - a) - 1)
theorem axis_up {a b t l g n m : Int} (hm : 0 < m) (ht : 0 < t) (hab : a < b) : ((2 * l - 1) * m ≤ 2 * a * m + 2 * (b - a) * n ↔ 2 * (t * (2 * (l - a) - 1)) * m ≤ 4 * (b - a) * t * n) ∧ (2 * a * m + 2 * (b - a) * n < (2 * g + 1) * m ↔ 4 * (b - a) * t * n < 2 * (t * (2 * (g - a) + 1)) * m) := by
  have e1 : 2 * (t * (2 * (l - a) - 1)) * m = (2 * t) * ((2 * l - 1) * m - 2 * a * m) := by
    rw [← Int.sub_mul, ← Int.mul_assoc, ← Int.mul_assoc]; congr 2; omega
  have e2 : 4 * (b - a) * t * n = (2 * t) * (2 * (b - a) * n) := by
    rw [show 4 * (b - a) * t = 2 * t * (2 * (b - a)) by rw [Int.mul_assoc, Int.mul_assoc, Int.mul_left_comm t, ← Int.mul_assoc 2 2, Int.mul_comm t]; rfl]
    rw [Int.mul_assoc]
  have e3 : 2 * (t * (2 * (g - a) + 1)) * m = (2 * t) * ((2 * g + 1) * m - 2 * a * m) := by
    rw [← Int.sub_mul, ← Int.mul_assoc, ← Int.mul_assoc]; congr 2; omega
  rw [e1, e2, e3]
  have le : ∀ x y : Int, (2 * t) * x ≤ (2 * t) * y ↔ x ≤ y := fun x y => ⟨fun z => Int.le_of_mul_le_mul_left z (by omega), fun z => Int.mul_le_mul_of_nonneg_left z (by omega)⟩
  have lt : ∀ x y : Int, (2 * t) * x < (2 * t) * y ↔ x < y := fun x y => ⟨fun z => Int.lt_of_mul_lt_mul_left z (by omega), fun z => Int.mul_lt_mul_of_pos_left z (by omega)⟩
  rw [le, lt]
  omega
theorem axis_down {a b t l g n m : Int} (hm : 0 < m) (ht : 0 < t) (hab : b < a) : ((2 * l - 1) * m ≤ 2 * a * m + 2 * (b - a) * n ↔ 4 * (a - b) * t * n ≤ 2 * (-(t * (2 * (l - a) - 1))) * m) ∧ (2 * a * m + 2 * (b - a) * n < (2 * g + 1) * m ↔ 2 * (-(t * (2 * (g - a) + 1))) * m < 4 * (a - b) * t * n) := by
  have e1 : 2 * (-(t * (2 * (l - a) - 1))) * m = (2 * t) * (2 * a * m - (2 * l - 1) * m) := by
    rw [← Int.sub_mul, ← Int.mul_assoc]; congr 1; rw [← Int.mul_neg, ← Int.mul_assoc]; congr 1; omega
  have e2 : 4 * (a - b) * t * n = (2 * t) * (-(2 * (b - a) * n)) := by
    rw [show 4 * (a - b) * t = 2 * t * (2 * (a - b)) by rw [Int.mul_assoc, Int.mul_assoc, Int.mul_left_comm t, ← Int.mul_assoc 2 2, Int.mul_comm t]; rfl]
    rw [Int.mul_assoc]; congr 1; rw [← Int.neg_mul]; congr 1; omega
  have e3 : 2 * (-(t * (2 * (g - a) + 1))) * m = (2 * t) * (2 * a * m - (2 * g + 1) * m) := by
    rw [← Int.sub_mul, ← Int.mul_assoc]; congr 1; rw [← Int.mul_neg, ← Int.mul_assoc]; congr 1; omega
  rw [e1, e2, e3]
  have le : ∀ x y : Int, (2 * t) * x ≤ (2 * t) * y ↔ x ≤ y := fun x y => ⟨fun z => Int.le_of_mul_le_mul_left z (by omega), fun z => Int.mul_le_mul_of_nonneg_left z (by omega)⟩
  have lt : ∀ x y : Int, (2 * t) * x < (2 * t) * y ↔ x < y := fun x y => ⟨fun z => Int.lt_of_mul_lt_mul_left z (by omega), fun z => Int.mul_lt_mul_of_pos_left z (by omega)⟩
  rw [le, lt]
  omega
def aw (a b : Int) : Int := if b - a < 0 then -(b - a) else b - a
theorem aw_up {a b : Int} (h : a < b) : aw a b = b - a := by unfold aw; rw [if_neg (by omega)]
theorem aw_down {a b : Int} (h : b < a) : aw a b = a - b := by unfold aw; rw [if_pos (by omega)]; omega
theorem axis_bounds {a b t l g n m : Int} (hm : 0 < m) (ht : 0 < t) (hab : a ≠ b) (h1 : (2 * l - 1) * m ≤ 2 * a * m + 2 * (b - a) * n) (h2 : 2 * a * m + 2 * (b - a) * n < (2 * g + 1) * m) : LoOk (inM a b t l g) (4 * aw a b * t * n) m ∧ HiOk (outM a b t l g) (4 * aw a b * t * n) m := by
  unfold inM outM
  rcases Int.lt_or_lt_of_ne hab with c | c
  · rw [if_pos c, if_pos c, aw_up c]
    have e := axis_up (t := t) (l := l) (g := g) (n := n) hm ht c
    exact ⟨.inl ⟨t * (2 * (l - a) - 1), by rw [Int.mul_assoc], e.1.mp h1⟩, .inr ⟨t * (2 * (g - a) + 1), by rw [Int.mul_assoc], e.2.mp h2⟩⟩
  · rw [if_neg (by omega), if_neg (by omega), aw_down c]
    have e := axis_down (t := t) (l := l) (g := g) (n := n) hm ht c
    exact ⟨.inr ⟨-(t * (2 * (g - a) + 1)), by rw [Int.mul_assoc 2 t]; omega, e.2.mp h2⟩, .inl ⟨-(t * (2 * (l - a) - 1)), by rw [Int.mul_assoc, Int.neg_mul]; omega, e.1.mp h1⟩⟩
theorem axis_of {a b t l g n m : Int} (ht : 0 < t) (hab : a ≠ b) (em : m = 4 * aw a b * t) (h1 : inM a b t l g ≤ n) (h2 : n ≤ outM a b t l g) : (2 * l - 1) * m ≤ 2 * a * m + 2 * (b - a) * n ∧ 2 * a * m + 2 * (b - a) * n < (2 * g + 1) * m := by
  unfold inM at h1
  unfold outM at h2
  have hm : 0 < m := by
    rw [em]
    refine Int.mul_pos (Int.mul_pos (by decide) ?_) ht
    unfold aw
    split <;> omega
  have le : ∀ x y : Int, x * m ≤ m * y ↔ x ≤ y := fun x y => by rw [Int.mul_comm x]; exact ⟨fun z => Int.le_of_mul_le_mul_left z hm, fun z => Int.mul_le_mul_of_nonneg_left z (by omega)⟩
  have ge : ∀ x y : Int, m * y ≤ x * m ↔ y ≤ x := fun x y => by rw [Int.mul_comm x]; exact ⟨fun z => Int.le_of_mul_le_mul_left z hm, fun z => Int.mul_le_mul_of_nonneg_left z (by omega)⟩
  have lt : ∀ x y : Int, m * y < x * m ↔ y < x := fun x y => by rw [Int.mul_comm x]; exact ⟨fun z => Int.lt_of_mul_lt_mul_left z (by omega), fun z => Int.mul_lt_mul_of_pos_left z hm⟩
  have gt : ∀ x y : Int, x * m < m * y ↔ x < y := fun x y => by rw [Int.mul_comm x]; exact ⟨fun z => Int.lt_of_mul_lt_mul_left z (by omega), fun z => Int.mul_lt_mul_of_pos_left z hm⟩
  rcases Int.lt_or_lt_of_ne hab with c | c
  · rw [if_pos c, Int.mul_assoc] at h1 h2
    rw [aw_up c] at em
    have e := axis_up (t := t) (l := l) (g := g) (n := n) hm ht c
    rw [e.1, e.2, ← em, le, lt]
    omega
  · rw [if_neg (by omega), Int.mul_assoc] at h1 h2
    rw [aw_down c] at em
    have e := axis_down (t := t) (l := l) (g := g) (n := n) hm ht c
    rw [e.1, e.2, ← em, ge, gt]
    omega
def mx2 (i j : Int) : Int := if j > i then j else i
def mn2 (i j : Int) : Int := if j < i then j else i
theorem mx2_lt {i j k : Int} : mx2 i j < k ↔ i < k ∧ j < k := by unfold mx2; split <;> omega
theorem lt_mn2 {i j k : Int} : k < mn2 i j ↔ k < i ∧ k < j := by unfold mn2; split <;> omega
def mx3 (i j k : Int) : Int := mx2 (mx2 i j) k
def mn3 (i j k : Int) : Int := mn2 (mn2 i j) k
theorem le_mx3 (i j k : Int) : i ≤ mx3 i j k ∧ j ≤ mx3 i j k ∧ k ≤ mx3 i j k := by unfold mx3 mx2; split <;> split <;> omega
theorem mn3_le (i j k : Int) : mn3 i j k ≤ i ∧ mn3 i j k ≤ j ∧ mn3 i j k ≤ k := by unfold mn3 mn2; split <;> split <;> omega
theorem mx3_le_mn3 {a b c d e f : Int} (h1 : a ≤ d ∧ a ≤ e ∧ a ≤ f) (h2 : b ≤ d ∧ b ≤ e ∧ b ≤ f) (h3 : c ≤ d ∧ c ≤ e ∧ c ≤ f) : mx3 a b c ≤ mn3 d e f := by unfold mx3 mx2 mn3 mn2; split <;> split <;> split <;> split <;> omega
/-- the program's own passing of a box -/
def passL (x1 y1 x2 y2 lx ly gx gy : Int) : Bool :=
  if mx2 x1 x2 < lx ∨ gx < mn2 x1 x2 then false else if mx2 y1 y2 < ly ∨ gy < mn2 y1 y2 then false else
  if aw x1 x2 = 0 ∨ aw y1 y2 = 0 then true else
  decide (mx3 0 (inM x1 x2 (aw y1 y2) lx gx) (inM y1 y2 (aw x1 x2) ly gy) ≤ mn3 (4 * aw x1 x2 * aw y1 y2) (outM x1 x2 (aw y1 y2) lx gx) (outM y1 y2 (aw x1 x2) ly gy))
theorem aw_zero {a b : Int} : aw a b = 0 ↔ a = b := by unfold aw; split <;> omega
theorem aw_pos {a b : Int} (h : a ≠ b) : 0 < aw a b := by unfold aw; split <;> omega
theorem passL_iff {x1 y1 x2 y2 lx ly gx gy : Int} (hx : lx ≤ gx) (hy : ly ≤ gy) : passL x1 y1 x2 y2 lx ly gx gy = true ↔ Box x1 y1 x2 y2 lx ly gx gy := by
  unfold passL
  split
  · rename_i c
    rw [mx2_lt, lt_mn2] at c
    refine ⟨fun z => (nomatch z), fun ⟨n, m, hm, h0, h1, a, b, _, _⟩ => ?_⟩
    rcases c with c | c
    · exact (out_low hm h0 h1 c.1 c.2 a).elim
    · exact (out_high hm h0 h1 c.1 c.2 b).elim
  rename_i cx
  rw [mx2_lt, lt_mn2] at cx
  split
  · rename_i c
    rw [mx2_lt, lt_mn2] at c
    refine ⟨fun z => (nomatch z), fun ⟨n, m, hm, h0, h1, _, _, a, b⟩ => ?_⟩
    rcases c with c | c
    · exact (out_low hm h0 h1 c.1 c.2 a).elim
    · exact (out_high hm h0 h1 c.1 c.2 b).elim
  rename_i cy
  rw [mx2_lt, lt_mn2] at cy
  split
  · rename_i c
    refine ⟨fun _ => ?_, fun _ => rfl⟩
    rw [aw_zero, aw_zero] at c
    rcases c with c | c
    · subst c
      obtain ⟨d, n, m, hm, h0, h1, e, e1, e2⟩ := mid_some (a := y1) (b := y2) (l := ly) (g := gy) (by omega) (by omega) hy
      have i1 := half_in hm e e1 e2
      have i2 := half_in (l := lx) (g := gx) (c := x1) (V := 2 * x1 * m + 2 * (x1 - x1) * n) hm (by rw [Int.sub_self, Int.mul_zero, Int.zero_mul, Int.add_zero]) (by omega) (by omega)
      exact ⟨n, m, hm, h0, h1, i2.1, i2.2, i1.1, i1.2⟩
    · subst c
      obtain ⟨d, n, m, hm, h0, h1, e, e1, e2⟩ := mid_some (a := x1) (b := x2) (l := lx) (g := gx) (by omega) (by omega) hx
      have i1 := half_in hm e e1 e2
      have i2 := half_in (l := ly) (g := gy) (c := y1) (V := 2 * y1 * m + 2 * (y1 - y1) * n) hm (by rw [Int.sub_self, Int.mul_zero, Int.zero_mul, Int.add_zero]) (by omega) (by omega)
      exact ⟨n, m, hm, h0, h1, i1.1, i1.2, i2.1, i2.2⟩
  · rename_i c
    rw [aw_zero, aw_zero] at c
    have nx : x1 ≠ x2 := fun z => c (.inl z)
    have ny : y1 ≠ y2 := fun z => c (.inr z)
    have px := aw_pos nx
    have py := aw_pos ny
    rw [decide_eq_true_eq]
    have eW : 4 * aw y1 y2 * aw x1 x2 = 4 * aw x1 x2 * aw y1 y2 := by rw [Int.mul_assoc, Int.mul_comm (aw y1 y2), Int.mul_assoc]
    have pW : 0 < 4 * aw x1 x2 * aw y1 y2 := Int.mul_pos (Int.mul_pos (by decide) px) py
    constructor
    · intro h
      have a1 := le_mx3 0 (inM x1 x2 (aw y1 y2) lx gx) (inM y1 y2 (aw x1 x2) ly gy)
      have a2 := mn3_le (4 * aw x1 x2 * aw y1 y2) (outM x1 x2 (aw y1 y2) lx gx) (outM y1 y2 (aw x1 x2) ly gy)
      have k1 := axis_of (n := mx3 0 (inM x1 x2 (aw y1 y2) lx gx) (inM y1 y2 (aw x1 x2) ly gy)) py nx rfl a1.2.1 (by omega)
      have k2 := axis_of (n := mx3 0 (inM x1 x2 (aw y1 y2) lx gx) (inM y1 y2 (aw x1 x2) ly gy)) px ny eW.symm a1.2.2 (by omega)
      exact ⟨_, _, pW, a1.1, by omega, k1.1, k1.2, k2.1, k2.2⟩
    · rintro ⟨n, m, hm, h0, h1, a, b, c, d⟩
      have k1 := axis_bounds (t := aw y1 y2) hm py nx a b
      have k2 := axis_bounds (t := aw x1 x2) hm px ny c d
      rw [eW] at k2
      have l0 : LoOk 0 (4 * aw x1 x2 * aw y1 y2 * n) m := .inl ⟨0, rfl, by rw [Int.mul_zero, Int.zero_mul]; exact Int.mul_nonneg (by omega) h0⟩
      have h4 : HiOk (4 * aw x1 x2 * aw y1 y2) (4 * aw x1 x2 * aw y1 y2 * n) m := .inl ⟨2 * aw x1 x2 * aw y1 y2, by simp only [Int.mul_assoc]; omega, by
        rw [show 2 * (2 * aw x1 x2 * aw y1 y2) = 4 * aw x1 x2 * aw y1 y2 by simp only [Int.mul_assoc]; omega]
        exact Int.mul_le_mul_of_nonneg_left h1 (by omega)⟩
      exact mx3_le_mn3 ⟨lo_hi hm l0 h4, lo_hi hm l0 k1.2, lo_hi hm l0 k2.2⟩ ⟨lo_hi hm k1.1 h4, lo_hi hm k1.1 k1.2, lo_hi hm k1.1 k2.2⟩ ⟨lo_hi hm k2.1 h4, lo_hi hm k2.1 k1.2, lo_hi hm k2.1 k2.2⟩
theorem passL_goes (x1 y1 x2 y2 sx sy : Int) : passL x1 y1 x2 y2 sx sy sx sy = goesL x1 y1 x2 y2 sx sy :=
  Bool.eq_iff_iff.mpr ((passL_iff (Int.le_refl _) (Int.le_refl _)).trans (box_thr.trans (goesL_iff ..).symm))
end DM

namespace DM
open PySem L2
/-! ### the program's own strokes and squares -/
theorem nu_mx2 (i j : Int) : nuMax2 (.int i) (.int j) = some (.int (mx2 i j)) := by
  show some (if decide (i < j) = true then V.int j else V.int i) = _
  unfold mx2
  by_cases c : i < j
  · rw [if_pos (decide_eq_true c), if_pos c]
  · rw [if_neg (by rw [decide_eq_false c]; decide), if_neg c]
theorem nu_mn2 (i j : Int) : nuMin2 (.int i) (.int j) = some (.int (mn2 i j)) := by
  show some (if decide (j < i) = true then V.int j else V.int i) = _
  unfold mn2
  by_cases c : j < i
  · rw [if_pos (decide_eq_true c), if_pos c]
  · rw [if_neg (by rw [decide_eq_false c]; decide), if_neg c]
theorem nu_mx3 (i j k : Int) : nuMax3 (.int i) (.int j) (.int k) = some (.int (mx3 i j k)) := by
  unfold nuMax3 mx3
  rw [nu_mx2]
  exact nu_mx2 _ _
theorem nu_mn3 (i j k : Int) : nuMin3 (.int i) (.int j) (.int k) = some (.int (mn3 i j k)) := by
  unfold nuMin3 mn3
  rw [nu_mn2]
  exact nu_mn2 _ _
def spMoments : Sp := fun vs H Q _ => ∃ a b t l g : Int, vs = [.int a, .int b, .int t, .int l, .int g] ∧ 0 ≤ t ∧ t ≤ 1000 ∧ ∀ (r : Addr) (H' : Hp), Same H H' → H' r = some (.tup [.int (inM a b t l g), .int (outM a b t l g)]) → Q (.ref r) H'
def spPasses : Sp := fun vs H Q _ => ∃ (ps pl pg : Addr) (x1 y1 x2 y2 lx ly gx gy : Int), vs = [.ref ps, .ref pl, .ref pg] ∧ Stk H ps x1 y1 x2 y2 ∧ H pl = some (.tup [.int lx, .int ly]) ∧ H pg = some (.tup [.int gx, .int gy]) ∧ ∀ H', Same H H' → Q (.bl (passL x1 y1 x2 y2 lx ly gx gy)) H'
theorem aw_small {a b : Int} (h1 : -40 ≤ a ∧ a ≤ 40) (h2 : -40 ≤ b ∧ b ≤ 40) : 0 ≤ aw a b ∧ aw a b ≤ 80 := by unfold aw; split <;> omega
section
variable {P : Program} {w : World} {K : PySem.W.Frag} {mg : Str → Option Value} {base : Heap} {f : Addr} {fd : FuncData}
abbrev s_moments : Stmt := top 10
theorem sc_moments : FnScope ["start", "end", "unit", "least", "greatest", "lower", "upper"] ["start", "end", "unit", "least", "greatest"] (defScope s_moments) := ⟨rfl, rfl, rfl, by decide +kernel, rfl, by decide +kernel, by decide +kernel⟩
theorem ok_moments (F : Fun K "moments" "moments" s_moments f fd) : FnOk P w K mg base CX0 1 f fd ["start", "end", "unit", "least", "greatest"] spMoments := by
  refine F.ok sc_moments (fun vs H Q E h => ?_) (fun cdv A outer s H vs Q E hr h => ?_)
  · obtain ⟨a, b, t, l, g, rfl, _⟩ := h
    rfl
  obtain ⟨a, b, t, l, g, rfl, t0, t1, q⟩ := h
  refine ⟨_, (pss_cons (ps_par (i := 5) (j := 6) (by rfl) sc_moments.nd rfl rfl (by decide) rfl rfl (pa_cons (pe_op op_sub (pe_op op_mul pe_int (pe_op op_sub (pv 3) (pv 0))) pe_int) (pa_cons (pe_op op_add (pe_op op_mul pe_int (pe_op op_sub (pv 4) (pv 0))) pe_int) pa_nil)) (by rfl))
    (pss_cons (ps_if (pt_cmpR op_lt (pv 0) (pv 1) (nomark _))
    (pss_one (ps_ret (pe_tup (pa_cons (pe_op op_mul (pe_op op_mul pe_int (pv 2)) (pv 5)) (pa_cons (pe_op op_sub (pe_op op_mul (pe_op op_mul pe_int (pv 2)) (pv 6)) pe_int) pa_nil)))))
    pss_nil)
    (pss_one (ps_ret (pe_tup (pa_cons (pe_op op_sub pe_int (pe_op op_mul (pe_op op_mul pe_int (pv 2)) (pv 6))) (pa_cons (pe_op op_mul (pe_op op_mul (pe_un un_neg pe_int) (pv 2)) (pv 5)) pa_nil))))))), ?_⟩
  unfold inM outM at q
  refine ⟨_, rfl, _, rfl, _, _, rfl, rfl, _, _, rfl, rfl, .inl ⟨by decide, by decide⟩, _, _, rfl, rfl, ?_⟩
  refine ⟨_, rfl, _, rfl, _, _, rfl, rfl, _, _, rfl, rfl, .inl ⟨by decide, by decide⟩, _, _, rfl, rfl, _, _, rfl, ?_⟩
  refine ⟨_, rfl, _, rfl, _, _, rfl, rfl, _, rfl, ?_⟩
  by_cases c : a < b
  · refine iteDT c ?_
    rw [if_pos c, if_pos c] at q
    refine ⟨_, rfl, _, _, rfl, rfl, .inl ⟨by decide, by decide⟩, _, rfl, _, _, rfl, rfl, .inl ⟨by omega, by omega⟩, ?_⟩
    refine ⟨_, rfl, _, _, rfl, rfl, .inl ⟨by decide, by decide⟩, _, rfl, _, _, rfl, rfl, .inl ⟨by omega, by omega⟩, _, _, rfl, rfl, ?_⟩
    exact ⟨sz (by decide : 2 ≤ 100000), fun r nr => q r _ (same_new nr _) upd_same⟩
  · refine iteDF c ?_
    rw [if_neg c, if_neg c] at q
    refine ⟨_, rfl, _, _, rfl, rfl, .inl ⟨by decide, by decide⟩, _, rfl, _, _, rfl, rfl, .inl ⟨by omega, by omega⟩, _, _, rfl, rfl, ?_⟩
    refine ⟨_, rfl, _, rfl, _, _, rfl, rfl, .inl ⟨by decide, by decide⟩, _, rfl, _, _, rfl, rfl, .inl ⟨by omega, by omega⟩, ?_⟩
    exact ⟨sz (by decide : 2 ≤ 100000), fun r nr => q r _ (same_new nr _) upd_same⟩
abbrev s_passes : Stmt := top 9
theorem sc_passes : FnScope ["stroke", "least", "greatest", "x1", "y1", "x2", "y2", "wide", "tall", "in_x", "out_x", "in_y", "out_y"] ["stroke", "least", "greatest"] (defScope s_passes) := ⟨rfl, rfl, rfl, by decide +kernel, rfl, by decide +kernel, by decide +kernel⟩
theorem ok_passes (B : Blt mg) (c_moments : Cal P w K mg base 1 "moments" ["start", "end", "unit", "least", "greatest"] spMoments) (F : Fun K "passes" "passes" s_passes f fd) : FnOk P w K mg base CX0 2 f fd ["stroke", "least", "greatest"] spPasses := by
  refine F.ok sc_passes (fun vs H Q E h => ?_) (fun cdv A outer s H vs Q E hr h => ?_)
  · obtain ⟨ps, pl, pg, x1, y1, x2, y2, lx, ly, gx, gy, rfl, _⟩ := h
    rfl
  obtain ⟨ps, pl, pg, x1, y1, x2, y2, lx, ly, gx, gy, rfl, hst, hl, hg, q⟩ := h
  have bs := hst.2.1
  refine ⟨_, (pss_cons (ps_asg (pv 0) (pg_tup rfl (pgs_cons (pg_name (i := 3) sc_passes.nd rfl (Or.inl rfl)) (pgs_cons (pg_name (i := 4) sc_passes.nd rfl (Or.inl rfl)) (pgs_cons (pg_name (i := 5) sc_passes.nd rfl (Or.inl rfl)) (pgs_cons (pg_name (i := 6) sc_passes.nd rfl (Or.inl rfl)) pgs_nil))))))
    (pss_cons (ps_if (PW.pt (pw_or (pt_cmpR op_lt (pe_callB (call_max2 rfl) rfl B.max bt_max (pa_cons (pv 3) (pa_cons (pv 5) pa_nil))) (pe_ix ix_tup (pv 1) pe_int (fun _ _ => rfl)) (nomark _)) (pw_or1 (pt_cmpR op_lt (pe_ix ix_tup (pv 2) pe_int (fun _ _ => rfl)) (pe_callB (call_min2 rfl) rfl B.min bt_min (pa_cons (pv 3) (pa_cons (pv 5) pa_nil))) (nomark _)))))
    (pss_one (ps_ret pe_bl))
    pss_nil)
    (pss_cons (ps_if (PW.pt (pw_or (pt_cmpR op_lt (pe_callB (call_max2 rfl) rfl B.max bt_max (pa_cons (pv 4) (pa_cons (pv 6) pa_nil))) (pe_ix ix_tup (pv 1) pe_int (fun _ _ => rfl)) (nomark _)) (pw_or1 (pt_cmpR op_lt (pe_ix ix_tup (pv 2) pe_int (fun _ _ => rfl)) (pe_callB (call_min2 rfl) rfl B.min bt_min (pa_cons (pv 4) (pa_cons (pv 6) pa_nil))) (nomark _)))))
    (pss_one (ps_ret pe_bl))
    pss_nil)
    (pss_cons (ps_par (i := 7) (j := 8) (by rfl) sc_passes.nd rfl rfl (by decide) rfl rfl (pa_cons (pe_callB call_abs rfl B.abs bt_abs (pa_cons (pe_op op_sub (pv 5) (pv 3)) pa_nil)) (pa_cons (pe_callB call_abs rfl B.abs bt_abs (pa_cons (pe_op op_sub (pv 6) (pv 4)) pa_nil)) pa_nil)) (by rfl))
    (pss_cons (ps_if (PW.pt (pw_or (pt_cmpR op_eq (pv 7) pe_int (nomark _)) (pw_or1 (pt_cmpR op_eq (pv 8) pe_int (nomark _)))))
    (pss_one (ps_ret pe_bl))
    pss_nil)
    (pss_cons (ps_asg (pe_cal c_moments hr (pa_cons (pv 3) (pa_cons (pv 5) (pa_cons (pv 8) (pa_cons (pe_ix ix_tup (pv 1) pe_int (fun _ _ => rfl)) (pa_cons (pe_ix ix_tup (pv 2) pe_int (fun _ _ => rfl)) pa_nil)))))) (pg_tup rfl (pgs_cons (pg_name (i := 9) sc_passes.nd rfl (Or.inl rfl)) (pgs_cons (pg_name (i := 10) sc_passes.nd rfl (Or.inl rfl)) pgs_nil))))
    (pss_cons (ps_asg (pe_cal c_moments hr (pa_cons (pv 4) (pa_cons (pv 6) (pa_cons (pv 7) (pa_cons (pe_ix ix_tup (pv 1) pe_int (fun _ _ => rfl)) (pa_cons (pe_ix ix_tup (pv 2) pe_int (fun _ _ => rfl)) pa_nil)))))) (pg_tup rfl (pgs_cons (pg_name (i := 11) sc_passes.nd rfl (Or.inl rfl)) (pgs_cons (pg_name (i := 12) sc_passes.nd rfl (Or.inl rfl)) pgs_nil))))
    (pss_one (ps_ret (pe_cmpR op_le (pe_callB (call_max3Nu rfl) rfl B.max bt_max (pa_cons pe_int (pa_cons (pv 9) (pa_cons (pv 11) pa_nil)))) (pe_callB (call_min3Nu rfl) rfl B.min bt_min (pa_cons (pe_op op_mul (pe_op op_mul pe_int (pv 7)) (pv 8)) (pa_cons (pv 10) (pa_cons (pv 12) pa_nil)))) (nomark _))))))))))), ?_⟩
  unfold passL at q
  refine seq_with (fun σ' H' => H = H' ∧ σ' = [some (.ref ps), some (.ref pl), some (.ref pg), some (.int x1), some (.int y1), some (.int x2), some (.int y2), none, none, none, none, none, none]) (fun R hR => ⟨_, rfl, ps, _, rfl, SqT.of hst.1, rfl, _, _, rfl, _, _, rfl, _, _, rfl, _, _, rfl, rfl, hR _ _ ⟨rfl, rfl⟩⟩) ?_
  rintro _ _ ⟨rfl, rfl⟩
  refine ⟨_, rfl, _, rfl, _, _, rfl, _, rfl, pl, _, _, _, rfl, rfl, SqT.of hl, rfl, _, _, rfl, rfl, _, rfl, ?_⟩
  by_cases c1 : mx2 x1 x2 < lx
  · refine iteDT c1 ?_
    rw [if_pos (.inl c1)] at q
    exact q H (Same.refl H)
  refine iteDF c1 ?_
  refine ⟨_, rfl, pg, _, _, _, rfl, rfl, SqT.of hg, rfl, _, rfl, _, rfl, _, _, rfl, _, _, rfl, rfl, _, rfl, ?_⟩
  by_cases c2 : gx < mn2 x1 x2
  · refine iteDT c2 ?_
    rw [if_pos (.inr c2)] at q
    exact q H (Same.refl H)
  refine iteDF c2 ?_
  rw [if_neg (show ¬ (mx2 x1 x2 < lx ∨ gx < mn2 x1 x2) from fun z => z.elim c1 c2)] at q
  refine ⟨_, rfl, _, rfl, _, _, rfl, _, rfl, pl, _, _, _, rfl, rfl, SqT.of hl, rfl, _, _, rfl, rfl, _, rfl, ?_⟩
  by_cases c3 : mx2 y1 y2 < ly
  · refine iteDT c3 ?_
    rw [if_pos (.inl c3)] at q
    exact q H (Same.refl H)
  refine iteDF c3 ?_
  refine ⟨_, rfl, pg, _, _, _, rfl, rfl, SqT.of hg, rfl, _, rfl, _, rfl, _, _, rfl, _, _, rfl, rfl, _, rfl, ?_⟩
  by_cases c4 : gy < mn2 y1 y2
  · refine iteDT c4 ?_
    rw [if_pos (.inr c4)] at q
    exact q H (Same.refl H)
  refine iteDF c4 ?_
  rw [if_neg (show ¬ (mx2 y1 y2 < ly ∨ gy < mn2 y1 y2) from fun z => z.elim c3 c4)] at q
  have sx := aw_small (a := x1) (b := x2) (by omega) (by omega)
  have sy := aw_small (a := y1) (b := y2) (by omega) (by omega)
  dsimp only [tNext]
  refine seq_with (fun σ' H' => H = H' ∧ σ' = [some (.ref ps), some (.ref pl), some (.ref pg), some (.int x1), some (.int y1), some (.int x2), some (.int y2), some (.int (aw x1 x2)), some (.int (aw y1 y2)), none, none, none, none]) (fun R hR => ⟨_, rfl, _, rfl, _, _, rfl, rfl, _, rfl, _, rfl, _, rfl, _, _, rfl, rfl, _, rfl, _, _, rfl, hR _ _ ⟨rfl, rfl⟩⟩) ?_
  rintro _ _ ⟨rfl, rfl⟩
  refine ⟨_, rfl, rfl, _, rfl, ?_⟩
  by_cases c5 : aw x1 x2 = 0
  · refine iteDT (congrArg V.int c5) ?_
    rw [if_pos (.inl c5)] at q
    exact q H (Same.refl H)
  refine iteDF (fun z => c5 (V.int.inj z)) ?_
  refine ⟨_, rfl, rfl, _, rfl, ?_⟩
  by_cases c6 : aw y1 y2 = 0
  · refine iteDT (congrArg V.int c6) ?_
    rw [if_pos (.inr c6)] at q
    exact q H (Same.refl H)
  refine iteDF (fun z => c6 (V.int.inj z)) ?_
  rw [if_neg (show ¬ (aw x1 x2 = 0 ∨ aw y1 y2 = 0) from fun z => z.elim c5 c6)] at q
  dsimp only [tNext]
  refine seq_with (fun σ' H1 => Same H H1 ∧ σ' = [some (.ref ps), some (.ref pl), some (.ref pg), some (.int x1), some (.int y1), some (.int x2), some (.int y2), some (.int (aw x1 x2)), some (.int (aw y1 y2)), some (.int (inM x1 x2 (aw y1 y2) lx gx)), some (.int (outM x1 x2 (aw y1 y2) lx gx)), none, none]) (fun R hR => ?_) ?_
  · exact ⟨_, rfl, _, rfl, _, rfl, _, rfl, pl, _, _, _, rfl, rfl, SqT.of hl, rfl, _, rfl, pg, _, _, _, rfl, rfl, SqT.of hg, rfl, x1, x2, aw y1 y2, lx, gx, rfl, sy.1, by omega, fun r1 H1 s1 h1 => ⟨r1, _, rfl, SqT.of h1, rfl, _, _, rfl, _, _, rfl, rfl, hR _ _ ⟨s1, rfl⟩⟩⟩
  rintro _ H1 ⟨s1, rfl⟩
  refine seq_with (fun σ' H2 => Same H1 H2 ∧ σ' = [some (.ref ps), some (.ref pl), some (.ref pg), some (.int x1), some (.int y1), some (.int x2), some (.int y2), some (.int (aw x1 x2)), some (.int (aw y1 y2)), some (.int (inM x1 x2 (aw y1 y2) lx gx)), some (.int (outM x1 x2 (aw y1 y2) lx gx)), some (.int (inM y1 y2 (aw x1 x2) ly gy)), some (.int (outM y1 y2 (aw x1 x2) ly gy))]) (fun R hR => ?_) ?_
  · exact ⟨_, rfl, _, rfl, _, rfl, _, rfl, pl, _, _, _, rfl, rfl, SqT.of (s1 _ _ hl), rfl, _, rfl, pg, _, _, _, rfl, rfl, SqT.of (s1 _ _ hg), rfl, y1, y2, aw x1 x2, ly, gy, rfl, sx.1, by omega, fun r2 H2 s2 h2 => ⟨r2, _, rfl, SqT.of h2, rfl, _, _, rfl, _, _, rfl, rfl, hR _ _ ⟨s2, rfl⟩⟩⟩
  rintro _ H2 ⟨s2, rfl⟩
  refine ⟨_, rfl, _, rfl, _, _, _, _, rfl, nu_mx3 _ _ _, ?_⟩
  refine ⟨_, rfl, _, _, rfl, rfl, .inl ⟨by decide, by decide⟩, _, rfl, _, _, rfl, rfl, .inl ⟨by show -(2 ^ 64) < 4 * aw x1 x2; omega, by show 4 * aw x1 x2 < 2 ^ 64; omega⟩, _, rfl, _, rfl, _, _, _, _, rfl, nu_mn3 _ _ _, ?_⟩
  exact ⟨_, _, rfl, rfl, q _ (s1.trans s2)⟩
abbrev s_p_goes : Stmt := top 8
theorem sc_p_goes : FnScope ["stroke", "spot"] ["stroke", "spot"] (defScope s_p_goes) := ⟨rfl, rfl, rfl, by decide +kernel, rfl, by decide +kernel, by decide +kernel⟩
theorem ok_p_goes (c_passes : Cal P w K mg base 2 "passes" ["stroke", "least", "greatest"] spPasses) (F : Fun K "goes" "goes" s_p_goes f fd) : FnOk P w K mg base CX0 3 f fd ["stroke", "spot"] spGoes := by
  refine F.ok sc_p_goes (fun vs H Q E h => ?_) (fun cdv A outer s H vs Q E hr h => ?_)
  · obtain ⟨ps, pt, x1, y1, x2, y2, sx, sy, rfl, _⟩ := h
    rfl
  obtain ⟨ps, pt, x1, y1, x2, y2, sx, sy, rfl, hst, hpt, _, q⟩ := h
  refine ⟨_, (pss_one (ps_ret (pe_cal c_passes hr (pa_cons (pv 0) (pa_cons (pv 1) (pa_cons (pv 1) pa_nil)))))), ?_⟩
  refine ⟨_, rfl, _, rfl, _, rfl, ps, pt, pt, x1, y1, x2, y2, sx, sy, sx, sy, rfl, hst, hpt, hpt, fun H' s' => ?_⟩
  rw [passL_goes]
  exact q H' s'
end
end DM

namespace DM
/-! ### the squares of a stroke stand in one row -/
/-- q comes behind p on the way -/
def ahead (x1 y1 x2 y2 : Int) (p q : Int × Int) : Prop :=
  p ≠ q ∧ 0 ≤ (q.1 - p.1) * (x2 - x1) ∧ 0 ≤ (q.2 - p.2) * (y2 - y1) ∧ (x1 = x2 → q.1 = p.1) ∧ (y1 = y2 → q.2 = p.2)
theorem mul_nn {a b : Int} (hb : b ≠ 0) (h : 0 ≤ a * b) (h' : 0 ≤ (-a) * b) : a = 0 := by
  rw [Int.neg_mul] at h'
  exact (Int.mul_eq_zero.mp (by omega)).resolve_right hb
theorem ahead_asymm {x1 y1 x2 y2 : Int} {p q : Int × Int} (h : ahead x1 y1 x2 y2 p q) (h' : ahead x1 y1 x2 y2 q p) : False := by
  obtain ⟨ne, a1, a2, a3, a4⟩ := h
  obtain ⟨_, b1, b2, _, _⟩ := h'
  apply ne
  have e1 : q.1 - p.1 = 0 := by
    by_cases c : x1 = x2
    · have := a3 c; omega
    · exact mul_nn (b := x2 - x1) (by omega) a1 (by rw [show -(q.1 - p.1) = p.1 - q.1 by omega]; exact b1)
  have e2 : q.2 - p.2 = 0 := by
    by_cases c : y1 = y2
    · have := a4 c; omega
    · exact mul_nn (b := y2 - y1) (by omega) a2 (by rw [show -(q.2 - p.2) = p.2 - q.2 by omega]; exact b2)
  exact Prod.ext (by omega) (by omega)
theorem ahead_trans {x1 y1 x2 y2 : Int} {p q r : Int × Int} (h : ahead x1 y1 x2 y2 p q) (h' : ahead x1 y1 x2 y2 q r) : ahead x1 y1 x2 y2 p r := by
  refine ⟨fun e => ?_, ?_, ?_, fun c => (h'.2.2.2.1 c).trans (h.2.2.2.1 c), fun c => (h'.2.2.2.2 c).trans (h.2.2.2.2 c)⟩
  · subst e
    exact ahead_asymm h h'
  · have a := h.2.1
    have b := h'.2.1
    rw [show r.1 - p.1 = (q.1 - p.1) + (r.1 - q.1) by omega, Int.add_mul]
    omega
  · have a := h.2.2.1
    have b := h'.2.2.1
    rw [show r.2 - p.2 = (q.2 - p.2) + (r.2 - q.2) by omega, Int.add_mul]
    omega
theorem ahead_rev {x1 y1 x2 y2 : Int} {p q : Int × Int} : ahead x2 y2 x1 y1 p q ↔ ahead x1 y1 x2 y2 q p := by
  unfold ahead
  rw [show (q.1 - p.1) * (x1 - x2) = (p.1 - q.1) * (x2 - x1) by rw [← Int.neg_mul_neg]; congr 1 <;> omega, show (q.2 - p.2) * (y1 - y2) = (p.2 - q.2) * (y2 - y1) by rw [← Int.neg_mul_neg]; congr 1 <;> omega]
  exact ⟨fun ⟨a, b, c, d, e⟩ => ⟨Ne.symm a, b, c, fun z => (d z.symm).symm, fun z => (e z.symm).symm⟩, fun ⟨a, b, c, d, e⟩ => ⟨Ne.symm a, b, c, fun z => (d z.symm).symm, fun z => (e z.symm).symm⟩⟩
theorem ahead_move {x1 y1 x2 y2 a b : Int} {p q : Int × Int} : ahead (x1 + a) (y1 + b) (x2 + a) (y2 + b) (p.1 + a, p.2 + b) (q.1 + a, q.2 + b) ↔ ahead x1 y1 x2 y2 p q := by
  unfold ahead
  dsimp only
  rw [show q.1 + a - (p.1 + a) = q.1 - p.1 by omega, show q.2 + b - (p.2 + b) = q.2 - p.2 by omega, show x2 + a - (x1 + a) = x2 - x1 by omega, show y2 + b - (y1 + b) = y2 - y1 by omega]
  have e : ((p.1 + a, p.2 + b) ≠ (q.1 + a, q.2 + b)) ↔ p ≠ q := by
    refine ⟨fun h z => h (by rw [z]), fun h z => h ?_⟩
    have z1 := congrArg Prod.fst z
    have z2 := congrArg Prod.snd z
    exact Prod.ext (by dsimp only at z1; omega) (by dsimp only at z2; omega)
  rw [e]
  constructor
  · intro ⟨h1, h2, h3, h4, h5⟩
    exact ⟨h1, h2, h3, fun z => by have := h4 (by omega); omega, fun z => by have := h5 (by omega); omega⟩
  · intro ⟨h1, h2, h3, h4, h5⟩
    exact ⟨h1, h2, h3, fun z => by have := h4 (by omega); omega, fun z => by have := h5 (by omega); omega⟩
theorem ahead_flip {x1 y1 x2 y2 : Int} {p q : Int × Int} : ahead y1 x1 y2 x2 (p.2, p.1) (q.2, q.1) ↔ ahead x1 y1 x2 y2 p q := by
  unfold ahead
  dsimp only
  have e : ((p.2, p.1) ≠ (q.2, q.1)) ↔ p ≠ q := by
    refine ⟨fun h z => h (by rw [z]), fun h z => h ?_⟩
    exact Prod.ext (congrArg Prod.snd z) (congrArg Prod.fst z)
  rw [e]
  exact ⟨fun ⟨a, b, c, d, e⟩ => ⟨a, c, b, e, d⟩, fun ⟨a, b, c, d, e⟩ => ⟨a, c, b, e, d⟩⟩
/-- how far along -/
def along (x1 y1 x2 y2 : Int) (p : Int × Int) : Int := p.1 * (x2 - x1) + p.2 * (y2 - y1)
theorem ahead_along {x1 y1 x2 y2 : Int} {p q : Int × Int} (h : ahead x1 y1 x2 y2 p q) : along x1 y1 x2 y2 p < along x1 y1 x2 y2 q := by
  obtain ⟨ne, a1, a2, a3, a4⟩ := h
  unfold along
  have e1 := Int.sub_mul q.1 p.1 (x2 - x1)
  have e2 := Int.sub_mul q.2 p.2 (y2 - y1)
  rcases Int.lt_or_eq_of_le a1 with z1 | z1
  · omega
  rcases Int.lt_or_eq_of_le a2 with z2 | z2
  · omega
  exfalso
  apply ne
  have f1 : q.1 - p.1 = 0 := by
    by_cases c : x1 = x2
    · have := a3 c; omega
    · exact (Int.mul_eq_zero.mp z1.symm).resolve_right (by omega)
  have f2 : q.2 - p.2 = 0 := by
    by_cases c : y1 = y2
    · have := a4 c; omega
    · exact (Int.mul_eq_zero.mp z2.symm).resolve_right (by omega)
  exact Prod.ext (by omega) (by omega)
/-! ### at a time there is one square -/
theorem half_one {V m s s' : Int} (hm : 0 < m) (h1 : (2 * s - 1) * m ≤ V) (h2 : V < (2 * s + 1) * m) (h1' : (2 * s' - 1) * m ≤ V) (h2' : V < (2 * s' + 1) * m) : s = s' := by
  have a := Int.lt_of_mul_lt_mul_right (Int.lt_of_le_of_lt h1 h2') (by omega)
  have b := Int.lt_of_mul_lt_mul_right (Int.lt_of_le_of_lt h1' h2) (by omega)
  omega
theorem ins_one {x1 y1 x2 y2 n m : Int} {p q : Int × Int} (hm : 0 < m) (h : Ins x1 y1 x2 y2 p.1 p.2 n m) (h' : Ins x1 y1 x2 y2 q.1 q.2 n m) : p = q :=
  Prod.ext (half_one hm h.1 h.2.1 h'.1 h'.2.1) (half_one hm h.2.2.1 h.2.2.2 h'.2.2.1 h'.2.2.2)
theorem half_some (V : Int) {m : Int} (hm : 0 < m) : ∃ s : Int, (2 * s - 1) * m ≤ V ∧ V < (2 * s + 1) * m := by
  refine ⟨(V + m) / (2 * m), ?_⟩
  have a := Int.mul_ediv_self_le (x := V + m) (k := 2 * m) (by omega)
  have b := Int.lt_mul_ediv_self_add (x := V + m) (k := 2 * m) (by omega)
  generalize (V + m) / (2 * m) = s at *
  rw [Int.sub_mul, Int.add_mul, Int.one_mul, show 2 * s * m = 2 * m * s by rw [Int.mul_assoc, Int.mul_comm s, Int.mul_assoc]]
  omega
theorem half_mono {b u n m n' m' s s' : Int} (hm : 0 < m) (hm' : 0 < m') (h1 : (2 * s - 1) * m ≤ 2 * b * m + 2 * u * n) (h2' : 2 * b * m' + 2 * u * n' < (2 * s' + 1) * m') (hn : u * n * m' ≤ u * n' * m) : s ≤ s' := by
  have a1 := Int.mul_le_mul_of_nonneg_right h1 (show 0 ≤ m' by omega)
  have a2 := Int.mul_lt_mul_of_pos_right h2' hm
  have e1 : (2 * b * m + 2 * u * n) * m' = 2 * b * m * m' + 2 * (u * n * m') := by rw [Int.add_mul, Int.mul_assoc 2 u, Int.mul_assoc 2 (u * n)]
  have e2 : (2 * b * m' + 2 * u * n') * m = 2 * b * m * m' + 2 * (u * n' * m) := by rw [Int.add_mul, Int.mul_assoc 2 u, Int.mul_assoc 2 (u * n'), Int.mul_right_comm (2 * b)]
  have e3 : (2 * s' + 1) * m' * m = (2 * s' + 1) * (m * m') := by rw [Int.mul_assoc, Int.mul_comm m' m]
  have e4 : (2 * s - 1) * m * m' = (2 * s - 1) * (m * m') := Int.mul_assoc ..
  rw [e1, e4] at a1
  rw [e2, e3] at a2
  have := Int.lt_of_mul_lt_mul_right (show (2 * s - 1) * (m * m') < (2 * s' + 1) * (m * m') by omega) (Int.le_of_lt (Int.mul_pos hm hm'))
  omega
theorem half_way {b u n m n' m' s s' : Int} (hm : 0 < m) (hm' : 0 < m') (h1 : (2 * s - 1) * m ≤ 2 * b * m + 2 * u * n) (h2 : 2 * b * m + 2 * u * n < (2 * s + 1) * m) (h1' : (2 * s' - 1) * m' ≤ 2 * b * m' + 2 * u * n') (h2' : 2 * b * m' + 2 * u * n' < (2 * s' + 1) * m') (hn : n * m' ≤ n' * m) : 0 ≤ (s' - s) * u ∧ (u = 0 → s' = s) := by
  rcases Int.lt_trichotomy u 0 with c | c | c
  · have k : u * (n' * m) ≤ u * (n * m') := by
      have z := Int.mul_le_mul_of_nonneg_left hn (show 0 ≤ -u by omega)
      rw [Int.neg_mul, Int.neg_mul] at z
      omega
    have := half_mono hm' hm h1' h2 (by rw [Int.mul_assoc, Int.mul_assoc]; exact k)
    exact ⟨Int.mul_nonneg_of_nonpos_of_nonpos (by omega) (by omega), fun z => absurd z (by omega)⟩
  · subst c
    have f := half_mono hm hm' h1 h2' (by rw [Int.zero_mul, Int.zero_mul, Int.zero_mul, Int.zero_mul]; exact Int.le_refl _)
    have g := half_mono hm' hm h1' h2 (by rw [Int.zero_mul, Int.zero_mul, Int.zero_mul, Int.zero_mul]; exact Int.le_refl _)
    have e : s' = s := by omega
    subst e
    exact ⟨by rw [Int.mul_zero]; exact Int.le_refl _, fun _ => rfl⟩
  · have k := Int.mul_le_mul_of_nonneg_left hn (show 0 ≤ u by omega)
    have := half_mono hm hm' h1 h2' (by rw [Int.mul_assoc, Int.mul_assoc]; exact k)
    exact ⟨Int.mul_nonneg (by omega) (by omega), fun z => absurd z (by omega)⟩
theorem ins_way {x1 y1 x2 y2 n m n' m' : Int} {p q : Int × Int} (hm : 0 < m) (hm' : 0 < m') (h : Ins x1 y1 x2 y2 p.1 p.2 n m) (h' : Ins x1 y1 x2 y2 q.1 q.2 n' m') (hn : n * m' ≤ n' * m) : p = q ∨ ahead x1 y1 x2 y2 p q := by
  by_cases c : p = q
  · exact .inl c
  · have a := half_way hm hm' h.1 h.2.1 h'.1 h'.2.1 hn
    have b := half_way hm hm' h.2.2.1 h.2.2.2 h'.2.2.1 h'.2.2.2 hn
    exact .inr ⟨c, a.1, b.1, fun z => a.2 (by omega), fun z => b.2 (by omega)⟩
theorem thr_chain {x1 y1 x2 y2 : Int} {p q : Int × Int} (h : Thr x1 y1 x2 y2 p.1 p.2) (h' : Thr x1 y1 x2 y2 q.1 q.2) : p = q ∨ ahead x1 y1 x2 y2 p q ∨ ahead x1 y1 x2 y2 q p := by
  obtain ⟨n, m, hm, _, _, i⟩ := h
  obtain ⟨n', m', hm', _, _, i'⟩ := h'
  rcases Int.le_total (n * m') (n' * m) with z | z
  · rcases ins_way hm hm' i i' z with y | y
    · exact .inl y
    · exact .inr (.inl y)
  · rcases ins_way hm' hm i' i z with y | y
    · exact .inl y.symm
    · exact .inr (.inr y)
theorem thr_first (x1 y1 x2 y2 : Int) : Thr x1 y1 x2 y2 x1 y1 := ⟨0, 1, by decide, by decide, by decide, by unfold Ins; omega⟩
theorem thr_last (x1 y1 x2 y2 : Int) : Thr x1 y1 x2 y2 x2 y2 := ⟨1, 1, by decide, by decide, by decide, by unfold Ins; omega⟩
theorem thr_from {x1 y1 x2 y2 : Int} {p : Int × Int} (h : Thr x1 y1 x2 y2 p.1 p.2) : (x1, y1) = p ∨ ahead x1 y1 x2 y2 (x1, y1) p := by
  obtain ⟨n, m, hm, h0, _, i⟩ := h
  exact ins_way (p := (x1, y1)) (n := 0) (m := 1) (by decide) hm (by unfold Ins; omega) i (by omega)
theorem thr_to {x1 y1 x2 y2 : Int} {p : Int × Int} (h : Thr x1 y1 x2 y2 p.1 p.2) : p = (x2, y2) ∨ ahead x1 y1 x2 y2 p (x2, y2) := by
  obtain ⟨n, m, hm, _, h1, i⟩ := h
  exact ins_way (q := (x2, y2)) (n' := 1) (m' := 1) hm (by decide) i (by unfold Ins; omega) (by omega)
theorem thr_flip {x1 y1 x2 y2 sx sy : Int} (h : Thr x1 y1 x2 y2 sx sy) : Thr y1 x1 y2 x2 sy sx := by
  obtain ⟨n, m, hm, h0, h1, a, b, c, d⟩ := h
  exact ⟨n, m, hm, h0, h1, c, d, a, b⟩
theorem thr_move {x1 y1 x2 y2 sx sy : Int} (a b : Int) (h : Thr x1 y1 x2 y2 sx sy) : Thr (x1 + a) (y1 + b) (x2 + a) (y2 + b) (sx + a) (sy + b) := by
  obtain ⟨n, m, hm, h0, h1, i⟩ := h
  refine ⟨n, m, hm, h0, h1, ?_⟩
  unfold Ins at *
  have key : ∀ x y s a : Int, (2 * (s + a) - 1) * m = (2 * s - 1) * m + 2 * a * m ∧ 2 * (x + a) * m + 2 * (y + a - (x + a)) * n = 2 * x * m + 2 * (y - x) * n + 2 * a * m ∧ (2 * (s + a) + 1) * m = (2 * s + 1) * m + 2 * a * m := fun x y s a => by
    rw [show y + a - (x + a) = y - x by omega, show 2 * (s + a) - 1 = (2 * s - 1) + 2 * a by omega, show 2 * (x + a) = 2 * x + 2 * a by omega, show 2 * (s + a) + 1 = (2 * s + 1) + 2 * a by omega, Int.add_mul, Int.add_mul, Int.add_mul]
    omega
  have k1 := key x1 x2 sx a
  have k2 := key y1 y2 sy b
  omega
/-- a column between is gone through between -/
theorem col_up {x1 y1 x2 y2 n m n' m' c : Int} {p q : Int × Int} (hm : 0 < m) (hm' : 0 < m') (h0 : 0 ≤ n) (h1 : n' ≤ m') (i : Ins x1 y1 x2 y2 p.1 p.2 n m) (i' : Ins x1 y1 x2 y2 q.1 q.2 n' m') (hu : x1 < x2) (hp : p.1 < c) (hq : c < q.1) : ∃ r : Int × Int, r.1 = c ∧ Thr x1 y1 x2 y2 r.1 r.2 ∧ ahead x1 y1 x2 y2 p r ∧ ahead x1 y1 x2 y2 r q := by
  obtain ⟨r2, b1, b2⟩ := half_some (2 * y1 * (x2 - x1) + 2 * (y2 - y1) * (c - x1)) (m := x2 - x1) (by omega)
  have ex : 2 * x1 * (x2 - x1) + 2 * (x2 - x1) * (c - x1) = 2 * c * (x2 - x1) := by
    rw [Int.mul_assoc 2 (x2 - x1), Int.mul_comm (x2 - x1) (c - x1), Int.mul_assoc, Int.mul_assoc, ← Int.mul_add, ← Int.add_mul]
    rw [show x1 + (c - x1) = c by omega]
  have ir : Ins x1 y1 x2 y2 c r2 (c - x1) (x2 - x1) := by
    refine ⟨?_, ?_, b1, b2⟩
    · rw [ex]
      exact Int.mul_le_mul_of_nonneg_right (by omega) (by omega)
    · rw [ex]
      exact Int.mul_lt_mul_of_pos_right (by omega) (by omega)
  have t1 : n * (x2 - x1) ≤ (c - x1) * m := by
    have a := i.2.1
    have b := Int.mul_le_mul_of_nonneg_right (show 2 * p.1 + 1 ≤ 2 * c by omega) (show 0 ≤ m by omega)
    rw [Int.sub_mul, Int.mul_comm n]
    have e : 2 * (x2 - x1) * n = 2 * ((x2 - x1) * n) := Int.mul_assoc ..
    have e2 : 2 * x1 * m = 2 * (x1 * m) := Int.mul_assoc ..
    have e3 : 2 * c * m = 2 * (c * m) := Int.mul_assoc ..
    omega
  have t2 : (c - x1) * m' ≤ n' * (x2 - x1) := by
    have a := i'.1
    have b := Int.mul_le_mul_of_nonneg_right (show 2 * c ≤ 2 * q.1 - 1 by omega) (show 0 ≤ m' by omega)
    rw [Int.sub_mul, Int.mul_comm n']
    have e : 2 * (x2 - x1) * n' = 2 * ((x2 - x1) * n') := Int.mul_assoc ..
    have e2 : 2 * x1 * m' = 2 * (x1 * m') := Int.mul_assoc ..
    have e3 : 2 * c * m' = 2 * (c * m') := Int.mul_assoc ..
    omega
  have c0 : 0 ≤ c - x1 := by
    have k := Int.mul_nonneg h0 (show 0 ≤ x2 - x1 by omega)
    rcases Int.lt_or_le (c - x1) 0 with z | z
    · have := Int.mul_neg_of_neg_of_pos z hm
      omega
    · exact z
  have c1 : c - x1 ≤ x2 - x1 := by
    have k := Int.mul_le_mul_of_nonneg_right h1 (show 0 ≤ x2 - x1 by omega)
    rw [Int.mul_comm m'] at k
    exact Int.le_of_mul_le_mul_right (Int.le_trans t2 k) hm'
  have w1 := ins_way (q := (c, r2)) hm (show 0 < x2 - x1 by omega) i ir t1
  have w2 := ins_way (p := (c, r2)) (show 0 < x2 - x1 by omega) hm' ir i' t2
  refine ⟨(c, r2), rfl, ⟨c - x1, x2 - x1, by omega, c0, c1, ir⟩, w1.resolve_left (fun z => ?_), w2.resolve_left (fun z => ?_)⟩
  · rw [z] at hp; exact absurd hp (Int.lt_irrefl _)
  · rw [← z] at hq; exact absurd hq (Int.lt_irrefl _)
theorem col_down {x1 y1 x2 y2 n m n' m' c : Int} {p q : Int × Int} (hm : 0 < m) (hm' : 0 < m') (h0 : 0 ≤ n) (h1 : n' ≤ m') (i : Ins x1 y1 x2 y2 p.1 p.2 n m) (i' : Ins x1 y1 x2 y2 q.1 q.2 n' m') (hu : x2 < x1) (hp : c < p.1) (hq : q.1 < c) : ∃ r : Int × Int, r.1 = c ∧ Thr x1 y1 x2 y2 r.1 r.2 ∧ ahead x1 y1 x2 y2 p r ∧ ahead x1 y1 x2 y2 r q := by
  obtain ⟨r2, b1, b2⟩ := half_some (2 * y1 * (x1 - x2) + 2 * (y2 - y1) * (x1 - c)) (m := x1 - x2) (by omega)
  have ex : 2 * x1 * (x1 - x2) + 2 * (x2 - x1) * (x1 - c) = 2 * c * (x1 - x2) := by
    rw [show 2 * (x2 - x1) * (x1 - c) = 2 * (c - x1) * (x1 - x2) by rw [Int.mul_assoc, Int.mul_assoc, show (c - x1) * (x1 - x2) = (x2 - x1) * (x1 - c) by rw [← Int.neg_mul_neg, Int.mul_comm]; congr 1 <;> omega], ← Int.add_mul]
    congr 1
    omega
  have ir : Ins x1 y1 x2 y2 c r2 (x1 - c) (x1 - x2) := by
    refine ⟨?_, ?_, b1, b2⟩
    · rw [ex]
      exact Int.mul_le_mul_of_nonneg_right (by omega) (by omega)
    · rw [ex]
      exact Int.mul_lt_mul_of_pos_right (by omega) (by omega)
  have t1 : n * (x1 - x2) ≤ (x1 - c) * m := by
    have a := i.1
    have b := Int.mul_le_mul_of_nonneg_right (show 2 * c ≤ 2 * p.1 - 1 by omega) (show 0 ≤ m by omega)
    rw [Int.sub_mul, Int.mul_comm n]
    have e : 2 * (x2 - x1) * n = - (2 * ((x1 - x2) * n)) := by rw [Int.mul_assoc, ← Int.mul_neg, ← Int.neg_mul]; congr 2; omega
    have e2 : 2 * x1 * m = 2 * (x1 * m) := Int.mul_assoc ..
    have e3 : 2 * c * m = 2 * (c * m) := Int.mul_assoc ..
    omega
  have t2 : (x1 - c) * m' ≤ n' * (x1 - x2) := by
    have a := i'.2.1
    have b := Int.mul_le_mul_of_nonneg_right (show 2 * q.1 + 1 ≤ 2 * c by omega) (show 0 ≤ m' by omega)
    rw [Int.sub_mul, Int.mul_comm n']
    have e : 2 * (x2 - x1) * n' = - (2 * ((x1 - x2) * n')) := by rw [Int.mul_assoc, ← Int.mul_neg, ← Int.neg_mul]; congr 2; omega
    have e2 : 2 * x1 * m' = 2 * (x1 * m') := Int.mul_assoc ..
    have e3 : 2 * c * m' = 2 * (c * m') := Int.mul_assoc ..
    omega
  have c0 : 0 ≤ x1 - c := by
    have k := Int.mul_nonneg h0 (show 0 ≤ x1 - x2 by omega)
    rcases Int.lt_or_le (x1 - c) 0 with z | z
    · have := Int.mul_neg_of_neg_of_pos z hm
      omega
    · exact z
  have c1 : x1 - c ≤ x1 - x2 := by
    have k := Int.mul_le_mul_of_nonneg_right h1 (show 0 ≤ x1 - x2 by omega)
    rw [Int.mul_comm m'] at k
    exact Int.le_of_mul_le_mul_right (Int.le_trans t2 k) hm'
  have w1 := ins_way (q := (c, r2)) hm (show 0 < x1 - x2 by omega) i ir t1
  have w2 := ins_way (p := (c, r2)) (show 0 < x1 - x2 by omega) hm' ir i' t2
  refine ⟨(c, r2), rfl, ⟨x1 - c, x1 - x2, by omega, c0, c1, ir⟩, w1.resolve_left (fun z => ?_), w2.resolve_left (fun z => ?_)⟩
  · rw [z] at hp; exact absurd hp (Int.lt_irrefl _)
  · rw [← z] at hq; exact absurd hq (Int.lt_irrefl _)
/-- two squares with none between are one step apart -/
theorem next_x {x1 y1 x2 y2 : Int} {p q : Int × Int} (h : Thr x1 y1 x2 y2 p.1 p.2) (h' : Thr x1 y1 x2 y2 q.1 q.2) (a : ahead x1 y1 x2 y2 p q) (none : ∀ r : Int × Int, Thr x1 y1 x2 y2 r.1 r.2 → ahead x1 y1 x2 y2 p r → ahead x1 y1 x2 y2 r q → False) : -1 ≤ q.1 - p.1 ∧ q.1 - p.1 ≤ 1 := by
  obtain ⟨n, m, hm, h0, h1, i⟩ := h
  obtain ⟨n', m', hm', h0', h1', i'⟩ := h'
  have a1 := a.2.1
  have a2 := a.2.2.2.1
  refine Decidable.byContradiction fun c => ?_
  rcases Int.lt_trichotomy x1 x2 with z | z | z
  · have up : p.1 + 1 < q.1 := by
      rcases Int.lt_or_le (q.1 - p.1) 0 with y | y
      · have := Int.mul_neg_of_neg_of_pos y (show 0 < x2 - x1 by omega)
        omega
      · omega
    obtain ⟨r, _, t, r1, r2⟩ := col_up hm hm' h0 h1' i i' z (c := p.1 + 1) (by omega) up
    exact none r t r1 r2
  · have := a2 z
    omega
  · have dn : q.1 < p.1 - 1 := by
      rcases Int.lt_or_le 0 (q.1 - p.1) with y | y
      · have := Int.mul_neg_of_pos_of_neg y (show x2 - x1 < 0 by omega)
        omega
      · omega
    obtain ⟨r, _, t, r1, r2⟩ := col_down hm hm' h0 h1' i i' z (c := p.1 - 1) (by omega) dn
    exact none r t r1 r2
theorem next_y {x1 y1 x2 y2 : Int} {p q : Int × Int} (h : Thr x1 y1 x2 y2 p.1 p.2) (h' : Thr x1 y1 x2 y2 q.1 q.2) (a : ahead x1 y1 x2 y2 p q) (none : ∀ r : Int × Int, Thr x1 y1 x2 y2 r.1 r.2 → ahead x1 y1 x2 y2 p r → ahead x1 y1 x2 y2 r q → False) : -1 ≤ q.2 - p.2 ∧ q.2 - p.2 ≤ 1 :=
  next_x (x1 := y1) (y1 := x1) (x2 := y2) (y2 := x2) (p := (p.2, p.1)) (q := (q.2, q.1)) (thr_flip h) (thr_flip h') (ahead_flip.mpr a) fun r t r1 r2 => none (r.2, r.1) (thr_flip t) (ahead_flip.mp (by exact r1)) (ahead_flip.mp (by exact r2))
end DM

namespace DM
theorem sorted_one {α : Type} {R : α → α → Prop} (asy : ∀ a b, R a b → R b a → False) : ∀ {L L' : List α}, L.Pairwise R → L'.Pairwise R → (∀ p, p ∈ L ↔ p ∈ L') → L = L'
  | [], [], _, _, _ => rfl
  | [], b :: _, _, _, h => absurd ((h b).mpr List.mem_cons_self) List.not_mem_nil
  | a :: _, [], _, _, h => absurd ((h a).mp List.mem_cons_self) List.not_mem_nil
  | a :: t, b :: t', h1, h2, h => by
    obtain ⟨a1, a2⟩ := List.pairwise_cons.mp h1
    obtain ⟨b1, b2⟩ := List.pairwise_cons.mp h2
    have e : a = b := by
      rcases List.mem_cons.mp ((h a).mp List.mem_cons_self) with z | z
      · exact z
      rcases List.mem_cons.mp ((h b).mpr List.mem_cons_self) with y | y
      · exact y.symm
      exact (asy _ _ (a1 _ y) (b1 _ z)).elim
    subst e
    congr 1
    refine sorted_one asy a2 b2 fun p => ⟨fun z => ?_, fun z => ?_⟩
    · rcases List.mem_cons.mp ((h p).mp (List.mem_cons_of_mem _ z)) with y | y
      · subst y
        exact (asy _ _ (a1 _ z) (a1 _ z)).elim
      · exact y
    · rcases List.mem_cons.mp ((h p).mpr (List.mem_cons_of_mem _ z)) with y | y
      · subst y
        exact (asy _ _ (b1 _ z) (b1 _ z)).elim
      · exact y
/-- those of S that the stroke goes through, in their order along it -/
def RowOf (x1 y1 x2 y2 : Int) (S : Int × Int → Prop) (L : List (Int × Int)) : Prop := (∀ p, p ∈ L ↔ S p ∧ Thr x1 y1 x2 y2 p.1 p.2) ∧ L.Pairwise (ahead x1 y1 x2 y2)
def Row (x1 y1 x2 y2 : Int) (L : List (Int × Int)) : Prop := (∀ p, p ∈ L ↔ Thr x1 y1 x2 y2 p.1 p.2) ∧ L.Pairwise (ahead x1 y1 x2 y2)
theorem Row.of {x1 y1 x2 y2 : Int} {L : List (Int × Int)} : Row x1 y1 x2 y2 L ↔ RowOf x1 y1 x2 y2 (fun _ => True) L := by
  unfold Row RowOf
  simp only [true_and]
section
variable {x1 y1 x2 y2 : Int} {S T : Int × Int → Prop} {L L' : List (Int × Int)}
theorem RowOf.one (h : RowOf x1 y1 x2 y2 S L) (h' : RowOf x1 y1 x2 y2 T L') (e : ∀ p, S p ↔ T p) : L = L' :=
  sorted_one (fun _ _ => ahead_asymm) h.2 h'.2 fun p => by rw [h.1, h'.1, e]
theorem Row.one (h : Row x1 y1 x2 y2 L) (h' : Row x1 y1 x2 y2 L') : L = L' := sorted_one (fun _ _ => ahead_asymm) h.2 h'.2 fun p => by rw [h.1, h'.1]
theorem RowOf.nodup (h : RowOf x1 y1 x2 y2 S L) : L.Nodup := h.2.imp fun a => a.1
theorem RowOf.filter (h : RowOf x1 y1 x2 y2 S L) (f : Int × Int → Bool) (hf : ∀ p, f p = true ↔ T p) : RowOf x1 y1 x2 y2 (fun p => S p ∧ T p) (L.filter f) := by
  refine ⟨fun p => ?_, h.2.filter _⟩
  rw [List.mem_filter, h.1, hf]
  exact ⟨fun ⟨⟨a, b⟩, c⟩ => ⟨⟨a, c⟩, b⟩, fun ⟨⟨a, c⟩, b⟩ => ⟨⟨a, b⟩, c⟩⟩
theorem thr_rev {sx sy : Int} (h : Thr x1 y1 x2 y2 sx sy) : Thr x2 y2 x1 y1 sx sy := by
  obtain ⟨n, m, hm, h0, h1, i⟩ := h
  refine ⟨m - n, m, hm, by omega, by omega, ?_⟩
  unfold Ins at *
  have key : ∀ a b : Int, 2 * b * m + 2 * (a - b) * (m - n) = 2 * a * m + 2 * (b - a) * n := fun a b => by
    simp only [Int.mul_sub, Int.sub_mul, Int.mul_assoc]
    omega
  rw [key x1 x2, key y1 y2]
  exact i
theorem RowOf.rev (h : RowOf x1 y1 x2 y2 S L) : RowOf x2 y2 x1 y1 S L.reverse := by
  refine ⟨fun p => ?_, ?_⟩
  · rw [List.mem_reverse, h.1]
    exact ⟨fun ⟨a, b⟩ => ⟨a, thr_rev b⟩, fun ⟨a, b⟩ => ⟨a, thr_rev b⟩⟩
  · rw [List.pairwise_reverse]
    exact h.2.imp fun a => ahead_rev.mpr a
theorem RowOf.move (h : RowOf x1 y1 x2 y2 S L) (a b : Int) : RowOf (x1 + a) (y1 + b) (x2 + a) (y2 + b) (fun p => S (p.1 - a, p.2 - b)) (L.map fun p => (p.1 + a, p.2 + b)) := by
  refine ⟨fun p => ?_, ?_⟩
  · rw [List.mem_map]
    constructor
    · rintro ⟨q, hq, rfl⟩
      obtain ⟨u, v⟩ := (h.1 q).mp hq
      refine ⟨?_, thr_move a b v⟩
      dsimp only
      rw [show q.1 + a - a = q.1 by omega, show q.2 + b - b = q.2 by omega]
      exact u
    · rintro ⟨u, v⟩
      refine ⟨(p.1 - a, p.2 - b), (h.1 _).mpr ⟨u, ?_⟩, Prod.ext (by dsimp only; omega) (by dsimp only; omega)⟩
      have w := thr_move (-a) (-b) v
      rw [show x1 + a + -a = x1 by omega, show y1 + b + -b = y1 by omega, show x2 + a + -a = x2 by omega, show y2 + b + -b = y2 by omega] at w
      exact w
  · rw [List.pairwise_map]
    exact h.2.imp fun z => ahead_move.mpr z
theorem RowOf.flip (h : RowOf x1 y1 x2 y2 S L) : RowOf y1 x1 y2 x2 (fun p => S (p.2, p.1)) (L.map fun p => (p.2, p.1)) := by
  refine ⟨fun p => ?_, ?_⟩
  · rw [List.mem_map]
    constructor
    · rintro ⟨q, hq, rfl⟩
      obtain ⟨u, v⟩ := (h.1 q).mp hq
      exact ⟨u, thr_flip v⟩
    · rintro ⟨u, v⟩
      exact ⟨(p.2, p.1), (h.1 _).mpr ⟨u, thr_flip v⟩, rfl⟩
  · rw [List.pairwise_map]
    exact h.2.imp fun z => ahead_flip.mpr z
theorem RowOf.first (h : RowOf x1 y1 x2 y2 S L) (hS : S (x1, y1)) : ∃ t, L = (x1, y1) :: t := by
  have m := (h.1 (x1, y1)).mpr ⟨hS, thr_first ..⟩
  cases L with
  | nil => cases m
  | cons a t =>
    rcases List.mem_cons.mp m with z | z
    · exact ⟨t, by rw [z]⟩
    · have r := (List.pairwise_cons.mp h.2).1 _ z
      rcases thr_from ((h.1 a).mp List.mem_cons_self).2 with y | y
      · exact ⟨t, by rw [y]⟩
      · exact (ahead_asymm r y).elim
theorem RowOf.last (h : RowOf x1 y1 x2 y2 S L) (hS : S (x2, y2)) : ∃ t, L = t ++ [(x2, y2)] := by
  obtain ⟨t, e⟩ := h.rev.first hS
  refine ⟨t.reverse, ?_⟩
  rw [← List.reverse_reverse L, e, List.reverse_cons]
theorem Row.rev (h : Row x1 y1 x2 y2 L) : Row x2 y2 x1 y1 L.reverse := Row.of.mpr (Row.of.mp h).rev
theorem Row.move (h : Row x1 y1 x2 y2 L) (a b : Int) : Row (x1 + a) (y1 + b) (x2 + a) (y2 + b) (L.map fun p => (p.1 + a, p.2 + b)) := Row.of.mpr ((Row.of.mp h).move a b)
theorem Row.flip (h : Row x1 y1 x2 y2 L) : Row y1 x1 y2 x2 (L.map fun p => (p.2, p.1)) := Row.of.mpr (Row.of.mp h).flip
theorem Row.first (h : Row x1 y1 x2 y2 L) : ∃ t, L = (x1, y1) :: t := (Row.of.mp h).first trivial
theorem Row.last (h : Row x1 y1 x2 y2 L) : ∃ t, L = t ++ [(x2, y2)] := (Row.of.mp h).last trivial
theorem pair_at {α : Type} {R : α → α → Prop} : ∀ {L : List α}, L.Pairwise R → ∀ {i j : Nat} {p q : α}, i < j → L[i]? = some p → L[j]? = some q → R p q
  | [], _, _, _, _, _, _, h, _ => by cases h
  | a :: t, hp, 0, j + 1, p, q, _, h1, h2 => by
    cases h1
    exact (List.pairwise_cons.mp hp).1 _ (List.mem_of_getElem? h2)
  | a :: t, hp, i + 1, j + 1, p, q, hij, h1, h2 => pair_at (List.pairwise_cons.mp hp).2 (Nat.lt_of_succ_lt_succ hij) h1 h2
theorem Row.next (h : Row x1 y1 x2 y2 L) {k : Nat} {p q : Int × Int} (hp : L[k]? = some p) (hq : L[k + 1]? = some q) : ahead x1 y1 x2 y2 p q ∧ (-1 ≤ q.1 - p.1 ∧ q.1 - p.1 ≤ 1) ∧ -1 ≤ q.2 - p.2 ∧ q.2 - p.2 ≤ 1 := by
  have a := pair_at h.2 (Nat.lt_succ_self k) hp hq
  have tp := (h.1 p).mp (List.mem_of_getElem? hp)
  have tq := (h.1 q).mp (List.mem_of_getElem? hq)
  have no : ∀ r : Int × Int, Thr x1 y1 x2 y2 r.1 r.2 → ahead x1 y1 x2 y2 p r → ahead x1 y1 x2 y2 r q → False := fun r tr r1 r2 => by
    obtain ⟨j, hj⟩ := List.getElem?_of_mem ((h.1 r).mpr tr)
    rcases Nat.lt_trichotomy j k with z | z | z
    · exact ahead_asymm r1 (pair_at h.2 z hj hp)
    · subst z
      rw [hp] at hj
      cases hj
      exact r1.1 rfl
    · rcases Nat.lt_or_eq_of_le (Nat.succ_le_of_lt z) with y | y
      · exact ahead_asymm r2 (pair_at h.2 y hq hj)
      · have y : k + 1 = j := y
        subst y
        rw [hq] at hj
        cases hj
        exact r2.1 rfl
  exact ⟨a, next_x tp tq a no, next_y tp tq a no⟩
/-! ### how long a row may be -/
theorem rising_len {α : Type} (f : α → Int) : ∀ {L : List α} {a b : Int}, L.Pairwise (fun p q => f p < f q) → (∀ p ∈ L, a ≤ f p ∧ f p ≤ b) → (L.length : Int) ≤ (if b < a then 0 else b - a + 1)
  | [], a, b, _, _ => by
    show (0 : Int) ≤ _
    split <;> omega
  | p :: t, a, b, h, hb => by
    obtain ⟨h1, h2⟩ := List.pairwise_cons.mp h
    have k := hb p List.mem_cons_self
    have r := rising_len f (a := f p + 1) (b := b) h2 fun q hq => ⟨by have := h1 q hq; omega, (hb q (List.mem_cons_of_mem _ hq)).2⟩
    show ((t.length + 1 : Nat) : Int) ≤ _
    rw [if_neg (show ¬ b < a by omega)]
    split at r <;> omega
/-! ### a walk from square to square tells them all -/
def Tight (x1 y1 x2 y2 : Int) (p q : Int × Int) : Prop := ahead x1 y1 x2 y2 p q ∧ ∀ r : Int × Int, Thr x1 y1 x2 y2 r.1 r.2 → ahead x1 y1 x2 y2 p r → ahead x1 y1 x2 y2 r q → False
def Walk (x1 y1 x2 y2 : Int) : Int × Int → List (Int × Int) → Prop
  | p, [] => p = (x2, y2)
  | p, q :: t => Tight x1 y1 x2 y2 p q ∧ Thr x1 y1 x2 y2 q.1 q.2 ∧ Walk x1 y1 x2 y2 q t
theorem walk_all : ∀ {t : List (Int × Int)} {p : Int × Int}, Thr x1 y1 x2 y2 p.1 p.2 → Walk x1 y1 x2 y2 p t → (∀ r ∈ p :: t, Thr x1 y1 x2 y2 r.1 r.2 ∧ (r = p ∨ ahead x1 y1 x2 y2 p r)) ∧ (p :: t).Pairwise (ahead x1 y1 x2 y2) ∧ ∀ r : Int × Int, Thr x1 y1 x2 y2 r.1 r.2 → (r = p ∨ ahead x1 y1 x2 y2 p r) → r ∈ p :: t
  | [], p, hp, w => by
    have w : p = (x2, y2) := w
    refine ⟨fun r hr => ?_, List.pairwise_singleton .., fun r tr hr => ?_⟩
    · have e := List.mem_singleton.mp hr
      subst e
      exact ⟨hp, .inl rfl⟩
    · rcases hr with z | z
      · rw [z]; exact List.mem_cons_self
      · rcases thr_to tr with y | y
        · rw [y, w]; exact List.mem_cons_self
        · rw [w] at z
          exact (ahead_asymm z y).elim
  | q :: t, p, hp, ⟨⟨a, no⟩, tq, w⟩ => by
    obtain ⟨i1, i2, i3⟩ := walk_all tq w
    have i1' : ∀ r ∈ q :: t, ahead x1 y1 x2 y2 p r := fun r hr => by
      rcases (i1 r hr).2 with z | z
      · rw [z]; exact a
      · exact ahead_trans a z
    refine ⟨fun r hr => ?_, List.pairwise_cons.mpr ⟨i1', i2⟩, fun r tr hr => ?_⟩
    · rcases List.mem_cons.mp hr with z | z
      · subst z; exact ⟨hp, .inl rfl⟩
      · exact ⟨(i1 r z).1, .inr (i1' r z)⟩
    · rcases hr with z | z
      · rw [z]; exact List.mem_cons_self
      · refine List.mem_cons_of_mem _ ?_
        rcases thr_chain tr tq with y | y | y
        · rw [y]; exact List.mem_cons_self
        · exact (no r tr z y).elim
        · exact i3 r tr (.inr y)
theorem Row.walk {t : List (Int × Int)} (w : Walk x1 y1 x2 y2 (x1, y1) t) : Row x1 y1 x2 y2 ((x1, y1) :: t) := by
  obtain ⟨i1, i2, i3⟩ := walk_all (p := (x1, y1)) (thr_first ..) w
  refine ⟨fun r => ⟨fun h => (i1 r h).1, fun h => i3 r h ?_⟩, i2⟩
  rcases thr_from h with z | z
  · exact .inl z.symm
  · exact .inr z
theorem betw {a b c u : Int} (h1 : 0 ≤ (c - a) * u) (h2 : 0 ≤ (b - c) * u) (hu : u = 0 → c = a ∧ b = c) : (a ≤ c ∧ c ≤ b) ∨ (b ≤ c ∧ c ≤ a) := by
  rcases Int.lt_trichotomy u 0 with z | z | z
  · right
    constructor
    · rcases Int.lt_or_le 0 (b - c) with y | y
      · have := Int.mul_neg_of_pos_of_neg y z
        omega
      · omega
    · rcases Int.lt_or_le 0 (c - a) with y | y
      · have := Int.mul_neg_of_pos_of_neg y z
        omega
      · omega
  · have := hu z
    omega
  · left
    constructor
    · rcases Int.lt_or_le (c - a) 0 with y | y
      · have := Int.mul_neg_of_neg_of_pos y z
        omega
      · omega
    · rcases Int.lt_or_le (b - c) 0 with y | y
      · have := Int.mul_neg_of_neg_of_pos y z
        omega
      · omega
theorem ahead_betw {p q r : Int × Int} (h1 : ahead x1 y1 x2 y2 p r) (h2 : ahead x1 y1 x2 y2 r q) : ((p.1 ≤ r.1 ∧ r.1 ≤ q.1) ∨ (q.1 ≤ r.1 ∧ r.1 ≤ p.1)) ∧ ((p.2 ≤ r.2 ∧ r.2 ≤ q.2) ∨ (q.2 ≤ r.2 ∧ r.2 ≤ p.2)) :=
  ⟨betw h1.2.1 h2.2.1 fun z => ⟨h1.2.2.2.1 (by omega), h2.2.2.2.1 (by omega)⟩, betw h1.2.2.1 h2.2.2.1 fun z => ⟨h1.2.2.2.2 (by omega), h2.2.2.2.2 (by omega)⟩⟩
theorem pair_ne {p q : Int × Int} (h : p ≠ q) : ¬ (p.1 = q.1 ∧ p.2 = q.2) := fun z => h (Prod.ext z.1 z.2)
/-- one step level or upright: nothing is between -/
theorem tight_one {p q : Int × Int} (a : ahead x1 y1 x2 y2 p q) (h : (p.1 = q.1 ∧ (q.2 - p.2 = 1 ∨ q.2 - p.2 = -1)) ∨ (p.2 = q.2 ∧ (q.1 - p.1 = 1 ∨ q.1 - p.1 = -1))) : Tight x1 y1 x2 y2 p q :=
  ⟨a, fun r _ h1 h2 => by
    have b := ahead_betw h1 h2
    have n1 := pair_ne h1.1
    have n2 := pair_ne h2.1
    omega⟩
/-- a slanted step: neither corner is gone through -/
theorem tight_two {p q : Int × Int} (a : ahead x1 y1 x2 y2 p q) (h1 : q.1 - p.1 = 1 ∨ q.1 - p.1 = -1) (h2 : q.2 - p.2 = 1 ∨ q.2 - p.2 = -1) (n1 : ¬ Thr x1 y1 x2 y2 q.1 p.2) (n2 : ¬ Thr x1 y1 x2 y2 p.1 q.2) : Tight x1 y1 x2 y2 p q :=
  ⟨a, fun r tr r1 r2 => by
    have b := ahead_betw r1 r2
    have m1 := pair_ne r1.1
    have m2 := pair_ne r2.1
    have e : (r.1 = q.1 ∧ r.2 = p.2) ∨ (r.1 = p.1 ∧ r.2 = q.2) := by omega
    rcases e with ⟨e1, e2⟩ | ⟨e1, e2⟩
    · rw [e1, e2] at tr; exact n1 tr
    · rw [e1, e2] at tr; exact n2 tr⟩
end
end DM

namespace DM
open PySem L2
def sgn (n : Int) : Int := if n > 0 then 1 else if n < 0 then -1 else 0
def spSign : Sp := fun vs H Q _ => ∃ n : Int, vs = [.int n] ∧ Q (.int (sgn n)) H
section
variable {P : Program} {w : World} {K : PySem.W.Frag} {mg : Str → Option Value} {base : Heap} {f : Addr} {fd : FuncData}
abbrev s_sign : Stmt := top 4
theorem sc_sign : FnScope ["number"] ["number"] (defScope s_sign) := ⟨rfl, rfl, rfl, by decide +kernel, rfl, by decide +kernel, by decide +kernel⟩
theorem ok_sign (F : Fun K "sign" "sign" s_sign f fd) : FnOk P w K mg base CX0 1 f fd ["number"] spSign := by
  refine F.ok sc_sign (fun vs H Q E h => ?_) (fun cdv A outer s H vs Q E hr h => ?_)
  · obtain ⟨n, rfl, _⟩ := h
    rfl
  obtain ⟨n, rfl, q⟩ := h
  refine ⟨_, (pss_cons (ps_if (pt_cmpR op_gt (pv 0) pe_int (nomark _))
    (pss_one (ps_ret pe_int))
    pss_nil)
    (pss_cons (ps_if (pt_cmpR op_lt (pv 0) pe_int (nomark _))
    (pss_one (ps_ret (pe_un un_neg pe_int)))
    pss_nil)
    (pss_one (ps_ret pe_int)))), ?_⟩
  unfold sgn at q
  refine ⟨_, rfl, _, _, rfl, rfl, _, rfl, ?_⟩
  by_cases c : n > 0
  · refine iteDT c ?_
    rw [if_pos c] at q
    exact q
  · refine iteDF c ?_
    rw [if_neg c] at q
    refine ⟨_, rfl, _, _, rfl, rfl, _, rfl, ?_⟩
    by_cases d : n < 0
    · refine iteDT d ?_
      rw [if_pos d] at q
      exact ⟨_, rfl, q⟩
    · refine iteDF d ?_
      rw [if_neg d] at q
      exact q
end
end DM

namespace DM
/-! ### the square behind a square -/
section
variable {x1 y1 x2 y2 : Int}
theorem thr_betw {p : Int × Int} (h : Thr x1 y1 x2 y2 p.1 p.2) : ((x1 ≤ p.1 ∧ p.1 ≤ x2) ∨ (x2 ≤ p.1 ∧ p.1 ≤ x1)) ∧ ((y1 ≤ p.2 ∧ p.2 ≤ y2) ∨ (y2 ≤ p.2 ∧ p.2 ≤ y1)) := by
  rcases thr_from h with e | a
  · rw [← e]; dsimp only; omega
  rcases thr_to h with e | b
  · rw [e]; dsimp only; omega
  exact ahead_betw a b
theorem next_some {p : Int × Int} : ∀ (N : Nat) (q : Int × Int), Thr x1 y1 x2 y2 q.1 q.2 → ahead x1 y1 x2 y2 p q → along x1 y1 x2 y2 q - along x1 y1 x2 y2 p ≤ N → ∃ r : Int × Int, Thr x1 y1 x2 y2 r.1 r.2 ∧ Tight x1 y1 x2 y2 p r
  | 0, q, tq, a, h => by
    have := ahead_along a
    omega
  | N + 1, q, tq, a, h => by
    by_cases c : ∃ r : Int × Int, Thr x1 y1 x2 y2 r.1 r.2 ∧ ahead x1 y1 x2 y2 p r ∧ ahead x1 y1 x2 y2 r q
    · obtain ⟨r, tr, a1, a2⟩ := c
      have := ahead_along a2
      exact next_some N r tr a1 (by omega)
    · exact ⟨q, tq, a, fun r tr a1 a2 => c ⟨r, tr, a1, a2⟩⟩
theorem step_some {p : Int × Int} (h : Thr x1 y1 x2 y2 p.1 p.2) (hne : p ≠ (x2, y2)) : ∃ r : Int × Int, Thr x1 y1 x2 y2 r.1 r.2 ∧ Tight x1 y1 x2 y2 p r := by
  rcases thr_to h with e | b
  · exact absurd e hne
  · refine next_some (along x1 y1 x2 y2 (x2, y2) - along x1 y1 x2 y2 p).toNat (x2, y2) (thr_last ..) b ?_
    have := ahead_along b
    omega
theorem sgn_mul {n k : Int} (h : 0 ≤ k * n) : 0 ≤ k * sgn n := by
  unfold sgn
  split
  · rename_i c
    rcases Int.lt_or_le k 0 with z | z
    · have := Int.mul_neg_of_neg_of_pos z c
      omega
    · omega
  · split
    · rename_i c
      rcases Int.lt_or_le 0 k with z | z
      · have := Int.mul_neg_of_pos_of_neg z c
        omega
      · omega
    · omega
theorem sgn_zero {n : Int} : sgn n = 0 ↔ n = 0 := by unfold sgn; split <;> (try split) <;> omega
theorem sgn_cases (n : Int) : (n = 0 ∧ sgn n = 0) ∨ (0 < n ∧ sgn n = 1) ∨ (n < 0 ∧ sgn n = -1) := by unfold sgn; split <;> (try split) <;> omega
/-- the key that rises along a stroke -/
def key (x1 y1 x2 y2 : Int) (p : Int × Int) : Int := sgn (x2 - x1) * p.1 + sgn (y2 - y1) * p.2
theorem ahead_sgn {p q : Int × Int} (h : ahead x1 y1 x2 y2 p q) : 0 ≤ (q.1 - p.1) * sgn (x2 - x1) ∧ 0 ≤ (q.2 - p.2) * sgn (y2 - y1) := ⟨sgn_mul h.2.1, sgn_mul h.2.2.1⟩
theorem ahead_key {p q : Int × Int} (h : ahead x1 y1 x2 y2 p q) : key x1 y1 x2 y2 p < key x1 y1 x2 y2 q := by
  obtain ⟨a, b⟩ := ahead_sgn h
  have n := pair_ne h.1
  have c := h.2.2.2.1
  have d := h.2.2.2.2
  unfold key
  rcases sgn_cases (x2 - x1) with ⟨u, e⟩ | ⟨u, e⟩ | ⟨u, e⟩ <;> rcases sgn_cases (y2 - y1) with ⟨v, e'⟩ | ⟨v, e'⟩ | ⟨v, e'⟩ <;> rw [e, e'] <;> rw [e] at a <;> rw [e'] at b <;> omega
def nextL (x1 y1 x2 y2 px py : Int) : Int × Int :=
  if sgn (x2 - x1) ≠ 0 ∧ goesL x1 y1 x2 y2 (px + sgn (x2 - x1)) py = true then (px + sgn (x2 - x1), py)
  else if sgn (y2 - y1) ≠ 0 ∧ goesL x1 y1 x2 y2 px (py + sgn (y2 - y1)) = true then (px, py + sgn (y2 - y1))
  else (px + sgn (x2 - x1), py + sgn (y2 - y1))
theorem sgn_step {n k : Int} (h : 0 ≤ k * n) (h0 : n = 0 → k = 0) (h1 : -1 ≤ k ∧ k ≤ 1) : k = 0 ∨ (n ≠ 0 ∧ k = sgn n) := by
  have z := sgn_mul h
  rcases sgn_cases n with ⟨u, e⟩ | ⟨u, e⟩ | ⟨u, e⟩
  · exact .inl (h0 u)
  · rw [e] at z ⊢
    omega
  · rw [e] at z ⊢
    omega
theorem sgn_self {n : Int} (h : n ≠ 0) : 0 ≤ sgn n * n := by
  rcases sgn_cases n with ⟨u, e⟩ | ⟨u, e⟩ | ⟨u, e⟩ <;> rw [e] <;> omega
theorem nextL_ok {p : Int × Int} (h : Thr x1 y1 x2 y2 p.1 p.2) (hne : p ≠ (x2, y2)) : Tight x1 y1 x2 y2 p (nextL x1 y1 x2 y2 p.1 p.2) ∧ Thr x1 y1 x2 y2 (nextL x1 y1 x2 y2 p.1 p.2).1 (nextL x1 y1 x2 y2 p.1 p.2).2 := by
  unfold nextL
  split
  · rename_i c
    rw [goesL_iff] at c
    refine ⟨tight_one ⟨fun e => ?_, ?_, ?_, fun e => ?_, fun _ => rfl⟩ (.inr ⟨rfl, ?_⟩), c.2⟩
    · have := congrArg Prod.fst e
      dsimp only at this
      omega
    · dsimp only
      rw [show p.1 + sgn (x2 - x1) - p.1 = sgn (x2 - x1) by omega]
      exact sgn_self (fun z => c.1 (sgn_zero.mpr z))
    · dsimp only
      rw [Int.sub_self, Int.zero_mul]
      exact Int.le_refl _
    · exact absurd (sgn_zero.mpr (by omega)) c.1
    · dsimp only
      rcases sgn_cases (x2 - x1) with ⟨u, e⟩ | ⟨u, e⟩ | ⟨u, e⟩ <;> rw [e] at c ⊢ <;> omega
  · rename_i n1
    split
    · rename_i c
      rw [goesL_iff] at c
      refine ⟨tight_one ⟨fun e => ?_, ?_, ?_, fun _ => rfl, fun e => ?_⟩ (.inl ⟨rfl, ?_⟩), c.2⟩
      · have := congrArg Prod.snd e
        dsimp only at this
        omega
      · dsimp only
        rw [Int.sub_self, Int.zero_mul]
        exact Int.le_refl _
      · dsimp only
        rw [show p.2 + sgn (y2 - y1) - p.2 = sgn (y2 - y1) by omega]
        exact sgn_self (fun z => c.1 (sgn_zero.mpr z))
      · exact absurd (sgn_zero.mpr (by omega)) c.1
      · dsimp only
        rcases sgn_cases (y2 - y1) with ⟨u, e⟩ | ⟨u, e⟩ | ⟨u, e⟩ <;> rw [e] at c ⊢ <;> omega
    · rename_i n2
      rw [goesL_iff] at n1 n2
      obtain ⟨r, tr, tg⟩ := step_some h hne
      have sx := sgn_step tg.1.2.1 (fun z => by have := tg.1.2.2.2.1 (by omega); omega) (next_x h tr tg.1 tg.2)
      have sy := sgn_step tg.1.2.2.1 (fun z => by have := tg.1.2.2.2.2 (by omega); omega) (next_y h tr tg.1 tg.2)
      have ne := pair_ne tg.1.1
      have er : r = (p.1 + sgn (x2 - x1), p.2 + sgn (y2 - y1)) := by
        rcases sx with sx | ⟨ux, sx⟩
        · rcases sy with sy | ⟨uy, sy⟩
          · omega
          · exfalso
            refine n2 ⟨fun z => uy (sgn_zero.mp z), ?_⟩
            rw [show p.1 = r.1 by omega, show p.2 + sgn (y2 - y1) = r.2 by omega]
            exact tr
        · rcases sy with sy | ⟨uy, sy⟩
          · exfalso
            refine n1 ⟨fun z => ux (sgn_zero.mp z), ?_⟩
            rw [show p.2 = r.2 by omega, show p.1 + sgn (x2 - x1) = r.1 by omega]
            exact tr
          · exact Prod.ext (by dsimp only; omega) (by dsimp only; omega)
      rw [← er]
      exact ⟨tg, tr⟩
theorem row_len {S : Int × Int → Prop} {L : List (Int × Int)} (h : RowOf x1 y1 x2 y2 S L) (hb : -40 ≤ x1 ∧ x1 ≤ 40 ∧ -40 ≤ y1 ∧ y1 ≤ 40 ∧ -40 ≤ x2 ∧ x2 ≤ 40 ∧ -40 ≤ y2 ∧ y2 ≤ 40) : L.length ≤ 161 := by
  have := rising_len (key x1 y1 x2 y2) (a := -80) (b := 80) (h.2.imp fun a => ahead_key a) fun p hp => by
    have t := thr_betw ((h.1 p).mp hp).2
    unfold key
    rcases sgn_cases (x2 - x1) with ⟨u, e⟩ | ⟨u, e⟩ | ⟨u, e⟩ <;> rcases sgn_cases (y2 - y1) with ⟨v, e'⟩ | ⟨v, e'⟩ | ⟨v, e'⟩ <;> rw [e, e'] <;> omega
  rw [if_neg (by decide)] at this
  omega
end
end DM

namespace DM
open PySem L2
def spEnds : Sp := fun vs H Q _ => ∃ (p : Addr) (x1 y1 x2 y2 : Int), vs = [.ref p] ∧ H p = some (.tup [.int x1, .int y1, .int x2, .int y2]) ∧ ∀ (r e0 e1 : Addr) (H' : Hp), Same H H' → H' r = some (.tup [.ref e0, .ref e1]) → H' e0 = some (.tup [.int x1, .int y1]) → H' e1 = some (.tup [.int x2, .int y2]) → Q (.ref r) H'
section
variable {P : Program} {w : World} {K : PySem.W.Frag} {mg : Str → Option Value} {base : Heap} {f : Addr} {fd : FuncData}
abbrev s_ends_of : Stmt := top 6
theorem sc_ends_of : FnScope ["stroke", "x1", "y1", "x2", "y2"] ["stroke"] (defScope s_ends_of) := ⟨rfl, rfl, rfl, by decide +kernel, rfl, by decide +kernel, by decide +kernel⟩
theorem ok_ends_of (F : Fun K "ends_of" "ends_of" s_ends_of f fd) : FnOk P w K mg base CX0 1 f fd ["stroke"] spEnds := by
  refine F.ok sc_ends_of (fun vs H Q E h => ?_) (fun cdv A outer s H vs Q E hr h => ?_)
  · obtain ⟨p, x1, y1, x2, y2, rfl, _⟩ := h
    rfl
  obtain ⟨p, x1, y1, x2, y2, rfl, hp, q⟩ := h
  refine ⟨_, (pss_cons (ps_asg (pv 0) (pg_tup rfl (pgs_cons (pg_name (i := 1) sc_ends_of.nd rfl (Or.inl rfl)) (pgs_cons (pg_name (i := 2) sc_ends_of.nd rfl (Or.inl rfl)) (pgs_cons (pg_name (i := 3) sc_ends_of.nd rfl (Or.inl rfl)) (pgs_cons (pg_name (i := 4) sc_ends_of.nd rfl (Or.inl rfl)) pgs_nil))))))
    (pss_one (ps_ret (pe_tup (pa_cons (pe_tup (pa_cons (pv 1) (pa_cons (pv 2) pa_nil))) (pa_cons (pe_tup (pa_cons (pv 3) (pa_cons (pv 4) pa_nil))) pa_nil)))))), ?_⟩
  refine ⟨_, rfl, p, _, rfl, SqT.of hp, rfl, _, _, rfl, _, _, rfl, _, _, rfl, _, _, rfl, rfl, ?_⟩
  refine ⟨_, rfl, _, rfl, sz (by decide : 2 ≤ 100000), fun e0 n0 => ⟨_, rfl, _, rfl, sz (by decide : 2 ≤ 100000), fun e1 n1 => ⟨sz (by decide : 2 ≤ 100000), fun r nr => ?_⟩⟩⟩
  exact q r e0 e1 _ ((same_new n0 _).trans ((same_new n1 _).trans (same_new nr _))) upd_same (same_new nr _ _ _ (same_new n1 _ _ _ upd_same)) (same_new nr _ _ _ upd_same)
end
end DM

namespace DM
open PySem L2
/-! ### lists of pairs -/
def PrV (H : Hp) (v : V) (p : Int × Int) : Prop := ∃ a : Addr, v = .ref a ∧ H a = some (.tup [.int p.1, .int p.2])
inductive Prs (H : Hp) : List V → List (Int × Int) → Prop
  | nil : Prs H [] []
  | cons {v : V} {p : Int × Int} {vs : List V} {L : List (Int × Int)} : PrV H v p → Prs H vs L → Prs H (v :: vs) (p :: L)
theorem PrV.same {H H' : Hp} {v : V} {p : Int × Int} (h : PrV H v p) (e : Same H H') : PrV H' v p := by
  obtain ⟨a, rfl, z⟩ := h
  exact ⟨a, rfl, e _ _ z⟩
theorem Prs.same {H H' : Hp} {vs : List V} {L : List (Int × Int)} (h : Prs H vs L) (e : Same H H') : Prs H' vs L := by
  induction h with
  | nil => exact .nil
  | cons a _ ih => exact .cons (a.same e) ih
theorem Prs.len {H : Hp} {vs : List V} {L : List (Int × Int)} (h : Prs H vs L) : vs.length = L.length := by
  induction h with
  | nil => rfl
  | cons a _ ih => rw [List.length_cons, List.length_cons, ih]
theorem Prs.snoc {H : Hp} {vs : List V} {L : List (Int × Int)} {v : V} {p : Int × Int} (h : Prs H vs L) (hv : PrV H v p) : Prs H (vs ++ [v]) (L ++ [p]) := by
  induction h with
  | nil => exact .cons hv .nil
  | cons a _ ih => exact .cons a ih
theorem Prs.at {H : Hp} {vs : List V} {L : List (Int × Int)} (h : Prs H vs L) : ∀ {i : Nat} {v : V}, vs[i]? = some v → ∃ p, L[i]? = some p ∧ PrV H v p := by
  induction h with
  | nil => intro i v hv; cases hv
  | cons a _ ih =>
    intro i v hv
    cases i with
    | zero => cases hv; exact ⟨_, rfl, a⟩
    | succ i => exact ih hv
theorem Prs.get {H : Hp} {vs : List V} {L : List (Int × Int)} (h : Prs H vs L) : ∀ {i : Nat} {p : Int × Int}, L[i]? = some p → ∃ v, vs[i]? = some v ∧ PrV H v p := by
  induction h with
  | nil => intro i v hv; cases hv
  | cons a _ ih =>
    intro i v hv
    cases i with
    | zero => cases hv; exact ⟨_, rfl, a⟩
    | succ i => exact ih hv
/-- but for what stands at a list -/
theorem Prs.but {H H' : Hp} {vs : List V} {L : List (Int × Int)} {l : Addr} (h : Prs H vs L) (hl : ∀ xs, H l ≠ some (.tup xs)) (e : ∀ a o, a ≠ l → H a = some o → H' a = some o) : Prs H' vs L := by
  induction h with
  | nil => exact .nil
  | cons a _ ih =>
    obtain ⟨b, rfl, z⟩ := a
    exact .cons ⟨b, rfl, e _ _ (fun y => hl _ (y ▸ z)) z⟩ ih
end DM

namespace DM
open PySem L2
/-- how far a walk along a stroke has still to go -/
def leftAt (x1 y1 x2 y2 : Int) : Option HO → Nat
  | some (HO.tup [V.int a, V.int b]) => (key x1 y1 x2 y2 (x2, y2) - key x1 y1 x2 y2 (a, b)).toNat
  | _ => 0
def leftSq (x1 y1 x2 y2 : Int) (σ : St) (J : Hp) : Nat := match σ with
  | [_, some (V.ref eh), _, _] => leftAt x1 y1 x2 y2 (J eh)
  | _ => 0
def spHeading : Sp := fun vs H Q _ => ∃ (p : Addr) (x1 y1 x2 y2 : Int), vs = [.ref p] ∧ Stk H p x1 y1 x2 y2 ∧ ∀ (r : Addr) (H' : Hp), Same H H' → H' r = some (.tup [.int (sgn (x2 - x1)), .int (sgn (y2 - y1))]) → Q (.ref r) H'
def spBehind : Sp := fun vs H Q _ => ∃ (p ph : Addr) (x1 y1 x2 y2 px py : Int), vs = [.ref p, .ref ph] ∧ Stk H p x1 y1 x2 y2 ∧ H ph = some (.tup [.int px, .int py]) ∧ (-500 ≤ px ∧ px ≤ 500 ∧ -500 ≤ py ∧ py ≤ 500) ∧ ∀ (r : Addr) (H' : Hp), Same H H' → H' r = some (.tup [.int (nextL x1 y1 x2 y2 px py).1, .int (nextL x1 y1 x2 y2 px py).2]) → Q (.ref r) H'
def spSquares : Sp := fun vs H Q _ => ∃ (p : Addr) (x1 y1 x2 y2 : Int), vs = [.ref p] ∧ Stk H p x1 y1 x2 y2 ∧ ∀ (r : Addr) (H' : Hp) (xs : List V) (L : List (Int × Int)), Same H H' → H r = none → H' r = some (.lst xs) → Prs H' xs L → Row x1 y1 x2 y2 L → Q (.ref r) H'
section
variable {P : Program} {w : World} {K : PySem.W.Frag} {mg : Str → Option Value} {base : Heap} {f : Addr} {fd : FuncData}
abbrev s_heading : Stmt := top 7
theorem sc_heading : FnScope ["stroke", "x1", "y1", "x2", "y2"] ["stroke"] (defScope s_heading) := ⟨rfl, rfl, rfl, by decide +kernel, rfl, by decide +kernel, by decide +kernel⟩
theorem ok_heading (c_sign : Cal P w K mg base 1 "sign" ["number"] spSign) (F : Fun K "heading" "heading" s_heading f fd) : FnOk P w K mg base CX0 2 f fd ["stroke"] spHeading := by
  refine F.ok sc_heading (fun vs H Q E h => ?_) (fun cdv A outer s H vs Q E hr h => ?_)
  · obtain ⟨p, x1, y1, x2, y2, rfl, _⟩ := h
    rfl
  obtain ⟨p, x1, y1, x2, y2, rfl, hst, q⟩ := h
  refine ⟨_, (pss_cons (ps_asg (pv 0) (pg_tup rfl (pgs_cons (pg_name (i := 1) sc_heading.nd rfl (Or.inl rfl)) (pgs_cons (pg_name (i := 2) sc_heading.nd rfl (Or.inl rfl)) (pgs_cons (pg_name (i := 3) sc_heading.nd rfl (Or.inl rfl)) (pgs_cons (pg_name (i := 4) sc_heading.nd rfl (Or.inl rfl)) pgs_nil))))))
    (pss_one (ps_ret (pe_tup (pa_cons (pe_cal c_sign hr (pa_cons (pe_op op_sub (pv 3) (pv 1)) pa_nil)) (pa_cons (pe_cal c_sign hr (pa_cons (pe_op op_sub (pv 4) (pv 2)) pa_nil)) pa_nil)))))), ?_⟩
  refine ⟨_, rfl, p, _, rfl, SqT.of hst.1, rfl, _, _, rfl, _, _, rfl, _, _, rfl, _, _, rfl, rfl, ?_⟩
  refine ⟨_, rfl, _, rfl, _, _, rfl, rfl, _, rfl, ?_⟩
  refine ⟨_, rfl, _, rfl, _, _, rfl, rfl, _, rfl, ?_⟩
  exact ⟨sz (by decide : 2 ≤ 100000), fun r nr => q r _ (same_new nr _) upd_same⟩
abbrev s_square_behind : Stmt := top 12
theorem sc_square_behind : FnScope ["stroke", "here", "x", "y", "right", "upward"] ["stroke", "here"] (defScope s_square_behind) := ⟨rfl, rfl, rfl, by decide +kernel, rfl, by decide +kernel, by decide +kernel⟩
theorem ok_square_behind (c_heading : Cal P w K mg base 2 "heading" ["stroke"] spHeading) (c_p_goes : Cal P w K mg base 3 "goes" ["stroke", "spot"] spGoes) (F : Fun K "square_behind" "square_behind" s_square_behind f fd) : FnOk P w K mg base CX0 4 f fd ["stroke", "here"] spBehind := by
  refine F.ok sc_square_behind (fun vs H Q E h => ?_) (fun cdv A outer s H vs Q E hr h => ?_)
  · obtain ⟨p, ph, x1, y1, x2, y2, px, py, rfl, _⟩ := h
    rfl
  obtain ⟨p, ph, x1, y1, x2, y2, px, py, rfl, hst, hh, bh, q⟩ := h
  refine ⟨_, (pss_cons (ps_asg (pv 1) (pg_tup rfl (pgs_cons (pg_name (i := 2) sc_square_behind.nd rfl (Or.inl rfl)) (pgs_cons (pg_name (i := 3) sc_square_behind.nd rfl (Or.inl rfl)) pgs_nil))))
    (pss_cons (ps_asg (pe_cal c_heading hr (pa_cons (pv 0) pa_nil)) (pg_tup rfl (pgs_cons (pg_name (i := 4) sc_square_behind.nd rfl (Or.inl rfl)) (pgs_cons (pg_name (i := 5) sc_square_behind.nd rfl (Or.inl rfl)) pgs_nil))))
    (pss_cons (ps_if (PW.pt (pw_and (pt_cmpR op_ne (pv 4) pe_int (nomark _)) (pw_and1 (pt_val (pe_cal c_p_goes hr (pa_cons (pv 0) (pa_cons (pe_tup (pa_cons (pe_op op_add (pv 2) (pv 4)) (pa_cons (pv 3) pa_nil))) pa_nil)))))))
    (pss_one (ps_ret (pe_tup (pa_cons (pe_op op_add (pv 2) (pv 4)) (pa_cons (pv 3) pa_nil)))))
    pss_nil)
    (pss_cons (ps_if (PW.pt (pw_and (pt_cmpR op_ne (pv 5) pe_int (nomark _)) (pw_and1 (pt_val (pe_cal c_p_goes hr (pa_cons (pv 0) (pa_cons (pe_tup (pa_cons (pv 2) (pa_cons (pe_op op_add (pv 3) (pv 5)) pa_nil))) pa_nil)))))))
    (pss_one (ps_ret (pe_tup (pa_cons (pv 2) (pa_cons (pe_op op_add (pv 3) (pv 5)) pa_nil)))))
    pss_nil)
    (pss_one (ps_ret (pe_tup (pa_cons (pe_op op_add (pv 2) (pv 4)) (pa_cons (pe_op op_add (pv 3) (pv 5)) pa_nil))))))))), ?_⟩
  refine ⟨_, rfl, ph, _, rfl, SqT.of hh, rfl, _, _, rfl, _, _, rfl, rfl, ?_⟩
  refine ⟨_, rfl, p, x1, y1, x2, y2, rfl, hst, fun r1 H1 s1 h1 => ⟨r1, _, rfl, SqT.of h1, rfl, _, _, rfl, _, _, rfl, rfl, ?_⟩⟩
  have sx := sgn_cases (x2 - x1)
  have sy := sgn_cases (y2 - y1)
  unfold nextL at q
  generalize sgn (x2 - x1) = rx at *
  generalize sgn (y2 - y1) = ry at *
  have hst1 := hst.same s1
  dsimp only [gName, tNext]
  refine seq_with (fun σ' H' => σ' = [some (.ref p), some (.ref ph), some (.int px), some (.int py), some (.int rx), some (.int ry)] ∧ Same H1 H' ∧ ¬ (rx ≠ 0 ∧ goesL x1 y1 x2 y2 (px + rx) py = true)) (fun R hR => ?_) ?_
  · refine ⟨_, rfl, rfl, _, rfl, ?_⟩
    by_cases c : rx = 0
    · refine iteNS (congrArg V.int c) ?_
      exact hR _ _ ⟨rfl, Same.refl _, fun z => z.1 c⟩
    · refine if_pos' (by rw [decide_eq_false (fun z => c (V.int.inj z))]; rfl) ?_
      refine ⟨_, rfl, _, rfl, _, rfl, _, _, rfl, rfl, _, rfl, sz (by decide : 2 ≤ 100000), fun t nt => ?_⟩
      have gt := same_new nt (.tup [.int (px + rx), .int py])
      refine ⟨p, t, x1, y1, x2, y2, px + rx, py, rfl, hst1.same gt, upd_same, by omega, fun H2 s2 => ?_⟩
      refine ⟨_, rfl, ?_⟩
      by_cases d : goesL x1 y1 x2 y2 (px + rx) py = true
      · rw [d]
        refine iteT ?_
        rw [if_pos ⟨c, d⟩] at q
        refine ⟨_, rfl, _, rfl, _, _, rfl, rfl, _, rfl, sz (by decide : 2 ≤ 100000), fun r nr => ?_⟩
        exact q r _ (s1.trans (gt.trans (s2.trans (same_new nr _)))) upd_same
      · rw [Bool.not_eq_true] at d
        rw [d]
        refine iteF ?_
        exact hR _ _ ⟨rfl, gt.trans s2, fun z => by rw [d] at z; exact absurd z.2 (by decide)⟩
  · rintro σ H2 ⟨rfl, s2, n1⟩
    rw [if_neg n1] at q
    have hst2 := hst1.same s2
    refine seq_with (fun σ' H' => σ' = [some (.ref p), some (.ref ph), some (.int px), some (.int py), some (.int rx), some (.int ry)] ∧ Same H2 H' ∧ ¬ (ry ≠ 0 ∧ goesL x1 y1 x2 y2 px (py + ry) = true)) (fun R hR => ?_) ?_
    · refine ⟨_, rfl, rfl, _, rfl, ?_⟩
      by_cases c : ry = 0
      · refine iteNS (congrArg V.int c) ?_
        exact hR _ _ ⟨rfl, Same.refl _, fun z => z.1 c⟩
      · refine if_pos' (by rw [decide_eq_false (fun z => c (V.int.inj z))]; rfl) ?_
        refine ⟨_, rfl, _, rfl, _, rfl, _, rfl, _, _, rfl, rfl, sz (by decide : 2 ≤ 100000), fun t nt => ?_⟩
        have gt := same_new nt (.tup [.int px, .int (py + ry)])
        refine ⟨p, t, x1, y1, x2, y2, px, py + ry, rfl, hst2.same gt, upd_same, by omega, fun H3 s3 => ?_⟩
        refine ⟨_, rfl, ?_⟩
        by_cases d : goesL x1 y1 x2 y2 px (py + ry) = true
        · rw [d]
          refine iteT ?_
          rw [if_pos ⟨c, d⟩] at q
          refine ⟨_, rfl, _, rfl, _, rfl, _, _, rfl, rfl, sz (by decide : 2 ≤ 100000), fun r nr => ?_⟩
          exact q r _ (s1.trans (s2.trans (gt.trans (s3.trans (same_new nr _))))) upd_same
        · rw [Bool.not_eq_true] at d
          rw [d]
          refine iteF ?_
          exact hR _ _ ⟨rfl, gt.trans s3, fun z => by rw [d] at z; exact absurd z.2 (by decide)⟩
    · rintro σ H3 ⟨rfl, s3, n2⟩
      rw [if_neg n2] at q
      refine ⟨_, rfl, _, rfl, _, _, rfl, rfl, _, rfl, _, rfl, _, _, rfl, rfl, sz (by decide : 2 ≤ 100000), fun r nr => ?_⟩
      exact q r _ (s1.trans (s2.trans (s3.trans (same_new nr _)))) upd_same
abbrev s_squares : Stmt := top 11
theorem sc_squares : FnScope ["stroke", "here", "end", "found"] ["stroke"] (defScope s_squares) := ⟨rfl, rfl, rfl, by decide +kernel, rfl, by decide +kernel, by decide +kernel⟩
theorem ok_squares (c_ends_of : Cal P w K mg base 1 "ends_of" ["stroke"] spEnds) (c_square_behind : Cal P w K mg base 4 "square_behind" ["stroke", "here"] spBehind) (F : Fun K "squares" "squares" s_squares f fd) : FnOk P w K mg base CX0 5 f fd ["stroke"] spSquares := by
  refine F.ok sc_squares (fun vs H Q E h => ?_) (fun cdv A outer s H vs Q E hr h => ?_)
  · obtain ⟨p, x1, y1, x2, y2, rfl, _⟩ := h
    rfl
  obtain ⟨p, x1, y1, x2, y2, rfl, hst, q⟩ := h
  refine ⟨_, (pss_cons (ps_asg (pe_cal c_ends_of hr (pa_cons (pv 0) pa_nil)) (pg_tup rfl (pgs_cons (pg_name (i := 1) sc_squares.nd rfl (Or.inl rfl)) (pgs_cons (pg_name (i := 2) sc_squares.nd rfl (Or.inl rfl)) pgs_nil))))
    (pss_cons (ps_set (i := 3) sc_squares.nd rfl (Or.inl rfl) (pe_lst (pa_cons (pv 1) pa_nil)))
    (pss_cons (ps_while PassesOwn.never (pt_cmpR (op_neD hr.units) (pv 1) (pv 2) (nomark _))
    (pss_cons (ps_set (i := 1) sc_squares.nd rfl (Or.inl rfl) (pe_cal c_square_behind hr (pa_cons (pv 0) (pa_cons (pv 1) pa_nil))))
    (pss_one (ps_expr (pe_bm PySem.F.plainAttrs_list PySem.F.slot_list_append PySem.F.type_list_append mt_append (pv 3) (pa_cons (pv 1) pa_nil))))))
    (pss_one (ps_ret (pv 3)))))), ?_⟩
  refine ⟨_, rfl, p, x1, y1, x2, y2, rfl, hst.1, fun r0 e0 e1 H1 s1 h1 k0 k1 => ⟨r0, _, rfl, SqT.of h1, rfl, _, _, rfl, _, _, rfl, rfl, ?_⟩⟩
  refine ⟨_, rfl, sz (by decide : 1 ≤ 100000), fun l nl => ?_⟩
  have gl := same_new nl (.lst [.ref e0])
  have nlH : H l = none := s1.free nl
  have bs := hst.2.1
  refine while_by (fun σ J => ∃ (eh : Addr) (xs : List V) (t : List (Int × Int)) (px py : Int), σ = [some (.ref p), some (.ref eh), some (.ref e1), some (.ref l)] ∧ Same H J ∧ J e1 = some (.tup [.int x2, .int y2]) ∧ J l = some (.lst xs) ∧ Prs J xs ((x1, y1) :: t) ∧ J eh = some (.tup [.int px, .int py]) ∧ Thr x1 y1 x2 y2 px py ∧ t.length ≤ 1000 ∧ (t.length : Int) ≤ key x1 y1 x2 y2 (px, py) - key x1 y1 x2 y2 (x1, y1) ∧ (∀ u, Walk x1 y1 x2 y2 (px, py) u → Walk x1 y1 x2 y2 (x1, y1) (t ++ u)))
    (leftSq x1 y1 x2 y2) ?_ ?_ ?_
  · refine ⟨e0, [.ref e0], [], x1, y1, rfl, s1.trans gl, gl _ _ k1, upd_same, .cons ⟨e0, rfl, gl _ _ k0⟩ .nil, gl _ _ k0, thr_first .., by decide, ?_, fun u hu => hu⟩
    rw [Int.sub_self]
    exact Int.le_refl _
  · rintro σ J ⟨eh, xs, t, px, py, rfl, sJ, j1, jl, jp, jh, th, tl, tk, wk⟩
    refine ⟨_, rfl, _, rfl, _, _, dp_pair jh, dp_pair j1, shaped_pair _ _, shaped_pair _ _, _, rfl, ?_⟩
    rw [eqv_pair]
    have bt := thr_betw (p := (px, py)) th
    dsimp only at bt
    by_cases c : px = x2 ∧ py = y2
    · refine iteNS c ?_
      obtain ⟨rfl, rfl⟩ := c
      refine ⟨_, rfl, ?_⟩
      have w0 := wk [] rfl
      rw [List.append_nil] at w0
      exact q l J xs _ sJ nlH jl jp (Row.walk w0)
    · refine if_pos' (by rw [decide_eq_false c]; rfl) ?_
      have hst' := hst.same sJ
      refine ⟨_, rfl, _, rfl, p, eh, x1, y1, x2, y2, px, py, rfl, hst', jh, by omega, fun r J1 sm hr1 => ?_⟩
      have ok := nextL_ok (p := (px, py)) th (fun z => c ⟨congrArg Prod.fst z, congrArg Prod.snd z⟩)
      dsimp only at ok
      generalize nextL x1 y1 x2 y2 px py = nx at *
      have jl1 := sm _ _ jl
      have ak := ahead_key ok.1.1
      have bt' := thr_betw ok.2
      have kb : key x1 y1 x2 y2 nx ≤ key x1 y1 x2 y2 (x2, y2) := by
        rcases thr_to ok.2 with z | z
        · rw [z]; exact Int.le_refl _
        · exact Int.le_of_lt (ahead_key z)
      have kr : key x1 y1 x2 y2 (x2, y2) - key x1 y1 x2 y2 (x1, y1) ≤ 160 := by
        unfold key
        rcases sgn_cases (x2 - x1) with ⟨u, e⟩ | ⟨u, e⟩ | ⟨u, e⟩ <;> rcases sgn_cases (y2 - y1) with ⟨v, e'⟩ | ⟨v, e'⟩ | ⟨v, e'⟩ <;> rw [e, e'] <;> dsimp only <;> omega
      have xl : xs.length = t.length + 1 := jp.len
      refine ⟨_, rfl, .inl ⟨rfl, _, SqL.of jl1⟩, _, rfl, l, xs, _, rfl, rfl, jl1, Nat.lt_of_lt_of_le (by omega : xs.length < 100000) (sz (Nat.le_refl _)), ?_⟩
      have nt : ∀ zs, J1 l ≠ some (.tup zs) := fun zs z => by rw [jl1] at z; cases z
      have keep : ∀ a o, a ≠ l → J1 a = some o → upd J1 l (.lst (xs ++ [.ref r])) a = some o := fun a o ha z => by rw [upd_ne ha]; exact z
      have nel : ∀ (a : Addr) (zs : List V), J1 a = some (.tup zs) → a ≠ l := fun a zs z y => nt zs (y ▸ z)
      refine ⟨⟨r, xs ++ [.ref r], t ++ [nx], nx.1, nx.2, rfl, ?_, keep _ _ (nel _ _ (sm _ _ j1)) (sm _ _ j1), upd_same, ?_, keep _ _ (nel _ _ hr1) hr1, ok.2, ?_, ?_, ?_⟩, ?_⟩
      · exact fun a o z => keep _ _ (ne_of_none z nlH) (sm _ _ (sJ _ _ z))
      · exact ((jp.same sm).snoc ⟨r, rfl, hr1⟩).but nt keep
      · rw [List.length_append, List.length_singleton]
        have : key x1 y1 x2 y2 (nx.1, nx.2) = key x1 y1 x2 y2 nx := rfl
        omega
      · rw [List.length_append, List.length_singleton]
        have : key x1 y1 x2 y2 (nx.1, nx.2) = key x1 y1 x2 y2 nx := rfl
        omega
      · intro u hu
        rw [List.append_assoc]
        exact wk _ ⟨ok.1, ok.2, hu⟩
      · show leftAt x1 y1 x2 y2 ((upd J1 l (.lst (xs ++ [.ref r]))) r) < leftAt x1 y1 x2 y2 (J eh)
        rw [keep _ _ (nel _ _ hr1) hr1, jh]
        unfold leftAt
        dsimp only
        have : key x1 y1 x2 y2 (nx.1, nx.2) = key x1 y1 x2 y2 nx := rfl
        omega
  · rintro σ J Q1 Q2 hq ⟨v, h1, v', h2, d, e, h3, h4, h5, h6, k, h7, h8⟩
    exact ⟨v, h1, v', h2, d, e, h3, h4, h5, h6, k, h7, hq _ _ h8⟩
end
end DM

namespace DM
open PySem L2
/-! ### pairs, and lists of pairs, as data -/
theorem u65 {k : Nat} {A : Around} (r : Room k A) : A.units + 65 < cLine := by have := r.un; omega
def prD (p : Int × Int) : PyData := .tuple [.int p.1, .int p.2]
theorem take_snoc {α : Type} {L : List α} {i : Nat} {p : α} (h : L[i]? = some p) : L.take (i + 1) = L.take i ++ [p] := by
  rw [List.take_add_one, h]
  rfl
theorem dp_prV {K : PySem.W.Frag} {H : Hp} {v : V} {p : Int × Int} (h : PrV H v p) : Dp K H v (prD p) := by
  obtain ⟨a, rfl, z⟩ := h
  exact dp_pair z
theorem dp_prAll {K : PySem.W.Frag} {H : Hp} {vs : List V} {L : List (Int × Int)} (h : Prs H vs L) : DpAll K H vs (L.map prD) := by
  induction h with
  | nil => exact .nil
  | cons a _ ih => exact .cons (dp_prV a) ih
theorem dp_prs {K : PySem.W.Frag} {H : Hp} {r : Addr} {vs : List V} {L : List (Int × Int)} (e : H r = some (.lst vs)) (h : Prs H vs L) : Dp K H (.ref r) (.list (L.map prD)) := .lst (SqL.of e) (dp_prAll h)
theorem lay_prs : ∀ L : List (Int × Int), PyData.canLayAll0 (L.map prD) = true ∧ PyData.depthAll (L.map prD) ≤ 1
  | [] => ⟨rfl, by decide⟩
  | p :: L => by
    have ih := lay_prs L
    rw [List.map_cons]
    unfold PyData.canLayAll0 PyData.depthAll
    rw [ih.1]
    refine ⟨rfl, ?_⟩
    have e : PyData.depth (prD p) = 1 := by unfold prD; simp only [PyData.depth, PyData.depthAll]; rfl
    rw [e]
    omega
theorem shaped_prs (L : List (Int × Int)) : SeqAt.shaped (.list (L.map prD)) = true := by
  have h := lay_prs L
  unfold SeqAt.shaped
  have e1 : PyData.canLay0 (.list (L.map prD)) = true := by unfold PyData.canLay0; exact h.1
  have e2 : PyData.depth (.list (L.map prD)) ≤ 64 := by unfold PyData.depth; omega
  rw [e1, decide_eq_true e2]
  rfl
theorem shaped_prD (p : Int × Int) : SeqAt.shaped (prD p) = true := shaped_pair _ _
theorem eqv_prD (p q : Int × Int) : PyData.eqv (prD p) (prD q) = decide (p = q) := by
  unfold prD
  rw [eqv_pair]
  apply decide_eq_decide.mpr
  exact ⟨fun h => Prod.ext h.1 h.2, fun h => ⟨congrArg Prod.fst h, congrArg Prod.snd h⟩⟩
theorem eqvAll_prs : ∀ L M : List (Int × Int), PyData.eqvAll (L.map prD) (M.map prD) = decide (L = M)
  | [], [] => rfl
  | [], _ :: _ => rfl
  | _ :: _, [] => rfl
  | p :: L, q :: M => by
    rw [List.map_cons, List.map_cons]
    unfold PyData.eqvAll
    rw [eqv_prD, eqvAll_prs L M, ← Bool.decide_and]
    apply decide_eq_decide.mpr
    rw [List.cons.injEq]
theorem eqv_prs (L M : List (Int × Int)) : PyData.eqv (.list (L.map prD)) (.list (M.map prD)) = decide (L = M) := by
  unfold PyData.eqv
  exact eqvAll_prs L M
theorem any_prs (L : List (Int × Int)) (p : Int × Int) : ((L.map prD).any fun z => PyData.eqv z (prD p)) = decide (p ∈ L) := by
  induction L with
  | nil => rfl
  | cons q L ih =>
    rw [List.map_cons, List.any_cons, ih, eqv_prD, ← Bool.decide_or]
    apply decide_eq_decide.mpr
    rw [List.mem_cons]
    exact ⟨fun h => h.imp Eq.symm id, fun h => h.imp Eq.symm id⟩
end DM

namespace DM
open PySem PySem.Spec PyProof.Rows L2 LamX NdefX
/-! ### a lambda with one parameter, called -/
abbrev lamF (q : Str) (params : Arguments) (scope : Scope) (cl : List (Str × Addr)) (c : Addr) : NF := ⟨"<lambda>", q, params, [], scope, cl, c⟩
abbrev lamF' (X : Cx) (params : Arguments) (scope : Scope) (c : Addr) : NF := lamF (X.env.qual ++ "<lambda>") params scope (cloFrom X.env.cells scope.names []) c
section
variable {X : Cx} {pins : List (Addr × Obj)} {σ : L2.St} {H : Hp} {s : Shared}
theorem lam_one {f c : Addr} {pm ctv : Value} {params : Arguments} {body : Expr} {scope : Scope} {N fr : List Str} {x : Str} {js : List Nat} {k : Nat} {A : Around} {t : TE} {v : V} {u : Value} {Q : VK}
    (I : Inv X pins σ H s) (S : NScope N [x] fr scope) (lam : s.heap.get? f = some (PySem.W.kla_obj "<lambda>" (X.env.qual ++ "<lambda>") params body scope (cloFrom X.env.cells scope.names []) pm c ctv))
    (isC : H c = some (CodeO c (X.env.qual ++ "<lambda>"))) (cp : Caps X (cloFrom X.env.cells scope.names []) fr js)
    (bound : bindArgs (PySem.W.kla_fn "<lambda>" (X.env.qual ++ "<lambda>") params body scope (cloFrom X.env.cells scope.names []) pm (.ref c) ctv) ⟨[u], []⟩ = pure [(x, u)])
    (room : Room (k + 1) A) (e0 : Env0 X.prog X.w X.K X.mg X.base A X.stack s H)
    (inner : PE (ncx C8.CX0 X.prog X.w X.K X.mg X.base N (lamF' X params scope c) f A X.stack s H C8.E0) body t) (r : RelV v u) (want : t (startF N [v] (js.map (slotAt σ))) H Q) :
    codeAny (model X.prog X.w) A (.call (.ref f) ⟨[u], []⟩) (CR C8.CX0 X.stack X.prog X.w H s Q C8.E0) s := by
  refine PySem.W.kla_callFunE room.depth lam rfl S.co S.gen rfl (codeO_at I.hok isC) ?_
  rw [bound]
  have par : scope.names.lookup x = some .local := S.par x List.mem_cons_self
  refine wpAny_pure (wpAny_newFunctionEnv S.nocell (fun y hy => by cases List.mem_singleton.mp hy; exact par) (fun hN ns same => ⟨I.nolimit.fresh _ same, ?_⟩) S.kind)
  show codeAny _ _ (.expr body (envF (lamF' X params scope c) f s.heap.objs.size)) _ _
  have kept : ∀ b o, s.heap.get? b = some o → hN.get? b = some o := fun b o z => same.extBut b o (Nat.ne_of_lt (Heap.lt_size z)) (Heap.get?_push_of_some _ z)
  have J : Inv (ncx C8.CX0 X.prog X.w X.K X.mg X.base N (lamF' X params scope c) f A X.stack s H C8.E0) [] (startF N [v] (js.map (slotAt σ))) H { s with heap := hN, toks := s.toks + ([(x, u)] : List (Str × Value)).length } :=
    inv_startN (F := lamF' X params scope c) (ps := [x]) (us := [u]) (vs := [v]) S room.hd e0 rfl (.cons r .nil) (cells_of I cp) ns kept
  refine PySem.W.kla_codeExpr (wpAny_mono (inner.run [] _ _ H Q J want) (fun v2 s3 got => ?_) fun er s3 bad => bad)
  obtain ⟨v', J3, I3, r3, q3⟩ := got
  exact ⟨v', J3, I3.os, I3.bare, I3.base, I3.hok, r3, q3⟩
end
/-! ### keys: a number, or a pair of numbers -/
def KeyR (H : Hp) (v : V) (d : PyData) : Prop := (∃ n : Int, v = .int n ∧ d = .int n) ∨ ∃ (p : Addr) (m n : Int), v = .ref p ∧ H p = some (.tup [.int m, .int n]) ∧ d = .tuple [.int m, .int n]
theorem KeyR.keep {H H' : Hp} {v : V} {d : PyData} (h : KeyR H v d) (e : ∀ b xs, H b = some (.tup xs) → H' b = some (.tup xs)) : KeyR H' v d := by
  rcases h with h | ⟨p, m, n, h1, h2, h3⟩
  · exact .inl h
  · exact .inr ⟨p, m, n, h1, e _ _ h2, h3⟩
theorem KeyR.dp {K : PySem.W.Frag} {H : Hp} {v : V} {d : PyData} (h : KeyR H v d) : Dp K H v d := by
  rcases h with ⟨n, rfl, rfl⟩ | ⟨p, m, n, rfl, h2, rfl⟩
  · exact .int n
  · exact dp_pair h2
theorem KeyR.deep {H : Hp} {v : V} {d : PyData} (h : KeyR H v d) : d.depth ≤ 1 := by
  rcases h with ⟨n, rfl, rfl⟩ | ⟨p, m, n, rfl, h2, rfl⟩
  · simp [PyData.depth]
  · simp [PyData.depth, PyData.depthAll]
/-- keys so far -/
inductive KeysR (H : Hp) : List V → List PyData → Prop
  | nil : KeysR H [] []
  | cons {v : V} {d : PyData} {vs : List V} {ds : List PyData} : KeyR H v d → KeysR H vs ds → KeysR H (v :: vs) (d :: ds)
theorem KeysR.keep {H H' : Hp} {vs : List V} {ds : List PyData} (h : KeysR H vs ds) (e : ∀ b xs, H b = some (.tup xs) → H' b = some (.tup xs)) : KeysR H' vs ds := by
  induction h with
  | nil => exact .nil
  | cons a _ ih => exact .cons (a.keep e) ih
theorem KeysR.snoc {H : Hp} {v : V} {d : PyData} {vs : List V} {ds : List PyData} (h : KeysR H vs ds) (a : KeyR H v d) : KeysR H (vs ++ [v]) (ds ++ [d]) := by
  induction h with
  | nil => exact .cons a .nil
  | cons b _ ih => exact .cons b ih
theorem KeysR.length {H : Hp} {vs : List V} {ds : List PyData} (h : KeysR H vs ds) : vs.length = ds.length := by
  induction h with
  | nil => rfl
  | cons _ _ ih => rw [List.length_cons, List.length_cons, ih]
section
variable {X : Cx} {pins : List (Addr × Obj)} {σ : L2.St} {H : Hp} {s : Shared}
theorem KeysR.reads (I : Inv X pins σ H s) : ∀ {vs : List V} {ds : List PyData} {us : List Value}, KeysR H vs ds → Vals vs us → PySem.W.EachIs (fun v d => ∃ as, Reads s.heap v d as) us ds
  | [], _, _, .nil, r => by cases r; exact .nil
  | _ :: _, _, _, .cons a t, r => by
    cases r with
    | cons h r' => exact .cons (Dp.reads I _ _ _ a.dp h) (KeysR.reads I t r')
/-- the object at a is the empty list, this very object -/
def BareL (a : Addr) (e1 : Nat) : HO := .ext fun h => h.get? a = some (seqObj "list" #[] e1)
/-- what was not tracked is not tracked, and stands, but for frames -/
def KeptO (X : Cx) (H : Hp) (s₀ : Shared) (Hc : Hp) (s : Shared) : Prop := ∀ b o, s₀.heap.get? b = some o → H b = none → Hc b = none ∧ (b ∉ frs X.stack → s.heap.get? b = some o) ∧ ∃ o', s.heap.get? b = some o'
theorem KeptO.step {X : Cx} {H Hc H2 : Hp} {s₀ s s2 : Shared} (h : KeptO X H s₀ Hc s) (un : Un (frs X.stack) [] Hc H2 s.heap s2.heap) : KeptO X H s₀ H2 s2 := fun b o e n => by
  obtain ⟨h1, h2, o', h3⟩ := h b o e n
  exact ⟨un.free b o' h3 h1 (by simp), fun hb => un.keep b o (h2 hb) h1 hb (by simp), un.there b o' h3 (by simp)⟩
/-- what the sort knows at turn i -/
def KeyInv (X : Cx) (pins : List (Addr × Obj)) (σ : L2.St) (H : Hp) (s₀ : Shared) (a kS : Addr) (e1 : Nat) (kz : List PyData) (i : Nat) (s : Shared) : Prop :=
  ∃ (Hc : Hp) (kv : List V), Inv X pins σ Hc s ∧ KeptO X H s₀ Hc s ∧ Same H Hc ∧ Hc a = some (BareL a e1) ∧ Hc kS = some (.lst kv) ∧ KeysR Hc kv (kz.take i)
theorem same_tup {H H' : Hp} (e : Same H H') : ∀ b xs, H b = some (.tup xs) → H' b = some (.tup xs) := fun b _ z => e b _ z
/-- behind the making of one key: the store has one more -/
theorem key_push {a kS : Addr} {e1 i : Nat} {kz : List PyData} {d : PyData} {Hc : Hp} {kv : List V} {s2 : Shared} {w' : Value} {v' : V} {H2 : Hp} (sm : Same H Hc) (hkr : KeysR Hc kv (kz.take i)) (hk : kz[i]? = some d) (hz : kz.length ≤ sizeLine) (hne : kS ≠ a) (nkH : H kS = none) {s₀ : Shared} (nkS : s₀.heap.objs.size ≤ kS) (ko : KeptO X H s₀ H2 s2)
    (I2 : Inv X pins σ H2 s2) (rv : RelV v' w') (sm2 : Same Hc H2) (hkey : KeyR H2 v' d) (hkS2 : H2 kS = some (.lst kv)) (ha2 : H2 a = some (BareL a e1)) :
    ∃ (its : List Value) (n : Nat), s2.heap.get? kS = some (seqObj "list" its.toArray n) ∧ its.length < kz.length ∧ KeyInv X pins σ H s₀ a kS e1 kz (i + 1) { s2 with heap := s2.heap.update kS (Obj.mapSeq (·.push w')) } := by
  obtain ⟨hlen, its, n, rvs, hob⟩ := I2.hok kS _ hkS2
  have hl1 : kv.length = (kz.take i).length := hkr.length
  have hi : i < kz.length := (List.getElem?_eq_some_iff.mp hk).1
  have hl2 : kv.length = i := by rw [hl1, List.length_take]; omega
  have hl3 := rvs.length
  have hob' : s2.heap.get? kS = some (seqObj "list" its.toArray n) := hob
  refine ⟨its, n, hob', by omega, ?_⟩
  obtain ⟨c2, hc2⟩ : ∃ c2, (s2.heap.update kS (Obj.mapSeq (·.push w'))).get? kS = some (seqObj "list" (its.toArray.push w') c2) := ⟨_, get?_update_seq hob' (·.push w')⟩
  have s1 := Heap.SameBut.update s2.heap kS (Obj.mapSeq (·.push w'))
  have ea : its.toArray.push w' = (its ++ [w']).toArray := by simp
  have I3 : Inv X pins σ (upd H2 kS (.lst (kv ++ [v']))) { s2 with heap := s2.heap.update kS (Obj.mapSeq (·.push w')), toks := s2.toks } :=
    I2.write (x := kS) (e := kS) (by rw [hkS2]; trivial) (.inl rfl) (fun b o hb z => (s1.2 b hb).trans z) ⟨_, hc2⟩
      ⟨by rw [List.length_append, List.length_singleton]; omega, its ++ [w'], c2, rvs.snoc rv, by rw [hc2, ea]⟩
  refine ⟨_, _, I3, (fun b o e n => ?_), (fun b o z => ?_), ?_, upd_same, ?_⟩
  · have nb : b ≠ kS := Nat.ne_of_lt (Nat.lt_of_lt_of_le (Heap.lt_size e) nkS)
    obtain ⟨h1, h2, o', h3⟩ := ko b o e n
    exact ⟨by rw [upd_ne nb]; exact h1, fun hb => (s1.2 b nb).trans (h2 hb), o', (s1.2 b nb).trans h3⟩
  · have nb : b ≠ kS := fun q => by rw [q, nkH] at z; cases z
    rw [upd_ne nb]
    exact sm2 _ _ (sm _ _ z)
  · rw [upd_ne (Ne.symm hne)]
    exact ha2
  · have up : ∀ b xs, H2 b = some (.tup xs) → (upd H2 kS (.lst (kv ++ [v']))) b = some (.tup xs) := fun b xs z => by
      have nb : b ≠ kS := fun q => by rw [q, hkS2] at z; cases z
      rw [upd_ne nb]
      exact z
    rw [take_snoc hk]
    exact (hkr.keep fun b xs z => up b xs (same_tup sm2 b xs z)).snoc (hkey.keep up)
/-- the list is laid anew, the store goes: what the frame knows behind it -/
def laidH (Hc : Hp) (a kS : Addr) (ys : List V) : Hp := fun b => if b = kS then none else if b = a then some (.lst ys) else Hc b
theorem key_done {a kS : Addr} {e1 c : Nat} {Hc : Hp} {kv ys : List V} {out : List Value} {h' : Heap} {tk : Nat} (I : Inv X pins σ Hc s) (ha : Hc a = some (BareL a e1)) (hk : Hc kS = some (.lst kv)) (hne : kS ≠ a)
    (nkS : X.s_0.heap.objs.size ≤ kS) (kp : PySem.W.KeepsBut a (PySem.W.hideAll s.heap [kS]) h') (hD : h'.get? a = some (seqObj "list" out.toArray c)) (hz : ys.length ≤ sizeLine) (rv : Vals ys out) :
    Inv X pins σ (laidH Hc a kS ys) { s with heap := h', toks := tk } := by
  have k : ∀ b o, b ≠ kS → b ≠ a → s.heap.get? b = some o → h'.get? b = some o := fun b o n1 n2 z => kp b o n2 (PySem.W.hideAll_get _ z (by simpa using n1))
  have at_ : ∀ b, b ≠ kS → b ≠ a → laidH Hc a kS ys b = Hc b := fun b n1 n2 => by unfold laidH; rw [if_neg n1, if_neg n2]
  have atA : laidH Hc a kS ys a = some (.lst ys) := by unfold laidH; rw [if_neg (Ne.symm hne), if_pos rfl]
  have n1 : ∀ {b u}, Hc b = some u → (∀ zs, u ≠ .lst zs) → b ≠ kS := fun {b u} z n q => by rw [q, hk] at z; exact n _ (Option.some.inj z).symm
  have n2 : ∀ {b u}, Hc b = some u → (∀ φ, u ≠ .ext φ) → b ≠ a := fun {b u} z n q => by rw [q, ha] at z; exact n _ (Option.some.inj z).symm
  have u1 : ∀ {b}, Hc b = none → b ≠ kS := fun {b} z q => by rw [q, hk] at z; cases z
  have u2 : ∀ {b}, Hc b = none → b ≠ a := fun {b} z q => by rw [q, ha] at z; cases z
  refine I.step (g' := s.gens) (d' := s.drawn) (ch := [kS]) (fun b hb => ?_) (fun b o _ _ _ e n => k b o (u1 n) (u2 n) e) (fun b o _ _ _ e n => ⟨o.slots, k b o (u1 n) (u2 n) e⟩) (fun b o _ e n => by rw [at_ b (u1 n) (u2 n)]; exact n) (fun b o nb e => ?_)
    (fun b xs e => by rw [at_ b (n1 e (fun _ z => by cases z)) (n2 e (fun _ z => by cases z))]; exact e) (fun b o u e => by rw [at_ b (n1 e (fun _ z => by cases z)) (n2 e (fun _ z => by cases z))]; exact e)
    (fun b ps e => by rw [at_ b (n1 e (fun _ z => by cases z)) (n2 e (fun _ z => by cases z)), e]; exact ⟨#[], by simp⟩) (fun m hn => ?_) (fun b u e => ?_) I.bare
  · cases List.mem_singleton.mp hb
    exact ⟨.inr nkS, Ne.symm (u1 I.free), fun x c z => u1 (I.freeC x c z), fun p hp => u1 (I.pin p hp).2.1⟩
  · by_cases hb : b = a
    · rw [hb]
      exact ⟨_, hD⟩
    · exact ⟨o, k b o (fun q => nb (by rw [q]; exact List.mem_singleton.mpr rfl)) hb e⟩
  · obtain ⟨ob, es, ep, ho, r⟩ := hn
    exact ⟨ob, es, ep, k _ ob (u1 I.free) (u2 I.free) ho, r⟩
  · by_cases hb : b = kS
    · unfold laidH at e
      rw [if_pos hb] at e
      cases e
    · by_cases hb2 : b = a
      · rw [hb2, atA] at e
        cases e
        rw [hb2]
        exact ⟨hz, out, c, rv, hD⟩
      · rw [at_ b hb hb2] at e
        refine (I.hok b u e).stay (fun d v hd q => k d v ?_ ?_ q) (fun d q => by rw [at_ d (n1 q (fun _ z => by cases z)) (n2 q (fun _ z => by cases z))]; exact q) fun d xs q => by rw [at_ d (n1 q (fun _ z => by cases z)) (n2 q (fun _ z => by cases z))]; exact q
        · rcases hd with z | z
          · rw [z]
            exact hb
          · exact n1 z (fun _ z => by cases z)
        · rcases hd with z | z
          · rw [z]
            exact hb2
          · exact n2 z (fun _ z => by cases z)
end
/-! ### sorted(l, key=..) -/
section
variable {X : Cx} {pins : List (Addr × Obj)} {σ : L2.St} {H : Hp} {s : Shared}
theorem each_rel : ∀ {bs : List V} {us : List Value}, Vals bs us → PySem.W.EachIs (fun u (b : V) => RelV b u) us bs
  | [], _, r => by cases r; exact .nil
  | b :: bs, _, r => by
    cases r with
    | cons h t => exact .cons h (each_rel t)
theorem rel_each : ∀ {bs : List V} {us : List Value}, PySem.W.EachIs (fun u (b : V) => RelV b u) us bs → Vals bs us
  | [], _, .nil => .nil
  | _ :: _, _, .cons h t => .cons h (rel_each t)
theorem rel_at : ∀ {bs : List V} {us : List Value} {i : Nat} {u : Value}, Vals bs us → us[i]? = some u → ∃ b, bs[i]? = some b ∧ RelV b u
  | _, _, _, _, .nil, h => by simp at h
  | _, _, 0, _, .cons r _, h => by
    simp at h
    subst h
    exact ⟨_, rfl, r⟩
  | _, _, i + 1, _, .cons _ t, h => by
    obtain ⟨b, e, r⟩ := rel_at (i := i) t (by simpa using h)
    exact ⟨b, by simpa using e, r⟩
/-- the sort itself, of the copied items -/
theorem key_tree {A : Around} {E : Value → Shared → Prop} {a f : Addr} {xs : List V} {its : List Value} {k : V → PyData} {Q : VK} (ea : a = s.heap.objs.size + 1) (I : Inv X pins σ H s) (rv : Vals xs its) (hz : xs.length ≤ sizeLine)
    (hal : PySem.W.AllAlike (xs.map k)) (hso : PySem.W.Sortable (xs.map k)) (hu : A.units + 2 < cLine) (hdp : ∀ x ∈ xs, (k x).depth ≤ 1)
    (turn : ∀ (x : V) (u : Value) (s' : Shared) (Hc : Hp), x ∈ xs → RelV x u → Inv X pins σ Hc s' → Same H Hc → KeptO X H s Hc s' →
      codeAny (model X.prog X.w) A (.call (.ref f) ⟨[u], []⟩) (CR C8.CX0 X.stack X.prog X.w Hc s' (fun v H' => Same Hc H' ∧ KeyR H' v (k x)) C8.E0) s')
    (q : ∀ H' : Hp, Same H H' → H a = none → H' a = some (.lst (xs.mergeSort (PySem.W.dataLe false k))) → Q (.ref a) H') :
    wpAny (model X.prog X.w) A (ksk_tree a (.ref f) false) (fun r s' => r = .done (.ret .none) ∧ EP X pins σ Q (.ref a) s') E { s with heap := PySem.W.copyHeap s.heap its } := by
  have hil : its.length ≤ sizeLine := by rw [← rv.length]; exact hz
  have whole : (PySem.W.copyHeap s.heap its).get? a = some (seqObj "list" its.toArray 0) := by rw [ea]; exact PySem.W.copyHeap_at s.heap its
  obtain ⟨e1, bareA⟩ : ∃ e1, ((PySem.W.copyHeap s.heap its).update a (Obj.mapSeq fun _ => (#[] : Array Value))).get? a = some (seqObj "list" #[] e1) := ⟨_, get?_update_seq whole fun _ => #[]⟩
  have keepA : ∀ b u, s.heap.get? b = some u → (((PySem.W.copyHeap s.heap its).update a (Obj.mapSeq fun _ => (#[] : Array Value))).push (seqObj "tuple" its.toArray 0)).get? b = some u := fun b u z =>
    Heap.get?_push_of_some _ ((Heap.get?_update_ne _ _ _ _ (by rw [ea]; exact Nat.ne_of_lt (Nat.lt_succ_of_lt (Heap.lt_size z)))).trans (PySem.W.copyHeap_old z))
  have nA : H a = none := I.hok.fresh (by rw [ea]; exact Nat.le_succ _)
  have I1 : Inv X pins σ (upd H a (BareL a e1)) { s with heap := ((PySem.W.copyHeap s.heap its).update a (Obj.mapSeq fun _ => (#[] : Array Value))).push (seqObj "tuple" its.toArray 0), toks := s.toks } :=
    I.laid keepA (by rw [ea]; exact Nat.le_succ _) ⟨Heap.get?_push_of_some _ bareA, ⟨_, Heap.get?_push_of_some _ bareA⟩, fun h1 h2 p st => st _ p⟩
  have I2 := I1.laid (t' := s.toks) (h' := (((PySem.W.copyHeap s.heap its).update a (Obj.mapSeq fun _ => (#[] : Array Value))).push (seqObj "tuple" its.toArray 0)).push (seqObj "list" #[] 0)) (o := .lst []) (fun b u z => Heap.get?_push_of_some _ z) (Nat.le_refl _)
    ⟨Nat.zero_le _, [], 0, .nil, Heap.get?_push_size _ rfl⟩
  have szA : (((PySem.W.copyHeap s.heap its).update a (Obj.mapSeq fun _ => (#[] : Array Value))).push (seqObj "tuple" its.toArray 0)).objs.size = s.heap.objs.size + 3 := by
    rw [size_push', Heap.size_update]
    unfold PySem.W.copyHeap
    rw [size_push', Heap.size_update, size_push']
  unfold ksk_tree
  refine wpAny_bind (listItems_at whole rfl (wpAny_bind (listUpdate_at whole rfl (wpAny_bind (seqEpoch_at bareA rfl (wpAny_bind (wpAny_newTuple (wpAny_bind (wpAny_newList (wpAny_holding ?_) (Nat.zero_le _))) (by show its.length ≤ _; exact hil))))) (by rw [List.size_toArray]; exact hil) (Nat.zero_le _))))
  generalize eS : (((PySem.W.copyHeap s.heap its).update a (Obj.mapSeq fun _ => (#[] : Array Value))).push (seqObj "tuple" its.toArray 0)).objs.size = kS at I2 szA ⊢
  have hne : kS ≠ a := by rw [szA, ea]; exact Nat.ne_of_gt (by omega)
  have nkS : s.heap.objs.size ≤ kS := by rw [szA]; exact Nat.le_add_right _ _
  have nkH : H kS = none := I.hok.fresh nkS
  unfold ksk_rest
  refine wpAny_bind (wpAny_rule ?_)
  first
    | rw [List.forIn_toArray]
    | (rw [← Array.forIn_toList]; simp only [List.toList_toArray])
  refine wpAny_bind (ksk_fold (KeyInv X pins σ H s a kS e1 (xs.map k)) its 0 _ ⟨_, _, I2, ?_, ?_, ?_, upd_same, ?_⟩ ?step ?done)
  · intro b o z n
    have b1 : b ≠ kS := Nat.ne_of_lt (Nat.lt_of_lt_of_le (Heap.lt_size z) nkS)
    have b2 : b ≠ a := by rw [ea]; exact Nat.ne_of_lt (Nat.lt_succ_of_lt (Heap.lt_size z))
    have z' := Heap.get?_push_of_some (seqObj "list" #[] 0) (keepA b o z)
    exact ⟨by rw [upd_ne b1, upd_ne b2]; exact n, fun _ => z', o, z'⟩
  · intro b o z
    rw [upd_ne (ne_of_none z nkH), upd_ne (ne_of_none z nA)]
    exact z
  · rw [upd_ne (Ne.symm hne), upd_same]
  · rw [List.take_zero]
    exact .nil
  case step =>
    rintro j u s' hu' ⟨Hc, kv, Ij, ko, sm, ha, hkS, hkr⟩
    rw [Nat.zero_add] at hkr ⊢
    obtain ⟨x, hx, rx⟩ := rel_at rv hu'
    have hk : (xs.map k)[j]? = some (k x) := by rw [List.getElem?_map, hx]; rfl
    refine wpAny_bind (wpAny_attempt (wpAny_call (codeAny_mono (turn x u s' Hc (List.mem_of_getElem? hx) rx Ij sm ko) fun res s2 got => ?_)))
    cases res with
    | error er => exact (show False from got).elim
    | ok fl =>
      cases fl with
      | next => exact False.elim got
      | brk => exact False.elim got
      | cont => exact False.elim got
      | ret w' =>
        obtain ⟨v', H2, os, bare, un, hok, r2, sm2, hkey⟩ := got
        obtain ⟨_, _, I2', rv', rfl, rfl⟩ := Ij.after (Q := fun v H' => v = v' ∧ H' = H2) ⟨v', H2, os, bare, un, hok, r2, rfl, rfl⟩
        obtain ⟨st, n, hob, hlt, nxt⟩ := key_push (w' := w') sm hkr hk (by rw [List.length_map]; exact hz) hne nkH nkS (ko.step un) I2' rv' sm2 hkey (sm2 _ _ hkS) (sm2 _ _ ha)
        rw [List.length_map] at hlt
        try dsimp only
        exact wpAny_bind (listUpdate_at hob rfl (wpAny_pure ⟨rfl, nxt⟩) (by rw [List.size_toArray]; omega) (by rw [Array.size_push, List.size_toArray]; omega))
  case done =>
    rintro s' ⟨Hc, kv, Ij, ko, sm, ha, hkS, hkr⟩
    rw [Nat.zero_add, List.take_of_length_le (by rw [List.length_map, rv.length]; exact Nat.le_refl _)] at hkr
    obtain ⟨_, ks, n, rk, hob⟩ := Ij.hok kS _ hkS
    obtain ⟨hobA, _, _⟩ := Ij.hok a _ ha
    have hob' : s'.heap.get? kS = some (seqObj "list" ks.toArray n) := hob
    have lk : ks.length = its.length := by rw [← rk.length, hkr.length, List.length_map, rv.length]
    have reads := hkr.reads Ij rk
    try dsimp only
    refine wpAny_bind (listItems_at hob' rfl ?_)
    refine PySem.W.keyH_end (κ := PySem.W.dataKind s'.heap (xs.map k)) (h₁ := PySem.W.hideAll s'.heap [kS]) (vs := its) (keys := ks.toArray) (fun b o _ z => PySem.W.of_hideAll _ z) (PySem.W.hideAll_none _ (List.mem_singleton.mpr rfl)) hob' hobA hne
      (PySem.W.SortsAt.data (by rw [List.toList_toArray]; exact reads) hal hso fun d hd => ?_) (by rw [List.size_toArray]; exact lk) hil fun h3 tk3 c k3 n3 => ⟨rfl, ?_⟩
    · obtain ⟨x, hx, rfl⟩ := List.mem_map.mp hd
      have := hdp x hx
      omega
    · rw [List.toList_toArray] at n3
      have ko' : PySem.W.KeyedOut false (xs.map k) its (PySem.W.sortVals (PySem.W.dataKind s'.heap (xs.map k)) false ks its) := ⟨s'.heap, ks, hal, rfl, reads⟩
      have each := PySem.W.keyedOut_each (R := fun u (b : V) => RelV b u) k ko' (each_rel rv)
      have pm := List.mergeSort_perm xs (PySem.W.dataLe false k)
      have szK : X.s_0.heap.objs.size ≤ kS := Nat.le_trans I.sz nkS
      refine ⟨.ref a, _, key_done (ys := xs.mergeSort (PySem.W.dataLe false k)) Ij ha hkS hne szK k3 n3 (by rw [pm.length_eq]; exact hz) (rel_each each), rfl, q _ (fun b o z => ?_) nA ?_⟩
      · have b1 : b ≠ kS := ne_of_none z nkH
        have b2 : b ≠ a := ne_of_none z nA
        unfold laidH
        rw [if_neg b1, if_neg b2]
        exact sm _ _ z
      · unfold laidH
        rw [if_neg (Ne.symm hne), if_pos rfl]
end
end DM

namespace DM
open PySem PySem.Spec PyProof.Rows L2 LamX NdefX
section
variable {prog : Program} {w : World} {A : Around} {E : Value → Shared → Prop} {s : Shared}
/-- the items of a tuple, laid in a new list -/
theorem collect_tupl {l : Addr} {vs : List Value} {Q : List Value → Shared → Prop} (hl : IsTup s.heap l vs.toArray) (h : Q vs { s with heap := (s.heap.push (seqObj "list" #[] 0)).update s.heap.objs.size (Obj.mapSeq (· ++ vs.toArray)) }) (fits : vs.length ≤ sizeLine) :
    wpAny (model prog w) A (collect (.ref l)) Q E s := by
  obtain ⟨o, ho, hc, n, hd⟩ := id hl
  have there : (s.heap.push (seqObj "list" #[] 0)).get? l = some o := Heap.get?_push_of_some _ ho
  have fresh : (s.heap.push (seqObj "list" #[] 0)).get? s.heap.objs.size = some (seqObj "list" #[] 0) := Heap.get?_push_size _ rfl
  unfold collect
  refine wpAny_bind (wpAny_runValue (codeAny_builtin entry_proto_collect' ?_))
  show wpAny _ _ (do again (.builtin "list.__iadd__" ⟨[← newList [], .ref l], []⟩)) _ _ s
  refine wpAny_bind (wpAny_newList (wpAny_pure ⟨Code.quiet_builtin _ (by decide +kernel), codeAny_builtin entry_list_iadd' ?_⟩))
  show wpAny _ _ (Builtin.List.listExtendWith (.ref s.heap.objs.size) (.ref l) (.ref s.heap.objs.size)) _ _ { s with heap := s.heap.push (seqObj "list" #[] 0) }
  unfold Builtin.List.listExtendWith
  refine wpAny_bind (wpAny_typeOf (T := "tuple") ⟨o, there, hc⟩ ?_)
  have isT : (Value.type "tuple" == Value.type "tuple") = true := by rfl
  rw [if_pos (by rw [isT]; simp)]
  refine wpAny_bind (listItems_at there hd (wpAny_bind (listItems_at fresh rfl ?_)))
  rw [if_neg (by simp)]
  refine wpAny_bind (listUpdate_at fresh rfl (wpAny_pure ?_) (Nat.zero_le _) (by show (#[] ++ vs.toArray).size ≤ sizeLine + 1; simp only [Array.size_append, List.size_toArray, List.length_nil]; omega))
  show wpAny (model prog w) A (do
      let o ← load s.heap.objs.size
      match o.data with
      | .seq xs _ => pure xs.toList
      | _ => unsupported "internal:collect") Q E { s with heap := (s.heap.push (seqObj "list" #[] 0)).update s.heap.objs.size (Obj.mapSeq (· ++ vs.toArray)) }
  refine wpAny_bind (wpAny_load (get?_update_seq fresh _) ?_)
  show wpAny _ _ (pure ((#[] : Array Value) ++ vs.toArray).toList) Q E _
  rw [show ((#[] : Array Value) ++ vs.toArray).toList = vs by simp]
  exact wpAny_pure h
/-- sorted(t, ..) of a tuple: list.sort(..) on a new list of its items -/
theorem sorted_of_tupl {l : Addr} {vs : List Value} {kw : List (Str × Value)} {Q : Value → Shared → Prop} (hl : IsTup s.heap l vs.toArray) (hL : vs.length ≤ sizeLine) (ha1 : argsOk "sorted" ⟨[.ref l], kw⟩) (ha2 : ∀ x, argsOk "list.sort" ⟨[.ref x], kw⟩)
    (body : ∀ E' : Value → Shared → Prop, wpAny (model prog w) A.in1.in1 (Builtin.«list.sort» ⟨[.ref (s.heap.objs.size + 1)], kw⟩) (fun f s' => f = .done (.ret .none) ∧ Q (.ref (s.heap.objs.size + 1)) s') E' { s with heap := PySem.W.copyHeap s.heap vs }) :
    wpAny (model prog w) A (call (.builtin "sorted") [.ref l] kw) Q E s := by
  have size1 : ((s.heap.push (seqObj "list" #[] 0)).update s.heap.objs.size (Obj.mapSeq (· ++ vs.toArray))).objs.size = s.heap.objs.size + 1 := by rw [Heap.size_update, size_push']
  refine call_function_entry_kw kind_sorted plain_sorted entry_sorted ha1 ?_
  unfold Builtin.«sorted»
  refine wpAny_bind (m := checkCount "sorted" 1 1 _) (wpAny_pure (wpAny_bind (collect_tupl hl (wpAny_bind (wpAny_newList ?_ hL)) hL)))
  show wpAny _ _ _ _ _ { s with heap := PySem.W.copyHeap s.heap vs }
  rw [size1]
  refine wpAny_bind (wpAny_holding (wpAny_call_entry_kw slot_list_sort ⟨_, PySem.W.copyHeap_at s.heap vs, rfl⟩ entry_list_sort ?inside (ha2 _)))
  case inside =>
    show wpAny (model prog w) A.in1.in1 (Builtin.«list.sort» ⟨[.ref (s.heap.objs.size + 1)], kw⟩) _ _ _
    refine wpAny_mono (body _) (fun f s' hf => ?_) fun _ _ e => e
    obtain ⟨rfl, hq⟩ := hf
    exact ⟨_, rfl, wpAny_pure ⟨_, rfl, hq⟩⟩
end
/-- the reading of sorted(e, key=lambda x: ..): k tells the key of each item -/
def tSortKey (K : PySem.W.Frag) (T : List (Addr × Str)) (N : List Str) (js : List Nat) (ta : TA) (t : TE) : TE := fun σ H Q => ta σ H fun vs H1 => ∃ (l : Addr) (xs : List V) (k : V → PyData), vs = [.ref l] ∧ (SqL K H1 l xs ∨ SqT K H1 l xs) ∧ Tabs T H1 ∧ PySem.W.AllAlike (xs.map k) ∧ PySem.W.Sortable (xs.map k) ∧ (∀ y ∈ xs, (k y).depth ≤ 1) ∧
  (∀ (y : V) (Hc : Hp), y ∈ xs → ExtN H1 Hc → t (startF N [y] (js.map (slotAt σ))) Hc fun v H' => Same Hc H' ∧ KeyR H' v (k y)) ∧
  ∀ (a : Addr) (H' : Hp), ExtN H1 H' → Tabs T H' → (∀ b o, H1 b = some o → (∀ ps, o ≠ .tbl ps) → b ≠ a) → H' a = some (.lst (xs.mergeSort (PySem.W.dataLe false k))) → Q (.ref a) H'
section
variable {X : Cx}
theorem pe_sortKey {T : List (Addr × Str)} {c P : Addr} {k : Nat} {e : Expr} {ta : TA} {t : TE} {params : Arguments} {body : Expr} {scope : Scope} {N fr : List Str} {y : Str} {js : List Nat} {p kp lp pos : Pos}
    (B : X.mg "sorted" = none) (gl : Gl X "sorted") (ha : PA X [e] ta) (TB : TabB X.base X.mg c P) (mine : X.env.code = .ref c) (inT : (P, X.env.qual ++ "<lambda>") ∈ T) (oneT : ∀ p ∈ T, p.1 = P → p.2 = X.env.qual ++ "<lambda>") (room : Room (k + 3) X.A)
    (S : NScope N [y] fr scope) (nb : ndefB X.env.scope scope fr = true) (hjs : js.map (fun j => X.N[j]?) = fr.map some) (nodef : defaultsOf params X.env = ([], []))
    (bound : ∀ (q : Str) (cl : List (Str × Addr)) (pm cv ctv u : Value), bindArgs (PySem.W.kla_fn "<lambda>" q params body scope cl pm cv ctv) ⟨[u], []⟩ = pure [(y, u)])
    (inner : ∀ (A : Around) (s : Shared) (H : Hp) (f c : Addr), Room k (A.deeper (envF (lamF' X params scope c) f s.heap.objs.size)) → PE (ncx C8.CX0 X.prog X.w X.K X.mg X.base N (lamF' X params scope c) f A X.stack s H C8.E0) body t)
    (he1 : backTo pos (starEach [e] X.env) = (false, eval e X.env) :: backTo pos (starEach [] X.env) := by rfl) (hpl : (backTo pos (starEach [e] X.env)).any (·.1) = false := by rfl) :
    PE X (.Call (.Name "sorted" p) [e] [⟨some "key", .Lambda params body scope lp, kp⟩] pos) (tSortKey X.K T N js ta t) := by
  have free := ndef_free nb
  have hfr := ndef_fr nb
  refine ⟨fun pz sz tz Jz Qz Iz want => ?_⟩
  refine wpAny_Call_Name_kw (ld_blt Iz gl B bt_sorted ?_ (by decide) (by decide))
  refine PyProof.Rows.callWith_kw (thn (ha.run pos pz sz tz Jz _ Iz want) fun us s1 ⟨vs, H1, I1, r1, l, xs, k, ev, sq, hT, hal, hso, hdp, keys, fin⟩ => ?_) he1 hpl
  subst ev
  obtain ⟨u, rfl, ru⟩ := vals1 r1
  obtain rfl : u = Value.ref l := ru
  show wpAny _ _ (evalAll [do let v ← eval (.Lambda params body scope lp) X.env; standAt pos; pure v]) _ _ s1
  have hfree : ∀ y ∈ scope.names, y.2 = .free → ∃ c, X.env.cells.lookup y.1 = some c := fun y hy e => (free y hy e).elim (fun z => I1.ok.has _ (.inl z)) fun z => I1.ok.has _ (.inr z)
  refine wpAny_evalAll_cons (wpAny_bind (lam_make2 I1 TB mine inT oneT hT nodef hfree fun f cc pm ctv H2 s2 I2 more T2 lam noH noF isC => wpAny_bind (wpAny_standAt (wpAny_pure (wpAny_evalAll_nil ?_)))))
  show wpAny _ _ (call (.builtin "sorted") [.ref l] [(Str.ofString "key", .ref f)]) _ _ s2
  have nt : ∀ {b : Addr} {ys : List V}, SqL X.K H1 b ys → SqL X.K H2 b ys := fun {b ys} z => z.imp (fun z => z.imp (fun z => more _ _ z (fun _ q => by cases q)) fun ⟨o, z⟩ => ⟨o, more _ _ z (fun _ q => by cases q)⟩) id
  have nu : ∀ {b : Addr} {ys : List V}, SqT X.K H1 b ys → SqT X.K H2 b ys := fun {b ys} z => z.imp (fun z => z.imp (fun z => more _ _ z (fun _ q => by cases q)) fun ⟨o, z⟩ => ⟨o, more _ _ z (fun _ q => by cases q)⟩) id
  have cp : Caps X (cloFrom X.env.cells scope.names []) fr js := Caps.made I1.ok free hfr hjs
  have rm := room.in1.in1
  have body' : ∀ (its : List Value), Vals xs its → xs.length ≤ sizeLine → ∀ E' : Value → Shared → Prop, wpAny (model X.prog X.w) X.A.in1.in1 (Builtin.«list.sort» ⟨[.ref (s2.heap.objs.size + 1)], [(Str.ofString "key", .ref f)]⟩) (fun r s' => r = .done (.ret .none) ∧ EP X pz tz Qz (.ref (s2.heap.objs.size + 1)) s') E' { s2 with heap := PySem.W.copyHeap s2.heap its } := fun its rv hz E' => by
    rw [ksk_t1]
    refine key_tree (k := k) rfl I2 rv hz hal hso (by have := rm.un; omega) hdp (fun x u s' Hc hx rx Ic sm ko => ?_) fun H' sm na hl => ?_
    · have there := ((ko f _ lam noH).2.1 noF)
      exact lam_one Ic S there (sm _ _ isC) cp (bound _ _ _ _ _ _) rm Ic.env0.in1.in1 (inner _ _ _ _ _ (rm.deeper _)) rx (keys x Hc hx (more.trans (ExtN.of sm)))
    · exact fin _ H' (more.trans (ExtN.of sm)) (T2.ext sm) (fun b o z n q => by
        have z2 := more b o z n
        rw [q, na] at z2
        cases z2) hl
  rcases sq with sq | sq
  · obtain ⟨its, rv, hl, hz⟩ := I2.list (nt sq)
    exact PySem.W.sorted_of_sort hl.isList (by rw [← rv.length]; exact hz) (ksk_s1 _ _) (fun _ => ksk_l1 _ _) (body' its rv hz)
  · obtain ⟨its, rv, hl, hz⟩ := I2.tuple (nu sq)
    exact sorted_of_tupl hl (by rw [← rv.length]; exact hz) (ksk_s1 _ _) (fun _ => ksk_l1 _ _) (body' its rv hz)
end
end DM

namespace DM
open PySem L2
/-! ### pairs read off the heap -/
def prAt (H : Hp) : V → Int × Int
  | .ref a => match H a with
    | some (.tup [.int x, .int y]) => (x, y)
    | _ => (0, 0)
  | _ => (0, 0)
theorem prAt_of {H : Hp} {v : V} {p : Int × Int} (h : PrV H v p) : prAt H v = p := by
  obtain ⟨a, rfl, e⟩ := h
  simp only [prAt, e]
theorem Prs.map_at {H : Hp} {vs : List V} {L : List (Int × Int)} (h : Prs H vs L) : vs.map (prAt H) = L := by
  induction h with
  | nil => rfl
  | cons a _ ih => rw [List.map_cons, prAt_of a, ih]
theorem Prs.mem {H : Hp} {vs : List V} {L : List (Int × Int)} (h : Prs H vs L) : ∀ v ∈ vs, PrV H v (prAt H v) := by
  induction h with
  | nil => intro v hv; cases hv
  | cons a _ ih =>
    intro v hv
    rcases List.mem_cons.mp hv with rfl | hv
    · rw [prAt_of a]; exact a
    · exact ih v hv
theorem prs_of {H : Hp} : ∀ {vs : List V}, (∀ v ∈ vs, PrV H v (prAt H v)) → Prs H vs (vs.map (prAt H))
  | [], _ => .nil
  | v :: vs, h => .cons (h v List.mem_cons_self) (prs_of fun u hu => h u (List.mem_cons_of_mem _ hu))
theorem prs_imp {H : Hp} {vs : List V} {L : List (Int × Int)} (h : Prs H vs L) {us : List V} (hu : ∀ u ∈ us, u ∈ vs) : Prs H us (us.map (prAt H)) := prs_of fun u m => h.mem u (hu u m)
theorem Prs.take {H : Hp} {vs : List V} {L : List (Int × Int)} (h : Prs H vs L) : ∀ n : Nat, Prs H (vs.take n) (L.take n) := by
  induction h with
  | nil => intro n; rw [List.take_nil, List.take_nil]; exact .nil
  | cons a _ ih =>
    intro n
    cases n with
    | zero => exact .nil
    | succ n => exact .cons a (ih n)
theorem Prs.drop {H : Hp} {vs : List V} {L : List (Int × Int)} (h : Prs H vs L) : ∀ n : Nat, Prs H (vs.drop n) (L.drop n) := by
  induction h with
  | nil => intro n; rw [List.drop_nil, List.drop_nil]; exact .nil
  | cons a t ih =>
    intro n
    cases n with
    | zero => exact .cons a t
    | succ n => exact ih n
theorem Prs.append {H : Hp} {us ws : List V} {L M : List (Int × Int)} (h1 : Prs H us L) (h2 : Prs H ws M) : Prs H (us ++ ws) (L ++ M) := by
  induction h1 with
  | nil => exact h2
  | cons a _ ih => exact .cons a ih
/-! ### sorted lists are one -/
theorem sorted_perm {α : Type} {R : α → α → Prop} (asy : ∀ a b, R a b → ¬ R b a) : ∀ {l m : List α}, l.Perm m → l.Pairwise R → m.Pairwise R → l = m
  | [], m, h, _, _ => h.nil_eq
  | a :: l, [], h, _, _ => by simpa using h.length_eq
  | a :: l, b :: m, h, h1, h2 => by
    have hab : a = b := by
      rcases List.mem_cons.mp (h.mem_iff.mp (List.mem_cons_self (a := a) (l := l))) with e | e
      · exact e
      · rcases List.mem_cons.mp (h.symm.mem_iff.mp (List.mem_cons_self (a := b) (l := m))) with e' | e'
        · exact e'.symm
        · exact absurd ((List.pairwise_cons.mp h2).1 a e) (asy _ _ ((List.pairwise_cons.mp h1).1 b e'))
    subst hab
    rw [sorted_perm asy (h.cons_inv) (List.pairwise_cons.mp h1).2 (List.pairwise_cons.mp h2).2]
end DM

namespace DM
open PySem L2 LamX NdefX
/-! ### a def whose code object has a table of its own -/
section
variable {P : Program} {w : World} {K : PySem.W.Frag} {mg : Str → Option Value} {base : Heap}
theorem okT {x qual : Str} {st : Stmt} {f c : Addr} {fd : FuncData} {N ps : List Str} {k : Nat} {sp : Sp} (F : Fun K x qual st f fd) (mine : fd.code = .ref c) (S : FnScope N ps (defScope st)) (len : ∀ vs H Q E, sp vs H Q E → vs.length = ps.length)
    (body : ∀ (A : Around) (outer : List Env) (s : Shared) (H : Hp) (vs : List V) (Q : VK) (E : XK), Room k (A.deeper (PyProof.Rows.envOfC qual (defScope st) s.heap.objs.size f (.ref c))) → sp vs H Q E →
      ∃ t, PSs (cxOf CX0 P w K mg base N qual (defScope st) f (.ref c) A outer s H E).nox (defBody st) t ∧ t { nx := fun _ H' => Q .non H', rt := Q } (L2.start N vs) H) : FnOk P w K mg base CX0 (k + 1) f fd ps sp := by
  obtain ⟨oc, od, kV, doc, pm, an, cdv, ct, osl, rfl, lk, hcd⟩ := F.ex
  obtain rfl : cdv = .ref c := mine
  refine fn_of lk hcd S len fun A outer s H vs Q E hr hsp => ?_
  obtain ⟨t, h, q⟩ := body A outer s H vs Q E hr hsp
  exact ⟨t, h.nox, q⟩
end
/-- the table at Pt, for lambdas made in the def x -/
abbrev qLamOf (x : Str) (sc : Scope) : Str := (PyProof.Rows.envOfC x sc 0 0 .none).qual ++ "<lambda>"
/-! ### tables of code stay where only lists change -/
def KeepN (H H' : Hp) : Prop := ∀ b o, H b = some o → (∀ xs, o ≠ .lst xs) → H' b = some o
theorem KeepN.of {H H' : Hp} (e : Same H H') : KeepN H H' := fun b o h _ => e b o h
theorem KeepN.trans {H H1 H2 : Hp} (a : KeepN H H1) (b : KeepN H1 H2) : KeepN H H2 := fun c o h n => b c o (a c o h n) n
theorem KeepN.but {H H' : Hp} {b l : Addr} (hB : BagAt H b l) (e : But b H H') : KeepN H H' := fun c o h n => e c o (fun z => by
  obtain ⟨xs, hb⟩ := hB.hasB
  rw [z, hb] at h
  exact n xs (Option.some.inj h).symm) h
theorem KeepN.put {H : Hp} {D : Addr} {xs : List V} {o : HO} (h : H D = some (.lst xs)) : KeepN H (upd H D o) := fun c u hc n => by
  rw [upd_ne (fun z => by rw [z, h] at hc; exact n xs (Option.some.inj hc).symm)]
  exact hc
theorem tabs_keep {T : List (Addr × Str)} {H H' : Hp} (t : Tabs T H) (e : KeepN H H') : Tabs T H' := fun p hp => by
  obtain ⟨ps, h1, h2, h3⟩ := t p hp
  refine ⟨ps, e _ _ h1 (fun xs z => by cases z), h2, fun pos cv hc => ?_⟩
  obtain ⟨cc, z1, z2⟩ := h3 pos cv hc
  exact ⟨cc, z1, e _ _ z2 (fun xs z => by unfold CodeO at z; cases z)⟩
theorem BagAt.extN {H H' : Hp} {b l : Addr} (h : BagAt H b l) (e : ExtN H H') : BagAt H' b l := by
  obtain ⟨ns, i, g, s, h1, h2, r⟩ := h
  exact ⟨ns, i, g, s, e _ _ h1 (fun ps z => by cases z), e _ _ h2 (fun ps z => by cases z), r⟩
theorem PrV.ext {H H' : Hp} {v : V} {p : Int × Int} (h : PrV H v p) (e : ExtN H H') : PrV H' v p := by
  obtain ⟨a, rfl, z⟩ := h
  exact ⟨a, rfl, e _ _ z (fun ps z => by cases z)⟩
theorem Prs.ext {H H' : Hp} {vs : List V} {L : List (Int × Int)} (h : Prs H vs L) (e : ExtN H H') : Prs H' vs L := by
  induction h with
  | nil => exact .nil
  | cons a _ ih => exact .cons (a.ext e) ih
theorem ext_tup {H H' : Hp} (e : ExtN H H') {a : Addr} {xs : List V} (h : H a = some (.tup xs)) : H' a = some (.tup xs) := e _ _ h (fun ps z => by cases z)
theorem ext_lst {H H' : Hp} (e : ExtN H H') {a : Addr} {xs : List V} (h : H a = some (.lst xs)) : H' a = some (.lst xs) := e _ _ h (fun ps z => by cases z)
def spLawTs (K : PySem.W.Frag) (Ps : List Addr) : Sp := fun vs H Q _ => ∃ (a : Addr) (ns : List Int), vs = [.ref a] ∧ SqL K H a (ns.map V.int) ∧ ns.length ≤ 63 ∧ (∀ P ∈ Ps, H P = some (.tbl #[])) ∧ ∀ H', Q (.bl true) H'
end DM

namespace DM
open PySem L2
/-! ### a list or a tuple, walked -/
inductive SeqIt (K : PySem.W.Frag) (a : Addr) (xs : List V) : It → HO → Prop
  | l : SeqIt K a xs (Itl K a) (.lst xs)
  | t : SeqIt K a xs (Itt K a) (.tup xs)
/-- o is the list or the tuple of xs -/
def SeqO (xs : List V) (o : HO) : Prop := o = .lst xs ∨ o = .tup xs
theorem SeqO.no {xs : List V} {o : HO} (h : SeqO xs o) : ∀ ps, o ≠ .tbl ps := by
  rcases h with rfl | rfl
  · exact fun ps z => by cases z
  · exact fun ps z => by cases z
theorem SeqO.sq {K : PySem.W.Frag} {H : Hp} {a : Addr} {xs : List V} {o : HO} (h : SeqO xs o) (e : H a = some o) : SqL K H a xs ∨ SqT K H a xs := by
  rcases h with rfl | rfl
  · exact .inl (SqL.of e)
  · exact .inr (SqT.of e)
def SqWalk (K : PySem.W.Frag) (H : Hp) (a : Addr) (R : It → Hp → Prop) : Prop := ((∃ xs, SqL K H a xs) ∧ R (Itl K a) H) ∨ ((∃ xs, SqT K H a xs) ∧ R (Itt K a) H)
def iSq (K : PySem.W.Frag) (tl : TE) : TI := fun σ H R => tl σ H fun x H1 => ∃ a, x = .ref a ∧ SqWalk K H1 a R
theorem isq_in {K : PySem.W.Frag} {a : Addr} {xs : List V} {H : Hp} {o : HO} {R : It → Hp → Prop} (so : SeqO xs o) (e : H a = some o) (h : ∀ J, SeqIt K a xs J o → R J H) : SqWalk K H a R := by
  rcases so with rfl | rfl
  · exact .inl ⟨⟨_, SqL.of e⟩, h _ .l⟩
  · exact .inr ⟨⟨_, SqT.of e⟩, h _ .t⟩
section
variable {X : Cx} {tg : Expr}
theorem pi_sq {l : Expr} {tl : TE} (hl : PE X l tl) : PI X tg l (iSq X.K tl) := by
  refine ⟨fun pins s σ H R I h => ?_⟩
  refine thn (hl.run pins s σ H _ I h) fun v s1 ⟨x, H1, I1, r1, a, e, q1⟩ => ?_
  subst e
  cases r1
  rcases q1 with ⟨⟨xs, hq⟩, q⟩ | ⟨⟨xs, hq⟩, q⟩
  · obtain ⟨its, rv, p, hz⟩ := I1.list hq
    refine wpAny_pyIter_list p.isList ⟨s1.heap.objs.size, [s1.heap.objs.size], _, _, H1, rfl, I1.kept (t' := s1.toks) fun b o e => Heap.get?_push_of_some _ e, turn_list a _, ⟨_, Heap.get?_push_size _ rfl, rfl, rfl⟩, fun b hb => ?_, q⟩
    cases List.mem_singleton.mp hb
    exact I1.fpOk (Nat.le_refl _) (I1.hok.fresh (Nat.le_refl _))
  · obtain ⟨its, rv, p, hz⟩ := I1.tuple hq
    refine wpAny_pyIter_tuple (show s1.heap.IsTuple a its.toArray from p) ⟨s1.heap.objs.size, [s1.heap.objs.size], _, _, H1, rfl, I1.kept (t' := s1.toks) fun b o e => Heap.get?_push_of_some _ e, turn_tuple a _, ⟨_, Heap.get?_push_size _ rfl, rfl, rfl⟩, fun b hb => ?_, q⟩
    cases List.mem_singleton.mp hb
    exact I1.fpOk (Nat.le_refl _) (I1.hok.fresh (Nat.le_refl _))
end
theorem lc_any {K : PySem.W.Frag} {a : Addr} {xs : List V} {J : It} {o : HO} {g : TG} {tt : TT} {te : TE} {vs : List Nat} {σ : St} {H1 : Hp} {D : Addr} {Qd : Hp → Prop} (w : SeqIt K a xs J o) (Pv : Nat → Hp → Prop) (h0 : Pv 0 (upd H1 D (.lst []))) (hl : ∀ i H, i ≤ xs.length → Pv i H → H a = some o)
    (hs : ∀ i x H, xs[i]? = some x → Pv i H → g x (wipe σ vs) H fun σ2 H2 => wipe σ2 vs = wipe σ vs ∧ tt σ2 H2 fun b H3 =>
      if b = true then te σ2 H3 fun y H4 => ∃ acc, H4 D = some (.lst acc) ∧ acc.length < sizeLine ∧ Pv (i + 1) (upd H4 D (.lst (acc ++ [y]))) else Pv (i + 1) H3) (hd : ∀ H, Pv xs.length H → Qd H) :
    ∃ W : Nat → Nat → Hp → Prop, (∃ m, W 0 m (upd H1 D (.lst []))) ∧ ∀ i m H, W i m H →
      (J.stop i H ∧ Qd H) ∨ (J.go i H ∧ ∃ Nx : Hp → Prop, (∀ H', Nx H' → ∃ m', m' < m ∧ W (i + 1) m' H') ∧ ∀ x H', J.yld i H x H' → g x (wipe σ vs) H' fun σ2 H2 => wipe σ2 vs = wipe σ vs ∧ tt σ2 H2 fun b H3 =>
        if b = true then te σ2 H3 fun y H4 => ∃ acc, H4 D = some (.lst acc) ∧ acc.length < sizeLine ∧ Nx (upd H4 D (.lst (acc ++ [y]))) else Nx H3) := by
  cases w with
  | l => exact lc_list Pv h0 (fun i H hi p => SqL.of (hl i H hi p)) hs hd
  | t => exact lc_tup Pv h0 (fun i H hi p => SqT.of (hl i H hi p)) hs hd
theorem for_any {K : PySem.W.Frag} {a : Addr} {xs : List V} {J : It} {o : HO} {g : TG} {tb : TS} {D : Ends} {σ : St} {H : Hp} (w : SeqIt K a xs J o) (Pv : Nat → St → Hp → Prop) (h0 : Pv 0 σ H) (hl : ∀ i σ H, i ≤ xs.length → Pv i σ H → H a = some o)
    (hs : ∀ i x σ H, xs[i]? = some x → Pv i σ H → g x σ H fun σ2 H2 => tb { D with nx := Pv (i + 1), ct := Pv (i + 1), bk := D.nx } σ2 H2) (hd : ∀ σ H, Pv xs.length σ H → D.nx σ H) :
    ∃ W : Nat → Nat → St → Hp → Prop, (∃ m, W 0 m σ H) ∧ ∀ i m σ H, W i m σ H →
      (J.stop i H ∧ D.nx σ H) ∨ (J.go i H ∧ ∃ N : St → Hp → Prop, (∀ σ' H', N σ' H' → ∃ m', m' < m ∧ W (i + 1) m' σ' H') ∧ ∀ x H', J.yld i H x H' → g x σ H' fun σ2 H2 => tb { D with nx := N, ct := N, bk := D.nx } σ2 H2) := by
  cases w with
  | l => exact for_list Pv h0 (fun i σ H hi p => SqL.of (hl i σ H hi p)) hs hd
  | t => exact for_tup Pv h0 (fun i σ H hi p => SqT.of (hl i σ H hi p)) hs hd
/-- a walk over a list or a tuple that stays, whatever a turn does -/
theorem any_walk {K : PySem.W.Frag} {a : Addr} {xs : List V} {J : It} {o : HO} {Step : V → Hp → (Hp → Prop) → Prop} {H0 : Hp} {Qd : Hp → Prop} (w : SeqIt K a xs J o) (Pv : Nat → Hp → Prop) (h0 : Pv 0 H0) (hl : ∀ i H, i ≤ xs.length → Pv i H → H a = some o)
    (hs : ∀ i x H, xs[i]? = some x → Pv i H → Step x H (Pv (i + 1))) (hd : ∀ H, Pv xs.length H → Qd H) :
    ∃ W : Nat → Nat → Hp → Prop, (∃ m, W 0 m H0) ∧ ∀ i m H, W i m H → (J.stop i H ∧ Qd H) ∨ (J.go i H ∧ ∃ Nx : Hp → Prop, (∀ H', Nx H' → ∃ m', m' < m ∧ W (i + 1) m' H') ∧ ∀ x H', J.yld i H x H' → Step x H' Nx) := by
  refine ⟨fun i m H => m = xs.length - i ∧ i ≤ xs.length ∧ Pv i H, ⟨_, rfl, Nat.zero_le _, h0⟩, ?_⟩
  rintro i m H ⟨rfl, hi, p⟩
  have q := hl i H hi p
  rcases Nat.lt_or_ge i xs.length with lt | ge
  · right
    obtain ⟨x, hx⟩ : ∃ x, xs[i]? = some x := ⟨_, List.getElem?_eq_getElem lt⟩
    have nxt : ∀ H', Pv (i + 1) H' → ∃ m', m' < xs.length - i ∧ m' = xs.length - (i + 1) ∧ i + 1 ≤ xs.length ∧ Pv (i + 1) H' := fun H' z => ⟨_, by omega, rfl, lt, z⟩
    cases w with
    | l => exact ⟨⟨xs, x, SqL.of q, hx⟩, Pv (i + 1), nxt, fun y H' ⟨e, z⟩ => by subst e; have e2 := z xs (SqL.of q); rw [hx] at e2; cases e2; exact hs i x _ hx p⟩
    | t => exact ⟨⟨xs, x, SqT.of q, hx⟩, Pv (i + 1), nxt, fun y H' ⟨e, z⟩ => by subst e; have e2 := z xs (SqT.of q); rw [hx] at e2; cases e2; exact hs i x _ hx p⟩
  · left
    have e : i = xs.length := by omega
    subst e
    cases w with
    | l => exact ⟨⟨xs, SqL.of q, Nat.le_refl _⟩, hd H p⟩
    | t => exact ⟨⟨xs, SqT.of q, Nat.le_refl _⟩, hd H p⟩
end DM

namespace DM
open PySem PySem.Spec PyProof.Rows L2 LamX
/-- walk_ofOwn, for the tables of several defs by their names -/
theorem walk_ofTabs {l : PySem.W.OpenLaw} {n k : Nat} {q : Program} {loose : List Str} {XP : (Str → Option Value) → Heap → Prop} {YP : World → Heap → Prop} {d : DefRec} {K : Params → PySem.W.Frag} {CX : World → CXT} {x : Str} (names : List Str)
    (most : l.most = some n) (short : n ≤ sizeLine) (nodef : d.params.defaults = []) (room : Room k callerA) (recs : ∀ nm ∈ names, ((recsOf q).any fun e => e.name == nm) = true) (inK : ∀ (w : World) (h : Heap), YP w h → (K w.params).In h)
    (F : ∀ (w : World) (mg : Str → Option Value) (fa : Addr) (h : Heap), YP w h → (K w.params).In h → h.Ns mainGlobals mg → mg d.name = some (.ref fa) → (∀ nm ∈ names, ∀ g : Addr, mg nm = some (.ref g) → OwnTab (K w.params) g h) → LawAtS l w (K w.params) (CX w) k n x mg fa h)
    (quiet : ∀ (w : World) (H : Hp) (s : Shared) (e : Value) (s' : Shared), CX w [] H s (fun _ _ _ => False) e s' → False) :
    PySem.W.WalkO q loose XP YP l.row.toRowW d [] (fun f vs => PySem.call f vs) := by
  refine Att.attach_callB most nodef fun w s₀ s₁ mg mb fa o pm cd doc a vs ns G Y ho hd hcd hmg hobj hints hlen hbits hg => ?_
  have inH := inK w _ Y
  have own : ∀ nm ∈ names, ∀ g : Addr, mg nm = some (.ref g) → OwnTab (K w.params) g s₁.heap := fun nm hnm g hg' => fun c P o1 fd1 e dd vs1 sl k1 k2 k3 k4 k5 => by
    obtain ⟨dL, inQ, sameN⟩ := List.any_eq_true.mp (recs nm hnm)
    obtain ⟨a', o', fd', c', P', h1, h2, h3, h4, h5, h6⟩ := G.T.tab dL inQ
    rw [beq_iff_eq.mp sameN, hg'] at h1
    cases h1
    have at1 := inH _ _ k1
    rw [at1] at h2
    cases h2
    rw [k2] at h3
    cases h3
    rw [k3] at h4
    cases h4
    obtain ⟨⟨oc, vc, e1, _, e3, e4⟩, hP⟩ := h6
    have at2 := inH _ _ k4
    rw [at2] at e1
    cases e1
    cases e3
    rw [k5] at e4
    cases e4
    exact hP
  obtain ⟨fd, cs, sp, hT, nT, C, hb, hsp, hF⟩ := F w mg fa _ Y inH G.T.g hmg own
  exact law_callTs inH G.T.g G.T.b G.T.builtins G.T.nolimit hg hT nT C G.T.bmain hobj hints (Nat.le_trans hlen short) room hF hb (fun H hH hS => hsp H a ns hlen hbits hH hS) fun H e s' => quiet w H s₁ e s'
end DM

namespace DM
open PySem L2
/-- while, by what holds ahead of each turn and a number that falls: N is what the next turn may begin with -/
theorem while_own {c : TT} {tb : TS} {D : Ends} {σ : St} {H : Hp} (Pv : St → Hp → Prop) (μ : St → Hp → Nat) (h0 : Pv σ H)
    (hs : ∀ σ H (N : St → Hp → Prop), (∀ σ' H', Pv σ' H' → μ σ' H' < μ σ H → N σ' H') → (∀ σ' H', N σ' H' → ∃ m', m' < μ σ H ∧ m' = μ σ' H' ∧ Pv σ' H') → Pv σ H → c σ H fun b H1 => if b = true then ∃ N : St → Hp → Prop, (∀ σ' H', N σ' H' → ∃ m', m' < μ σ H ∧ m' = μ σ' H' ∧ Pv σ' H') ∧ tb { D with nx := N, ct := N, bk := D.nx } σ H1 else D.nx σ H1) : tWhile c tb D σ H := by
  refine ⟨fun m σ H => m = μ σ H ∧ Pv σ H, ⟨_, rfl, h0⟩, ?_⟩
  rintro m σ H ⟨rfl, p⟩
  exact hs σ H (fun σ' H' => Pv σ' H' ∧ μ σ' H' < μ σ H) (fun _ _ a b => ⟨a, b⟩) (fun _ _ z => ⟨_, z.2, rfl, z.1⟩) p
end DM

namespace DM
open PySem L2
/-! ### dict(l) of pairs whose keys are tuples -/
def mergeT (kvL more : List (List Key × V)) : List (List Key × V) := more.foldl (fun acc kv => putK acc kv.1 kv.2) kvL
theorem putT_len (kvL : List (List Key × V)) (k : List Key) (v : V) : (putK kvL k v).length ≤ kvL.length + 1 := by
  unfold putK
  split
  · rw [List.length_map]; omega
  · rw [List.length_append, List.length_singleton]; omega
theorem mergeT_len : ∀ (more kvL : List (List Key × V)), (mergeT kvL more).length ≤ kvL.length + more.length
  | [], kvL => Nat.le_refl _
  | p :: r, kvL => by
    have h := mergeT_len r (putK kvL p.1 p.2)
    have h' := putT_len kvL p.1 p.2
    rw [List.length_cons]
    show (mergeT (putK kvL p.1 p.2) r).length ≤ _
    omega
theorem mergeT_rel {H : Hp} : ∀ {more : List (List Key × V)} {rs : List (List Key × Addr × Value)} {kvL : List (List Key × V)} {xs : List (List Key × Addr × Value)}, KT H more rs → KT H kvL xs → KT H (mergeT kvL more) (storedAllH xs rs) := by
  intro more rs kvL xs r
  unfold KT at r
  induction r generalizing kvL xs with
  | nil => intro h; exact h
  | @cons p q ps qs isList t ih =>
    intro h
    obtain ⟨e1, e2, e3⟩ := isList
    refine ih (kvL := putK kvL p.1 p.2) (xs := storedH xs q.1 q.2.1 q.2.2) ?_
    rw [← e1]
    exact KT.put h p.1 e2 e3
section
variable {X : Cx}
theorem pairsT_of {pins : List (Addr × Obj)} {σ : St} {H : Hp} {s : Shared} (I : Inv X pins σ H s) : ∀ {ps : List Addr} {kvL : List (List Key × V)}, Paired (fun p kv => ∃ b, SqT X.K H p [.ref b, kv.2] ∧ H b = some (.tup (kv.1.map kV))) ps kvL →
    ∃ rs : List (List Key × Addr × Value), KT H kvL rs ∧ rs.length = ps.length ∧ ∀ (j : Nat) (q : List Key × Addr × Value), rs[j]? = some q → ∃ p : Addr, ps[j]? = some p ∧ s.heap.IsTuple p #[.ref q.2.1, q.2.2] ∧ H q.2.1 = some (.tup (q.1.map kV))
  | _, _, .nil => ⟨[], .nil, rfl, fun j q e => by simp at e⟩
  | _, _, .cons (a := p) (b := kv) h t => by
    obtain ⟨rs, r, lenR, isPairs⟩ := pairsT_of I t
    obtain ⟨b, h, hb⟩ := h
    obtain ⟨its, relV, ht, _⟩ := I.tuple h
    obtain ⟨u, y, eIts, ru, ry⟩ := vals2 relV
    subst eIts
    cases (show u = Value.ref b from ru)
    refine ⟨(kv.1, b, y) :: rs, .cons ⟨rfl, hb, ry⟩ r, by rw [List.length_cons, List.length_cons, lenR], fun j q e => ?_⟩
    cases j with
    | zero =>
      have e' : (kv.1, b, y) = q := Option.some.inj e
      subst e'
      exact ⟨p, rfl, ht, hb⟩
    | succ j =>
      obtain ⟨p', e1, e2, e3⟩ := isPairs j q (by simpa using e)
      exact ⟨p', by simpa using e1, e2, e3⟩
def rDictT (K : PySem.W.Frag) : List V → Hp → VK → Prop := fun xs H Q => ∃ (a : Addr) (ps : List Addr) (kvL : List (List Key × V)), xs = [.ref a] ∧ SqL K H a (ps.map V.ref) ∧ Paired (fun p kv => ∃ b, SqT K H p [.ref b, kv.2] ∧ H b = some (.tup (kv.1.map kV))) ps kvL ∧
    ∀ p, H p = none → Q (.ref p) (upd H p (.dT (mergeT [] kvL)))
theorem call_dictT (hcalm : X.calm = true) (hu : X.A.units + 64 < cLine) : CallR X (.type "dict") (rDictT X.K) := by
  intro pins s σ H xs us Q I r q
  obtain ⟨a, ps, kvL, ex, isList, isPairs, q⟩ := q
  subst ex
  obtain ⟨u, eu, rx⟩ := vals1 r
  subst eu
  cases rx
  obtain ⟨its, relV, pl, room⟩ := I.list isList
  have eIts := refs_at relV
  subst eIts
  rw [List.length_map] at room
  obtain ⟨rs, rel, lenR, hpr⟩ := pairsT_of I isPairs
  obtain ⟨o, n, objAt, objTy, hd, dat⟩ := pl
  have hi : PairItems s.heap ((ps.map Value.ref).toArray) (fun j => ps.getD j 0) (rs.map fun x => (Value.ref x.2.1, x.2.2)) := by
    refine ⟨by simp [lenR], fun j k v e => ?_⟩
    rw [List.getElem?_map] at e
    cases e1 : rs[j]? with
    | none => rw [e1] at e; cases e
    | some x =>
      rw [e1] at e
      cases e
      obtain ⟨p, h1, h2, _⟩ := hpr j x e1
      have e2 : ps.getD j 0 = p := by rw [List.getD_eq_getElem?_getD, h1]; rfl
      dsimp only
      rw [e2]
      exact ⟨by simp [h1], .inl h2⟩
  refine call_dict_pairsH (knd := tupleKind (mixKind X.prog X.w)) (ps := rs) (PairArg.list a ((ps.map Value.ref).toArray) (fun j => ps.getD j 0) (rs.map fun x => (Value.ref x.2.1, x.2.2))) (I.ok.hd hcalm) (show X.A.units + 1 + 1 < cLine by omega) ⟨⟨o, n, objAt, objTy, hd, dat⟩, hi⟩ ⟨by rw [List.length_map], fun i key v e => ?_⟩ (fun h' hk x hx => ?_) (by rw [List.length_map, lenR]; exact room) fun h' tk hd' k => ?_
  · have e' : (rs.map fun x => (Value.ref x.2.1, x.2.2))[i]? = some (key, v) := e
    rw [List.getElem?_map] at e'
    cases e1 : rs[i]? with
    | none => rw [e1] at e'; cases e'
    | some x =>
      rw [e1] at e'
      cases e'
      exact ⟨x.1, x.2.1, rfl, rfl⟩
  · obtain ⟨j, hj⟩ := List.mem_iff_getElem?.mp hx
    obtain ⟨p, _, _, h3⟩ := hpr j x hj
    obtain ⟨ob, arr, n', g1, g2, g3, g4⟩ := key_of (P := X.prog) (w := X.w) I.hok h3
    exact ⟨ob, arr, n', hk _ _ (Nat.ne_of_lt (Heap.lt_size g1)) (by simp) g1, g2, g3, g4⟩
  · have noMods : (s.heap.objs.size == sysModules) = false := beq_eq_false_iff_ne.mpr (Nat.ne_of_gt I.big)
    have lenM : (mergeT [] kvL).length ≤ sizeLine := by
      refine Nat.le_trans (mergeT_len kvL []) ?_
      rw [List.length_nil, Nat.zero_add, rel.length, lenR]
      exact room
    obtain ⟨o', es, ep, h1, h2, h3, h4, _, h5⟩ := hd'
    have fresh := I.hok.fresh (Nat.le_refl _)
    have kt : KT (upd H s.heap.objs.size (.dT (mergeT [] kvL))) (mergeT [] kvL) (storedAllH [] rs) := (mergeT_rel rel .nil).keeps fun b ys e => by
      rw [upd_ne (ne_of_none e fresh)]; exact e
    exact ⟨.ref s.heap.objs.size, upd H s.heap.objs.size (.dT (mergeT [] kvL)), I.laid (t' := tk) (fun b o e => k b o (by simp) e) (Nat.le_refl _) (show ObjOk X.prog X.w _ _ _ (.dT (mergeT [] kvL)) from ⟨lenM, noMods, storedAllH [] rs, kt, o', es, ep, h1, h2, h3, h4, h5⟩), rfl, q _ fresh⟩
end
end DM

namespace DM
open PySem L2
/-! ### what is alike, piece by piece -/
theorem alike_tup {n : Nat} {H : Hp} {p q : Addr} {xs ys : List V} (hp : H p = some (.tup xs)) (hq : H q = some (.tup ys)) (hl : xs.length = ys.length) (h1 : xs.length ≤ 1000) (h : ∀ (i : Nat) (x y : V), xs[i]? = some x → ys[i]? = some y → Alike n H x y) : Alike (n + 1) H (.ref p) (.ref q) := .inr (.inl ⟨p, q, xs, ys, rfl, rfl, hp, hq, hl, h1, h⟩)
theorem alike_lst {n : Nat} {H : Hp} {p q : Addr} {xs ys : List V} (hp : H p = some (.lst xs)) (hq : H q = some (.lst ys)) (hl : xs.length = ys.length) (h1 : xs.length ≤ 1000) (h : ∀ (i : Nat) (x y : V), xs[i]? = some x → ys[i]? = some y → Alike n H x y) : Alike (n + 1) H (.ref p) (.ref q) := .inr (.inr ⟨p, q, xs, ys, rfl, rfl, hp, hq, hl, h1, h⟩)
theorem two_of {P : V → V → Prop} {a b c d : V} (h0 : P a c) (h1 : P b d) : ∀ (i : Nat) (x y : V), ([a, b] : List V)[i]? = some x → ([c, d] : List V)[i]? = some y → P x y
  | 0, _, _, hx, hy => by cases hx; cases hy; exact h0
  | 1, _, _, hx, hy => by cases hx; cases hy; exact h1
theorem three_of {P : V → V → Prop} {a b e c d f : V} (h0 : P a c) (h1 : P b d) (h2 : P e f) : ∀ (i : Nat) (x y : V), ([a, b, e] : List V)[i]? = some x → ([c, d, f] : List V)[i]? = some y → P x y
  | 0, _, _, hx, hy => by cases hx; cases hy; exact h0
  | 1, _, _, hx, hy => by cases hx; cases hy; exact h1
  | 2, _, _, hx, hy => by cases hx; cases hy; exact h2
theorem alike_ints {n : Nat} {H : Hp} {p q : Addr} {a b : Int} (hp : H p = some (.tup [.int a, .int b])) (hq : H q = some (.tup [.int a, .int b])) : Alike (n + 1) H (.ref p) (.ref q) := alike_tup hp hq rfl (by show 2 ≤ 1000; decide) alike_pair
end DM

namespace DM
open PySem L2
/-! ### a dict whose keys are pairs -/
def keyP (p : Int × Int) : List Key := [Sum.inl p.1, Sum.inl p.2]
theorem keyP_inj {p q : Int × Int} : keyP p = keyP q ↔ p = q := by
  refine ⟨fun h => ?_, fun h => by rw [h]⟩
  unfold keyP at h
  simp only [List.cons.injEq, Sum.inl.injEq, and_true] at h
  exact Prod.ext h.1 h.2
def tabP (L : List (Int × Int)) : List (List Key × V) := L.map fun p => (keyP p, V.bl true)
theorem val_merge (q : Int × Int) : ∀ (L : List (Int × Int)) (kvs : List (List Key × V)), (valV (mergeT kvs (tabP L)) (keyP q)).isSome = (decide (q ∈ L) || (valV kvs (keyP q)).isSome)
  | [], kvs => rfl
  | p :: L, kvs => by
    show (valV (mergeT (putK kvs (keyP p) (V.bl true)) (tabP L)) (keyP q)).isSome = _
    rw [val_merge q L, valV_put]
    by_cases c : q = p
    · subst c
      rw [if_pos rfl, decide_eq_true (List.mem_cons_self : q ∈ q :: L)]
      simp
    · rw [if_neg (fun z => c (keyP_inj.mp z))]
      have e : decide (q ∈ p :: L) = decide (q ∈ L) := decide_eq_decide.mpr (by rw [List.mem_cons]; exact ⟨fun h => h.resolve_left c, .inr⟩)
      rw [e]
theorem val_known (q : Int × Int) (L : List (Int × Int)) : (valV (mergeT [] (tabP L)) (keyP q)).isSome = decide (q ∈ L) := by
  rw [val_merge, valV_nil]
  simp
theorem Prs.app {H : Hp} {us ws : List V} {L M : List (Int × Int)} (h1 : Prs H us L) (h2 : Prs H ws M) : Prs H (us ++ ws) (L ++ M) := by
  induction h1 with
  | nil => exact h2
  | cons a _ ih => exact .cons a ih
theorem Prs.rev {H : Hp} {vs : List V} {L : List (Int × Int)} (h : Prs H vs L) : Prs H vs.reverse L.reverse := by
  induction h with
  | nil => exact .nil
  | cons a _ ih =>
    rw [List.reverse_cons, List.reverse_cons]
    exact ih.snoc a
theorem alike_prs {n : Nat} {H : Hp} {p q : Addr} {xs ys : List V} {L : List (Int × Int)} (hp : H p = some (.lst xs)) (hq : H q = some (.lst ys)) (h1 : Prs H xs L) (h2 : Prs H ys L) (hl : L.length ≤ 1000) : Alike (n + 2) H (.ref p) (.ref q) := by
  refine alike_lst hp hq (h1.len.trans h2.len.symm) (by rw [h1.len]; exact hl) fun i x y hx hy => ?_
  obtain ⟨a, ha, a1, rfl, z1⟩ := h1.at hx
  obtain ⟨b, hb, b1, rfl, z2⟩ := h2.at hy
  rw [ha] at hb
  cases hb
  exact alike_ints z1 z2
/-- pairs of a key and True, as they lie in the heap -/
def Keyd (H : Hp) (ps : List Addr) (L : List (Int × Int)) : Prop := Paired (fun p kv => ∃ b, H p = some (.tup [.ref b, kv.2]) ∧ H b = some (.tup (kv.1.map kV))) ps (tabP L)
theorem Keyd.snoc {H : Hp} {ps : List Addr} {L : List (Int × Int)} {a b : Addr} {p : Int × Int} (h : Keyd H ps L) (ha : H a = some (.tup [.ref b, .bl true])) (hb : H b = some (.tup [.int p.1, .int p.2])) : Keyd H (ps ++ [a]) (L ++ [p]) := by
  unfold Keyd tabP at *
  rw [List.map_append]
  exact Paired.snoc h ⟨b, ha, hb⟩
end DM

namespace DM
/-! ### a heap of spots, halved: what the stroke passes by is left, the halves stand one behind the other -/
section
variable {x1 y1 x2 y2 lx ly gx gy : Int} {S : List (Int × Int)}
theorem rowof_none (hb : ∀ p ∈ S, (lx ≤ p.1 ∧ p.1 ≤ gx) ∧ ly ≤ p.2 ∧ p.2 ≤ gy) (hx : lx ≤ gx) (hy : ly ≤ gy) (h : passL x1 y1 x2 y2 lx ly gx gy = false) : RowOf x1 y1 x2 y2 (· ∈ S) [] := by
  refine ⟨fun p => ⟨fun z => (nomatch z), fun ⟨a, t⟩ => ?_⟩, .nil⟩
  have b := hb p a
  have e := (passL_iff hx hy).mpr (box_of_thr t b.1.1 b.1.2 b.2.1 b.2.2)
  rw [h] at e
  cases e
theorem rowof_empty : RowOf x1 y1 x2 y2 (· ∈ ([] : List (Int × Int))) [] := ⟨fun _ => ⟨fun z => (nomatch z), fun z => (nomatch z.1)⟩, .nil⟩
theorem all_one {c : Int × Int} : ∀ {S : List (Int × Int)}, S ≠ [] → S.Nodup → (∀ p ∈ S, p = c) → S = [c]
  | [], h, _, _ => (h rfl).elim
  | [a], _, _, h => by rw [h a List.mem_cons_self]
  | a :: b :: _, _, n, h => by
    have e := (List.nodup_cons.mp n).1
    rw [h a List.mem_cons_self, h b (List.mem_cons_of_mem _ List.mem_cons_self)] at e
    exact (e List.mem_cons_self).elim
theorem rowof_one (hS : S ≠ []) (hn : S.Nodup) (hb : ∀ p ∈ S, (lx ≤ p.1 ∧ p.1 ≤ lx) ∧ ly ≤ p.2 ∧ p.2 ≤ ly) (h : passL x1 y1 x2 y2 lx ly lx ly = true) : RowOf x1 y1 x2 y2 (· ∈ S) S := by
  have e := all_one (c := (lx, ly)) hS hn fun p hp => Prod.ext (Int.le_antisymm (hb p hp).1.2 (hb p hp).1.1) (Int.le_antisymm (hb p hp).2.2 (hb p hp).2.1)
  subst e
  refine ⟨fun p => ⟨fun z => ⟨z, ?_⟩, fun z => z.1⟩, List.pairwise_singleton ..⟩
  rw [List.mem_singleton.mp z]
  exact box_thr.mp ((passL_iff (Int.le_refl _) (Int.le_refl _)).mp h)
theorem side_up {p q : Int × Int} (tp : Thr x1 y1 x2 y2 p.1 p.2) (tq : Thr x1 y1 x2 y2 q.1 q.2) (h : p.1 < q.1) (hd : ¬ x2 - x1 < 0) : ahead x1 y1 x2 y2 p q := by
  rcases thr_chain tp tq with z | z | z
  · rw [z] at h
    exact (Int.lt_irrefl _ h).elim
  · exact z
  · have a := z.2.1
    have b := z.2.2.2.1
    by_cases c : x1 = x2
    · have := b c
      omega
    · have := Int.mul_neg_of_neg_of_pos (show p.1 - q.1 < 0 by omega) (show 0 < x2 - x1 by omega)
      omega
theorem side_down {p q : Int × Int} (tp : Thr x1 y1 x2 y2 p.1 p.2) (tq : Thr x1 y1 x2 y2 q.1 q.2) (h : p.1 < q.1) (hd : x2 - x1 < 0) : ahead x1 y1 x2 y2 q p :=
  ahead_rev.mp (side_up (thr_rev tp) (thr_rev tq) h (by omega))
theorem side_up2 {p q : Int × Int} (tp : Thr x1 y1 x2 y2 p.1 p.2) (tq : Thr x1 y1 x2 y2 q.1 q.2) (h : p.2 < q.2) (hd : ¬ y2 - y1 < 0) : ahead x1 y1 x2 y2 p q :=
  ahead_flip.mp (side_up (p := (p.2, p.1)) (q := (q.2, q.1)) (thr_flip tp) (thr_flip tq) h hd)
theorem side_down2 {p q : Int × Int} (tp : Thr x1 y1 x2 y2 p.1 p.2) (tq : Thr x1 y1 x2 y2 q.1 q.2) (h : p.2 < q.2) (hd : y2 - y1 < 0) : ahead x1 y1 x2 y2 q p :=
  ahead_flip.mp (side_down (p := (p.2, p.1)) (q := (q.2, q.1)) (thr_flip tp) (thr_flip tq) h hd)
theorem RowOf.join {U V T : Int × Int → Prop} {A B : List (Int × Int)} (hA : RowOf x1 y1 x2 y2 U A) (hB : RowOf x1 y1 x2 y2 V B) (hS : ∀ p, T p ↔ U p ∨ V p) (h : ∀ p q, U p → V q → Thr x1 y1 x2 y2 p.1 p.2 → Thr x1 y1 x2 y2 q.1 q.2 → ahead x1 y1 x2 y2 p q) : RowOf x1 y1 x2 y2 T (A ++ B) := by
  refine ⟨fun p => ?_, List.pairwise_append.mpr ⟨hA.2, hB.2, fun p hp q hq => ?_⟩⟩
  · rw [List.mem_append, hA.1, hB.1, hS]
    exact ⟨fun z => z.elim (fun z => ⟨.inl z.1, z.2⟩) (fun z => ⟨.inr z.1, z.2⟩), fun ⟨z, t⟩ => z.elim (fun z => .inl ⟨z, t⟩) (fun z => .inr ⟨z, t⟩)⟩
  · have a := (hA.1 p).mp hp
    have b := (hB.1 q).mp hq
    exact h p q a.1 b.1 a.2 b.2
/-- the number of a spot that stands at the side i -/
def at2 (i : Bool) (p : Int × Int) : Int := if i then p.2 else p.1
def lowH (i : Bool) (c : Int) (S : List (Int × Int)) : List (Int × Int) := S.filter fun p => decide (at2 i p ≤ c)
def topH (i : Bool) (c : Int) (S : List (Int × Int)) : List (Int × Int) := S.filter fun p => decide (at2 i p > c)
theorem mem_low {i : Bool} {c : Int} {p : Int × Int} : p ∈ lowH i c S ↔ p ∈ S ∧ at2 i p ≤ c := by unfold lowH; rw [List.mem_filter, decide_eq_true_eq]
theorem mem_top {i : Bool} {c : Int} {p : Int × Int} : p ∈ topH i c S ↔ p ∈ S ∧ c < at2 i p := by unfold topH; rw [List.mem_filter, decide_eq_true_eq]
theorem halves_all {i : Bool} {c : Int} (p : Int × Int) : p ∈ S ↔ p ∈ lowH i c S ∨ p ∈ topH i c S := by
  rw [mem_low, mem_top]
  constructor
  · intro h
    rcases Int.lt_or_le c (at2 i p) with z | z
    · exact .inr ⟨h, z⟩
    · exact .inl ⟨h, z⟩
  · rintro (h | h) <;> exact h.1
theorem side_ahead {i : Bool} {p q : Int × Int} (tp : Thr x1 y1 x2 y2 p.1 p.2) (tq : Thr x1 y1 x2 y2 q.1 q.2) (h : at2 i p < at2 i q) : (¬ at2 i (x2 - x1, y2 - y1) < 0 → ahead x1 y1 x2 y2 p q) ∧ (at2 i (x2 - x1, y2 - y1) < 0 → ahead x1 y1 x2 y2 q p) := by
  cases i
  · exact ⟨side_up tp tq h, side_down tp tq h⟩
  · exact ⟨side_up2 tp tq h, side_down2 tp tq h⟩
theorem rowof_halves {i : Bool} {c : Int} {A B : List (Int × Int)} (hA : RowOf x1 y1 x2 y2 (· ∈ lowH i c S) A) (hB : RowOf x1 y1 x2 y2 (· ∈ topH i c S) B) : RowOf x1 y1 x2 y2 (· ∈ S) (if at2 i (x2 - x1, y2 - y1) < 0 then B ++ A else A ++ B) := by
  split
  · rename_i h
    exact hB.join hA (fun p => (halves_all p).trans Or.comm) fun p q hp hq tp tq => (side_ahead tq tp (Int.lt_of_le_of_lt (mem_low.mp hq).2 (mem_top.mp hp).2)).2 h
  · rename_i h
    exact hA.join hB halves_all fun p q hp hq tp tq => (side_ahead tp tq (Int.lt_of_le_of_lt (mem_low.mp hp).2 (mem_top.mp hq).2)).1 h
/-! ### how deep -/
def Deep (k : Nat) (S : List (Int × Int)) : Prop := ∃ a b : Nat, a + b = k ∧ ∀ p ∈ S, ∀ q ∈ S, p.1 - q.1 < 2 ^ a ∧ p.2 - q.2 < 2 ^ b
theorem deep_top (h : ∀ p ∈ S, (-40 ≤ p.1 ∧ p.1 ≤ 40) ∧ -40 ≤ p.2 ∧ p.2 ≤ 40) : Deep 14 S := ⟨7, 7, rfl, fun p hp q hq => by have := h p hp; have := h q hq; constructor <;> omega⟩
theorem deep_none {k : Nat} (h : Deep k S) (hk : k = 0) {p q : Int × Int} (hp : p ∈ S) (hq : q ∈ S) : p = q := by
  obtain ⟨a, b, e, h⟩ := h
  have ea : a = 0 := by omega
  have eb : b = 0 := by omega
  subst ea eb
  have h1 := h p hp q hq
  have h2 := h q hq p hp
  rw [Int.pow_zero] at h1 h2
  exact Prod.ext (by omega) (by omega)
theorem half_low {d l g : Int} {a : Nat} (h : g - l < 2 ^ (a + 1)) (hd : d ≤ (l + g) / 2) : d - l < 2 ^ a := by
  rw [Int.pow_succ] at h
  generalize (2 : Int) ^ a = w at *
  omega
theorem half_top {d l g : Int} {a : Nat} (h : g - l < 2 ^ (a + 1)) (hd : (l + g) / 2 < d) : g - d < 2 ^ a := by
  rw [Int.pow_succ] at h
  generalize (2 : Int) ^ a = w at *
  omega
/-- halved at the greater side, each half is less deep -/
theorem deep_halves {k : Nat} (h : Deep k S) (hb : ∀ p ∈ S, (lx ≤ p.1 ∧ p.1 ≤ gx) ∧ ly ≤ p.2 ∧ p.2 ≤ gy) (mx : (∃ p ∈ S, p.1 = lx) ∧ ∃ p ∈ S, p.1 = gx) (my : (∃ p ∈ S, p.2 = ly) ∧ ∃ p ∈ S, p.2 = gy) (i : Bool) (hi : at2 i (lx, ly) < at2 i (gx, gy)) : ∃ j, k = j + 1 ∧ Deep j (lowH i ((at2 i (lx, ly) + at2 i (gx, gy)) / 2) S) ∧ Deep j (topH i ((at2 i (lx, ly) + at2 i (gx, gy)) / 2) S) := by
  obtain ⟨a, b, e, h⟩ := h
  obtain ⟨⟨p1, m1, e1⟩, p2, m2, e2⟩ := mx
  obtain ⟨⟨p3, m3, e3⟩, p4, m4, e4⟩ := my
  have d1 := (h p2 m2 p1 m1).1
  have d2 := (h p4 m4 p3 m3).2
  rw [e1, e2] at d1
  rw [e3, e4] at d2
  cases i
  · have hi : lx < gx := hi
    cases a with
    | zero => rw [Int.pow_zero] at d1; omega
    | succ a =>
      refine ⟨a + b, by omega, ⟨a, b, rfl, fun p hp q hq => ?_⟩, ⟨a, b, rfl, fun p hp q hq => ?_⟩⟩
      · have u := mem_low.mp hp
        have v := mem_low.mp hq
        have t := half_low d1 u.2
        have := hb q v.1
        exact ⟨by change p.1 - lx < _ at t; omega, (h p u.1 q v.1).2⟩
      · have u := mem_top.mp hp
        have v := mem_top.mp hq
        have t := half_top d1 v.2
        have := hb p u.1
        exact ⟨by change gx - q.1 < _ at t; omega, (h p u.1 q v.1).2⟩
  · have hi : ly < gy := hi
    cases b with
    | zero => rw [Int.pow_zero] at d2; omega
    | succ b =>
      refine ⟨a + b, by omega, ⟨a, b, rfl, fun p hp q hq => ?_⟩, ⟨a, b, rfl, fun p hp q hq => ?_⟩⟩
      · have u := mem_low.mp hp
        have v := mem_low.mp hq
        have t := half_low d2 u.2
        have := hb q v.1
        exact ⟨(h p u.1 q v.1).1, by change p.2 - ly < _ at t; omega⟩
      · have u := mem_top.mp hp
        have v := mem_top.mp hq
        have t := half_top d2 v.2
        have := hb p u.1
        exact ⟨(h p u.1 q v.1).1, by change gy - q.2 < _ at t; omega⟩
end
end DM

namespace DM
open PySem PySem.Spec PyProof.Rows L2
/-! ### one turn of a comprehension's walk, whatever its element does -/
section
variable {Bx : Cx} {tg : Expr} {Jt : It} {own : List Addr} {ito : Addr} {turns : Nat → Heap → Prop} {g : TG} {tt : TT} {ifs : List Expr} {vs : List Nat} {σ : L2.St} {i : Nat} {H : Hp} {s : Shared} {El : L2.St → Hp → (Hp → Prop) → Prop}
/-- the iterator's objects may turn -/
def OwnOk (Bx : Cx) (own : List Addr) : Prop := ∀ (τ : L2.St) (J : Hp) (r : Shared), Inv Bx [] τ J r → (∀ b ∈ own, J b = none) → ∀ b ∈ own, FpOk Bx [] J b
theorem comp_each {Ec : Value → Shared → Prop} {AW : (Shared → Prop) → Shared → Prop} {R : Shared → Prop} {Nx : Hp → Prop} (Tn : Turn Bx.prog Bx.w Bx.K tg Jt own ito turns) (calm : Bx.calm = true) (quiet : Bx.xe = fun _ _ => False) (aim : PG Bx tg g) (tests : PTs Bx ifs tt) (ow : OwnOk Bx own)
    (I : Inv Bx [] (wipe σ vs) H s) (at0 : turns i s.heap) (no : ∀ b ∈ own, H b = none) (go : Jt.go i H)
    (step : ∀ x J, Jt.yld i H x J → g x (wipe σ vs) J fun σ2 J2 => wipe σ2 vs = wipe σ vs ∧ tt σ2 J2 fun b J3 => if b = true then El σ2 J3 Nx else Nx J3)
    (elm : ∀ (pins : List (Addr × Obj)) (τ : L2.St) (J : Hp) (r : Shared) (R' : Shared → Prop), Inv Bx pins τ J r → El τ J Nx → (∀ r' J', Inv Bx pins τ J' r' → Nx J' → R' r') → AW R' r)
    (fin : ∀ (r : Shared) (J : Hp), Inv Bx [] (wipe σ vs) J r → turns (i + 1) r.heap → (∀ b ∈ own, J b = none) → Nx J → R r) :
    wpAny (model Bx.prog Bx.w) Bx.A (pyNext (.ref ito)) (fun r s1 => ∃ v, r = some v ∧ wpAny (model Bx.prog Bx.w) Bx.A (letOwnedTupleGo tg (.ref ito) v) (fun _ s2 => wpAny (model Bx.prog Bx.w) Bx.A (assign tg Bx.env v) (fun _ s3 =>
      wpAny (model Bx.prog Bx.w) Bx.A (forIn ifs true fun c r => if r = true then do let ok ← isTrue c Bx.env (eval c Bx.env); pure (ForInStep.yield ok) else pure (ForInStep.yield r)) (fun ok s4 =>
        if ok = true then AW R s4 else R s4) Ec s3) Ec s2) Ec s1) Ec s := by
  refine thnF (Tn.item Bx rfl rfl rfl calm i [] s _ H (fun _ _ => False) I (ow _ _ _ I no) at0 go) fun r s1 h1 => ?_
  obtain ⟨v, rfl, h1⟩ := h1
  refine ⟨v, rfl, thnF h1 fun _ s2 h2 => ?_⟩
  obtain ⟨x, J2, I2, r2, y2, at2, no2⟩ := h2
  have held := I2.pinned (ow _ _ _ I2 no2) (Tn.obj _ _ at2)
  have aimed := aim.run _ s2 _ J2 x v _ held r2 (step x J2 y2)
  rw [quiet] at aimed
  refine thnF aimed fun _ s3 h3 => ?_
  obtain ⟨σ3, J3, I3, wiped, q3⟩ := h3
  have tested := tests.run _ s3 σ3 J3 _ I3 q3
  rw [quiet] at tested
  refine thnF tested fun b s4 h4 => ?_
  obtain ⟨J4, I4, q4⟩ := h4
  have last : ∀ {r : Shared} {J : Hp}, Inv Bx ([] ++ pinsAt own s2.heap) σ3 J r → Nx J → R r := fun {r J} Ir nx => by
    have kept : ∀ b ∈ own, ∀ o, s2.heap.get? b = some o → r.heap.get? b = some o ∧ J b = none := fun b hb o e => by
      have z := Ir.pin (b, o) (List.mem_append_right _ (List.mem_append_right _ (mem_pinsAt hb e)))
      exact ⟨z.1, z.2.1⟩
    refine fin r J ((Ir.unpinned (pins := [])).weak (by rw [← wiped, wipe_length]) fun j u e => ?_) (Tn.keep _ _ _ at2 fun b hb o e => (kept b hb o e).1) (fun b hb => ?_) nx
    · rw [← wiped] at e
      exact (wipe_some e).1
    · obtain ⟨o, e, _⟩ := Tn.obj _ _ at2 b hb
      exact (kept b hb o e).2
  cases b with
  | false =>
    rw [if_neg Bool.false_ne_true] at q4 ⊢
    exact last I4 q4
  | true =>
    rw [if_pos rfl] at q4 ⊢
    exact elm _ _ _ _ _ I4 q4 fun r' J' I5 nx => last I5 nx
end
/-! ### a dict comprehension whose keys are tuples -/
theorem dT_set {X : Cx} {pins : List (Addr × Obj)} {σ : L2.St} {H : Hp} {s : Shared} {E : Value → Shared → Prop} {D b : Addr} {kvs : List (List Key × V)} {k : List Key} {v : V} {r : Value} {Q : Unit → Shared → Prop} (hu : X.A.units + 1 < cLine) (I : Inv X pins σ H s) (hD : H D = some (.dT kvs)) (hb : H b = some (.tup (k.map kV))) (hz : kvs.length < sizeLine)
    (rv : RelV v r) (h : ∀ s', Inv X pins σ (upd H D (.dT (putK kvs k v))) s' → Q () s') : wpAny (model X.prog X.w) X.A (dictSet D (.ref b) r) Q E s := by
  obtain ⟨few, notSys, xs, rel, dd⟩ := dt_of I.hok hD
  have fits : (putK kvs k v).length ≤ sizeLine := Nat.le_trans (length_putK kvs k v) hz
  refine wpAny_dictSet_heap (hsz := by rw [← Paired.length rel]; exact few) (show X.A.units < cLine by omega) (key_of I.hok hb) dd fun h' dd' hs => h _ ?_
  obtain ⟨q, es, ep, hq, h2, h3, h4, _, h5⟩ := dd'
  refine d_write I (by rw [hD]; exact True.intro) hs ⟨q, hq⟩ ⟨fits, notSys, _, (rel.put k hb rv).keeps fun c ys ec => ?_, q, es, ep, hq, h2, h3, h4, h5⟩
  rw [upd_ne (ne_of ec hD (fun z => nomatch z))]
  exact ec
section
variable {X : Cx}
/-- {k: v for target in iter if ..}, keys tuples -/
def tDcT (wi : TI) (g : TG) (tt : TT) (tk tv : TE) (vs : List Nat) : TE := fun σ H Q => wi σ H fun J H1 => ∀ D, H1 D = none → ∃ W : Nat → Nat → Hp → Prop, (∃ m, W 0 m (upd H1 D (.dT []))) ∧ ∀ i m H, W i m H →
  (J.stop i H ∧ Q (.ref D) H) ∨ (J.go i H ∧ ∃ Nx : Hp → Prop, (∀ H', Nx H' → ∃ m', m' < m ∧ W (i + 1) m' H') ∧ ∀ x H', J.yld i H x H' → g x (wipe σ vs) H' fun σ2 H2 => wipe σ2 vs = wipe σ vs ∧ tt σ2 H2 fun b H3 =>
    if b = true then tk σ2 H3 fun y H4 => tv σ2 H4 fun z H5 => ∃ kvs k b, y = .ref b ∧ H5 b = some (.tup (k.map kV)) ∧ H5 D = some (.dT kvs) ∧ kvs.length < sizeLine ∧ Nx (upd H5 D (.dT (putK kvs k z))) else Nx H3)
theorem dcT_loop {kx vx tg iter : Expr} {ifs : List Expr} {scope : Scope} {pos : Pos} {g : TG} {tt : TT} {tk tv : TE} {vs : List Nat} {σ : L2.St} {H3 : Hp} {s3 s4 : Shared} {fp : List Addr} {turns : Nat → Heap → Prop} {Jt : It} {ito D : Addr} {cx : Env} {W : Nat → Nat → Hp → Prop} {m0 : Nat} {Q : VK} {pins : List (Addr × Obj)} {Qf : Value → Shared → Prop} {use : Option (Value → Sem Unit)}
    (calm : X.calm = true) (hu : X.A.units + 1 < cLine) (I3 : Inv X pins σ H3 s3) (f3 : ∀ b ∈ fp, FpOk X pins H3 b ∧ b < s3.heap.objs.size) (I4 : Inv (X.blk s3 H3 scope cx fp) [] (wipe σ vs) H3 s4) (locC : cx.locals = s3.heap.objs.size) (Tn : Turn X.prog X.w X.K tg Jt fp ito turns) (at4 : turns 0 s4.heap)
    (aim : PG (X.blk s3 H3 scope cx fp) tg g) (tests : PTs (X.blk s3 H3 scope cx fp) ifs tt) (keyE : PE (X.blk s3 H3 scope cx fp) kx tk) (valE : PE (X.blk s3 H3 scope cx fp) vx tv) (w0 : W 0 m0 H3)
    (each : ∀ i m H, W i m H → (Jt.stop i H ∧ Q (.ref D) H) ∨ (Jt.go i H ∧ ∃ Nx : Hp → Prop, (∀ H', Nx H' → ∃ m', m' < m ∧ W (i + 1) m' H') ∧ ∀ x H', Jt.yld i H x H' → g x (wipe σ vs) H' fun σ2 H2 => wipe σ2 vs = wipe σ vs ∧ tt σ2 H2 fun b H3 =>
      if b = true then tk σ2 H3 fun y H4 => tv σ2 H4 fun z H5 => ∃ kvs k b, y = .ref b ∧ H5 b = some (.tup (k.map kV)) ∧ H5 D = some (.dT kvs) ∧ kvs.length < sizeLine ∧ Nx (upd H5 D (.dT (putK kvs k z))) else Nx H3))
    (after : ∀ (r : Shared) (m : Str → Option Value) (J : Hp), Inv X pins σ J r → Q (.ref D) J → r.heap.Ns s3.heap.objs.size m → FpOk X pins J s3.heap.objs.size → compPost (model X.prog X.w) X.A X.xe use Qf (.ref D) s3.heap.objs.size (.ok .next) r) :
    codeAny (model X.prog X.w) X.A (.compLoop (.DictComp kx vx [⟨tg, iter, ifs, 0⟩] scope pos) 0 (.ref ito) (.ref D) cx) (compPost (model X.prog X.w) X.A X.xe use Qf (.ref D) s3.heap.objs.size) s4 := by
  have ow : OwnOk (X.blk s3 H3 scope cx fp) fp := fun τ J r Ir nJ b hb => ⟨nJ b hb, (Ir.ok.exf b hb).1, Ir.ok.exfs b hb, .inl hb, fun x c e => (Ir.ok.exf b hb).2 x c e, fun p hp => absurd (show p ∈ ([] : List (Addr × Obj)) ++ [] from hp) (by simp)⟩
  refine compLoop_anyD (fun n r => ∃ i J, Inv (X.blk s3 H3 scope cx fp) [] (wipe σ vs) J r ∧ turns i r.heap ∧ (∀ b ∈ fp, J b = none) ∧ W i n J) ?_ m0 ⟨0, H3, I4, at4, fun b hb => (f3 b hb).1.1, w0⟩
  rintro n r ⟨i, J, Ir, atr, nor, wr⟩
  rcases each i n J wr with ⟨halt, fine⟩ | ⟨go, Nx, next, act⟩
  · refine thnF (Tn.done (X.blk s3 H3 scope cx fp) rfl rfl rfl calm i [] r _ J (fun _ _ => False) Ir (ow _ _ _ Ir nor) atr halt) fun o r2 h2 => ?_
    obtain ⟨rfl, I6⟩ := h2
    have back : Inv X pins σ J r2 := I3.call' (ch := fp) I6.os I6.base I6.hok I6.bare fun b hb => ⟨(f3 b hb).1.2.2.2.1, (f3 b hb).1.2.1, (f3 b hb).1.2.2.2.2.1, (f3 b hb).1.2.2.2.2.2⟩
    have noC : J s3.heap.objs.size = none := by rw [← locC]; exact I6.free
    obtain ⟨m, hn, _⟩ := I6.loc
    exact after r2 m J back fine (by rw [← locC]; exact hn) (I3.fpOk (Nat.le_refl _) noC)
  · have one := comp_each (Ec := notedBy (model X.prog X.w) X.A cx fun e s' => compPost (model X.prog X.w) X.A X.xe use Qf (.ref D) s3.heap.objs.size (.error e) s') (Bx := X.blk s3 H3 scope cx fp) (vs := vs) (σ := σ) (Nx := Nx) (R := fun r => ∃ m, m < n ∧ ∃ i J, Inv (X.blk s3 H3 scope cx fp) [] (wipe σ vs) J r ∧ turns i r.heap ∧ (∀ b ∈ fp, J b = none) ∧ W i m J)
      (El := fun σ2 H3 Nx => tk σ2 H3 fun y H4 => tv σ2 H4 fun z H5 => ∃ kvs k b, y = .ref b ∧ H5 b = some (.tup (k.map kV)) ∧ H5 D = some (.dT kvs) ∧ kvs.length < sizeLine ∧ Nx (upd H5 D (.dT (putK kvs k z))))
      (AW := fun R' r => wpAny (model X.prog X.w) X.A (eval kx cx) (fun kv r1 => wpAny (model X.prog X.w) X.A (eval vx cx) (fun vv r2 => wpAny (model X.prog X.w) X.A (dictSet D kv vv) (fun _ r3 => R' r3) (notedBy (model X.prog X.w) X.A cx fun e s' => compPost (model X.prog X.w) X.A X.xe use Qf (.ref D) s3.heap.objs.size (.error e) s') r2) (notedBy (model X.prog X.w) X.A cx fun e s' => compPost (model X.prog X.w) X.A X.xe use Qf (.ref D) s3.heap.objs.size (.error e) s') r1) (notedBy (model X.prog X.w) X.A cx fun e s' => compPost (model X.prog X.w) X.A X.xe use Qf (.ref D) s3.heap.objs.size (.error e) s') r)
      Tn calm rfl aim tests ow Ir atr nor go act (fun pins τ J r R' Ir2 el out => ?_) (fun r J Ir2 at2 no2 nx => ?_)
    · refine thn one fun o r2 h2 => ?_
      obtain ⟨v, rfl, h2⟩ := h2
      refine thn h2 fun _ r3 h3 => thn h3 fun _ r4 h4 => thn h4 fun ok r5 h5 => ?_
      cases ok with
      | false => exact h5
      | true => exact h5
    · refine thnF (keyE.run pins r τ J _ Ir2 el) fun kv r1 h1 => ?_
      obtain ⟨y, J1, I1, ry, h1⟩ := h1
      refine thnF (valE.run pins r1 τ J1 _ I1 h1) fun vv r2 h2 => ?_
      obtain ⟨z, J2, I2, rz, kvs, k, b, rfl, hb, hD, few, nx⟩ := h2
      obtain rfl : kv = Value.ref b := ry
      exact dT_set (X := X.blk s3 H3 scope cx fp) hu I2 hD hb few rz fun r3 I5 => out r3 _ I5 nx
    · obtain ⟨m, less, w'⟩ := next J nx
      exact ⟨m, less, i + 1, J, Ir2, at2, no2, w'⟩
theorem pe_dcT {kx vx tg iter : Expr} {ifs : List Expr} {scope : Scope} {own : List (Str × Nat)} {pos : Pos} {wi : TI} {g : TG} {tt : TT} {tk tv : TE} (calm : X.calm = true) (hu : X.A.units + 1 < cLine) (ndN : X.N.Nodup) (walks : PI X tg iter wi) (bl : BlkOk X.N X.env.scope scope own)
    (aim : ∀ (s : Shared) (H : Hp) (C : Addr) (cl : List (Str × Addr)) (fp : List Addr), PG (X.blk s H scope (compEnvC scope cl C X.env) fp) tg g) (tests : ∀ (s : Shared) (H : Hp) (C : Addr) (cl : List (Str × Addr)) (fp : List Addr), PTs (X.blk s H scope (compEnvC scope cl C X.env) fp) ifs tt)
    (keyE : ∀ (s : Shared) (H : Hp) (C : Addr) (cl : List (Str × Addr)) (fp : List Addr), PE (X.blk s H scope (compEnvC scope cl C X.env) fp) kx tk) (valE : ∀ (s : Shared) (H : Hp) (C : Addr) (cl : List (Str × Addr)) (fp : List Addr), PE (X.blk s H scope (compEnvC scope cl C X.env) fp) vx tv)
    (plain : ∀ x, foldedSetIterable iter X.env x = pure x := by intro _; rfl) :
    PE X (.DictComp kx vx [⟨tg, iter, ifs, 0⟩] scope pos) (tDcT wi g tt tk tv (own.map (·.2))) := by
  refine ⟨fun pins s σ H Q I want => ?_⟩
  rw [arm_eval_DictComp]
  have frees : ∀ y ∈ scope.names, y.2 = .free → ∃ c, X.env.cells.lookup y.1 = some c := fun y hy e => (bl.free y hy e).elim (fun k => I.ok.has _ (.inl k)) fun k => I.ok.has _ (.inr k)
  refine wpAny_comprehension_free rfl plain (closure_ok frees) bl.kind (fun y hy e => by rw [bl.uniq y hy, e]) (thn (walks.run pins s σ H _ I want) fun xv s1 h1 => thn h1 fun itv s2 h2 => ?_)
  obtain ⟨ito, fp, turns, Jt, H2, rfl, I2, Tn, at2, f2, each⟩ := h2
  refine wpAny_newObj_type (newEnv_comp ?_)
  obtain ⟨W, ⟨m0, w0⟩, each⟩ := each s2.heap.objs.size (I2.hok.fresh (Nat.le_refl _))
  have I3 : Inv X pins σ (upd H2 s2.heap.objs.size (.dT [])) { s2 with heap := s2.heap.push { cls := .type "dict", data := .dict #[] }, toks := s2.toks } := I2.laid (fun b o e => Heap.get?_push_of_some _ e) (Nat.le_refl _) (dt_empty s2.heap I2.big)
  have f3 : ∀ b ∈ fp, FpOk X pins (upd H2 s2.heap.objs.size (.dT [])) b ∧ b < (s2.heap.push { cls := .type "dict", data := .dict #[] }).objs.size := fun b hb => by
    obtain ⟨o, e, _⟩ := Tn.obj _ _ at2 b hb
    have less := Heap.lt_size e
    exact ⟨⟨by rw [upd_ne (Nat.ne_of_lt less)]; exact (f2 b hb).1, (f2 b hb).2⟩, by rw [Heap.size_push]; exact Nat.lt_succ_of_lt less⟩
  have at3 : turns 0 (s2.heap.push { cls := .type "dict", data := .dict #[] }) := Tn.keep _ _ _ at2 fun b _ o e => Heap.get?_push_of_some _ e
  have I4 := block_start I3 bl ndN f3
  have at4 : turns 0 (pushCells ((s2.heap.push { cls := .type "dict", data := .dict #[] }).push { cls := .type "dict", data := .dict #[] }) scope.names) := Tn.keep _ _ _ at3 fun b _ o e => pushCells_keeps _ _ _ _ (Heap.get?_push_of_some _ e)
  have going := dcT_loop (kx := kx) (vx := vx) (iter := iter) (ifs := ifs) (pos := pos) (use := none) (Qf := EP X pins σ Q) calm hu I3 f3 I4 rfl Tn at4 (aim _ _ _ _ _) (tests _ _ _ _ _) (keyE _ _ _ _ _) (valE _ _ _ _ _) w0 each fun r m J Ir fine hn fo => ⟨m, hn, fun h'' sb => ?_⟩
  · exact codeAny_compStart_dict going (Tn.self X.A 0 _ _ _ at4 going)
  · obtain ⟨o0, o1, o2, o3, o4, o5⟩ := fo
    exact ⟨.ref _, J, Ir.turned (t' := r.toks) (fun b o hb e => (sb.2 b hb).trans e) o0 o1 o3 o4 o5, rfl, fine⟩
end
end DM

namespace DM
open PySem L2
section
variable {X : Cx}
/-! ### C.m(e, ..), m a plain def of the class at C -/
theorem pe_clsfn {CX : CXT} {k k' : Nat} {x m : Str} {C g : Addr} {mc : Value} {fd : FuncData} {ps : List Str} {sp : Sp} {ds : List Value} {dvs : List V} {E : XK} {e : Expr} {es : List Expr} {t : TA} {np apos pos : Pos} {pl : Sem Bool}
    (r : ClX.CRead X.K C mc) (fc : PySem.W.findCls X.K (.ref C) mc m = some (.val (.ref g))) (hm : X.mg x = some (.ref C)) (F : FnOk X.prog X.w X.K X.mg X.base CX k g fd ps sp) (hr : Room k' X.A) (kg : PySem.W.keepIn X.K (.ref g) = true) (hb : Binds X.K fd ps ds) (hd : Vals dvs ds) (hx : Passes CX X E) (ha : PA X (e :: es) t)
    (hkk : k ≤ k' := by decide) (hg : Gl X x := by rfl) (hdb : (x == ("__debug__" : Str)) = false := by decide) (hst : starEach (e :: es) X.env = (false, eval e X.env) :: starEach es X.env := by rfl) (hno : (backTo pos (starEach es X.env)).any (·.1) = false := by rfl)
    (hev : eval (.Call (.Attribute (.Name x np) m apos) (e :: es) [] pos) X.env = (do let c0 ← eval (.Name x np) X.env; standAt apos.atName; let (f0, at0) ← holding [c0] (getMethod c0 m pl); callWith pos f0 at0 (backTo pos (starEach (e :: es) X.env)) (backToKw pos (keywordEach [] X.env))) := by rfl) :
    PE X (.Call (.Attribute (.Name x np) m apos) (e :: es) [] pos) (tCall sp dvs E t) := by
  refine ⟨fun pins s0 σ0 H0 Q0 I0 want => PySem.W.methodCall_KW (pl := pl) (ld_glob I0 hg hm ?_ hdb) hev⟩
  refine PySem.W.method_cls I0.kIn r.ga (PySem.W.cls_value I0.kIn r.rd fc rfl ?_)
  refine PySem.W.callWith_K (first := []) (h₀ := X.base) I0.ok.mod.kin kg (thn (ha.run pos pins _ σ0 H0 _ (I0.tok _) want) fun us s2 got => ?_) hst hno
  obtain ⟨vs, H2, I2, rv, next⟩ := got
  exact ⟨I2.kIn, run_fn F (hr.mono hkk) hb hd hx I2 rv next⟩
/-! ### C(), C an own error class whose __init__ takes nothing else -/
theorem pmk_oex0 {CX : CXT} {x : Str} {C fI : Addr} {k k' : Nat} {fd : FuncData} {ps : List Str} {sp : Sp} {p pos : Pos} (T : OexC X.K C) (iC : PySem.W.findIn X.K (.ref C) "__init__" = some (some (.ref fI))) (tI : PySem.W.typeIn X.K (.ref fI) = some (.type "function"))
    (Fi : FnOk X.prog X.w X.K X.mg X.base CX k fI fd ps sp) (hr : Room k' X.A) (hb : Binds X.K fd ps []) (hx : Passes CX X E0) (hm : X.mg x = some (.ref C)) (hkk : k + 1 ≤ k' := by decide) (hg : Gl X x := by rfl) (hdb : (x == ("__debug__" : Str)) = false := by decide) :
    PMk X (.Call (.Name x p) [] [] pos) (tMkO C sp [] tNil) := by
  intro pins s0 σ0 H0 Q0 I0 want
  obtain ⟨hz, want⟩ := want
  have T' := T
  obtain ⟨nm, q0, N0, bs, bm, sn, sb, ab, co, dd, j0, j1, j2, j3, j5, lookC, okm⟩ := T'.cls
  refine wpAny_Call_Name_kw (ld_glob I0 hg hm ?_ hdb)
  refine PySem.W.callWith_K0 (first := []) I0.kIn T.kC ?_
  show wpAny _ _ (call (.ref C) []) _ _ _
  obtain ⟨hp, gn, dr, tk, os⟩ := s0
  -- the empty tuple of its arguments, then the error itself
  let h1 : Heap := (hp.push (PySem.W.kdv_tup [])).push (PySem.HandSPX.excO C hp.objs.size)
  let at1 : Addr := hp.objs.size + 1
  have big : hp.objs.size ≤ at1 := Nat.le_succ _
  have new1 : H0 at1 = none := I0.hok.fresh big
  have stay : ∀ b o, hp.get? b = some o → h1.get? b = some o := fun b o z => Heap.get?_push_of_some _ (Heap.get?_push_of_some _ z)
  have here : h1.get? at1 = some (PySem.HandSPX.excO C hp.objs.size) := by
    show ((hp.push (PySem.W.kdv_tup [])).push (PySem.HandSPX.excO C hp.objs.size)).get? (hp.objs.size + 1) = _
    heap_get
  have I1 : Inv X pins σ0 (upd H0 at1 (exo at1 C none)) ⟨h1, gn, dr, tk, os⟩ := I0.laid (t' := tk) (a := at1) (o := exo at1 C none) (h' := h1) stay big (exo_ok here)
  have args : Vals [V.ref at1] [Value.ref at1] := .cons rfl .nil
  have want1 := want at1 new1
  have many : ([Value.ref at1] ++ ([] : List Value)).length = ps.length := by
    have z : ([V.ref at1] : List V).length = ps.length := Fi.len _ _ _ _ want1
    exact z
  have bound := hb ⟨h1, gn, dr, tk, os⟩ [Value.ref at1] I1.kIn many
  rw [List.append_nil] at bound
  refine wpAny_call (PySem.HandSPX.call_own F.excBase_ValueError (fun Y => PySem.HandSPX.refsVE_contains Y bm okm) (I0.kIn _ _ lookC) (PySem.W.looks_findIn I0.kIn iC) (fun self => PySem.W.bind_fn I0.kIn self tI) (by show 0 ≤ sizeLine; decide) ?_)
  refine codeAny_mono (Fi.run _ X.stack _ _ ⟨[Value.ref at1], []⟩ [Value.ref at1] _ _ E0 ((hr.mono hkk).make C [] []) (I1.env0.make C [] []) bound args want1) fun res s2 got => ?_
  cases res with
  | error er => exact hx pins σ0 _ _ er s2 I1 got
  | ok fl =>
    cases fl with
    | ret u =>
      obtain ⟨v, H2, os2, bare2, un2, hok2, rv, ev, d, fs, ea, ed, nd, last⟩ := got
      subst ev
      obtain ⟨hp2, gn2, dr2, tk2, os3⟩ := s2
      exact ⟨rv, mk_end (raises_own T.exC T.tyC) I0 big stay un2 hok2 os2 bare2 ea ed nd last⟩
    | next => exact False.elim got
    | brk => exact False.elim got
    | cont => exact False.elim got
/-! ### isinstance(e, c), e the caught error with its dict -/
structure IsEC (K : PySem.W.Frag) (D : Addr) : Prop where
  cl : (PySem.W.clsIn K D).isSome = true
  ga : PySem.W.findIn K (.ref D) "__getattribute__" = some (some (.builtin "BaseException.__getattribute__"))
  gg : PySem.W.findIn K (.ref D) "__getattr__" = some none
  su : PySem.W.subIn K (.ref D) (.type "BaseException") = some true
  cs : PySem.W.findIn K (.ref D) "__class__" = some (some (.builtin "object.__class__"))
  sp : PySem.W.specialIn K (.builtin "object.__class__") "__get__" = some (some (.builtin "getset_descriptor.__get__"))
  tk : PySem.W.takesIn K (.builtin "object.__class__") = some true
  mr : PySem.W.mroIn K D (.type "object") = some true
def rIsED (K : PySem.W.Frag) (a : Addr) (cls : Value) (d : Option Addr) (D : Addr) : List V → Hp → VK → Prop := fun xs H Q => ∃ (c : V) (cv : Value) (b : Bool) (dd : Addr) (fs : List (Str × V)), cls = .ref D ∧ d = some dd ∧ H dd = some (.xd fs) ∧ xs = [.ref a, c] ∧ ClsV c cv ∧ PySem.W.kitOne K (.ref D) cv = some b ∧ Q (.bl b) H
theorem call_isED {a D : Addr} {oe : Obj} {cls : Value} {d : Option Addr} {pn : List (Addr × Obj)} (T : IsEC X.K D) (hz : Zc cls d oe) (hf : ∃ vs, oe.data = .fields vs) : CallR (X.suite a ((a, oe) :: pn)) (.builtin "isinstance") (rIsED X.K a cls d D) := by
  intro pins s0 σ0 H0 xs us Q0 I0 rel want
  obtain ⟨c, cv, b, dd, fs, rfl, rfl, hdd, rfl, kc, kit, last⟩ := want
  obtain ⟨u1, u2, rfl, r1, r2⟩ := vals2 rel
  cases (show u1 = Value.ref a from r1)
  cases kc.eq r2
  have pinned := (I0.pin (a, oe) (List.mem_append_left _ List.mem_cons_self)).1
  obtain ⟨vs, dat⟩ := hf
  obtain ⟨mA, hns, _⟩ := (show ObjOk X.prog X.w H0 s0.heap dd (.xd fs) from I0.hok dd _ hdd)
  obtain ⟨od, hod, _⟩ := lookIn_ns hns
  have J : PySem.W.InstAt s0.heap a oe D (some od) := ⟨pinned, hz.1, by unfold PySem.W.notCls; rw [dat], by rw [hz.2]; exact hod⟩
  exact PySem.W.kia_one (PySem.W.kitx_exc T.cl T.ga T.gg T.su T.cs T.sp T.tk T.mr) I0.kIn J kit (fun z => nomatch z) fun tk => ⟨.bl b, H0, I0.tok tk, rfl, last⟩
end
theorem kit_own {K : PySem.W.Frag} {t : Value} {C : Addr} {b : Bool} (hc : PySem.W.isClsIn K C = true) (ht : PySem.W.typeIn K (.ref C) = some (.type "type")) (hs : PySem.W.subIn K t (.ref C) = some b) : PySem.W.kitCls K t (.ref C) = some b := by
  have z : ((PySem.W.clsIn K C).isSome && PySem.W.typeIn K (.ref C) == some (.type "type")) = true := by
    rw [show (PySem.W.clsIn K C).isSome = true from hc, ht]; rfl
  exact (if_pos z).trans hs
theorem kit_blt {K : PySem.W.Frag} {t : Value} {T : String} {b : Bool} (hm : PySem.W.kitMeta T = true) (hs : PySem.W.subIn K t (.type T) = some b) : PySem.W.kitCls K t (.type T) = some b := (if_pos hm).trans hs
end DM

namespace DM
open PySem PySem.Spec PyProof.Rows L2
section
variable {X : Cx}
theorem ints_shown {prog : Program} {w : World} : ∀ {l : List Int} {its : List Value}, Vals (l.map V.int) its → (∀ i ∈ l, i.natAbs.log2 < 1920) → ReprAll prog w its (l.map fun i => (Str.ofString (toString i)))
  | [], _, r, _ => by
    cases r
    exact .nil
  | i :: l, _, r, h => by
    cases r with
    | cons r1 r2 =>
      obtain ⟨t, rfl⟩ := r1
      exact .cons (ReprIs.int t (h i List.mem_cons_self)) (ints_shown r2 fun z hz => h z (List.mem_cons_of_mem _ hz))
theorem ints_piled : ∀ l : List Int, (∀ i ∈ l, i.natAbs.log2 < 1920) → piled (l.map fun i => (Str.ofString (toString i))) ≤ 1923 * l.length
  | [], _ => Nat.zero_le _
  | i :: l, h => by
    have h1 := int_text_length_le (a := i) (k := 1920) (by decide) (h i List.mem_cons_self)
    have h2 := ints_piled l fun z hz => h z (List.mem_cons_of_mem _ hz)
    rw [List.map_cons, piled_cons, PySem.ofString_length, List.length_cons]
    omega
/-- {t}, t a tuple of numbers: some text -/
def tFmtI (K : PySem.W.Frag) (te : TE) : TE := fun σ H Q => te σ H fun x H1 => ∃ (a : Addr) (l : List Int), x = .ref a ∧ SqT K H1 a (l.map V.int) ∧ (∀ i ∈ l, i.natAbs.log2 < 1920) ∧ l.length ≤ 100 ∧ ∀ m : Str, m.length ≤ 200000 → Q (.str m) H1
theorem pe_fmtI {e : Expr} {te : TE} {pos : Pos} {k : Nat} (hr : Room k X.A) (he : PE X e te) : PE X (.FormattedValue e (-1) none pos) (tFmtI X.K te) := by
  refine ⟨fun pz sz tz Jz Qz Iz want => wpAny_FormattedValue_plain (thn (he.run pz sz tz Jz _ Iz want) fun u s2 got => ?_)⟩
  obtain ⟨x, J2, I2, rx, a, l, rfl, isT, small, h100, last⟩ := got
  cases rx
  obtain ⟨its, rv, ⟨ob, at1, cl1, n, dat1⟩, _⟩ := I2.tuple isT
  have hp := ints_piled l small
  have htx := fmt_text (l.map fun i => (Str.ofString (toString i)))
  have hu := hr.units
  have hz : (200000 : Nat) ≤ sizeLine := by decide
  exact fmt_tuple (ts := l.map fun i => (Str.ofString (toString i))) (by omega) at1 cl1 dat1 (ints_shown rv small) (by omega) fun m u tk hm => ⟨.str m, J2, I2.tok _, ⟨u, rfl⟩, last m (by omega)⟩
end
/-! ### errors with one field -/
structure ErrF (K : PySem.W.Frag) (mg : Str → Option Value) (nm fld : Str) (C D fB fD : Addr) : Prop where
  gC : mg nm = some (.ref C)
  gD : mg "DotError" = some (.ref D)
  oex : OexC K C
  iC : PySem.W.findIn K (.ref C) "__init__" = some (some (.ref fB))
  tI : PySem.W.typeIn K (.ref fB) = some (.type "function")
  rd : ClX.CRead K D (.type "type")
  fc : PySem.W.findCls K (.ref D) (.type "type") "__init__" = some (.val (.ref fD))
  vV : PySem.W.findCls K (.type "ValueError") (.type "type") "__init__" = some (.val (.builtin "ValueError.__init__"))
  noW : PySem.W.findIn K (.ref C) "word" = some none
  noF : PySem.W.findIn K (.ref C) fld = some none
  xf : XfC K C
  nV : mg "ValueError" = none
def spDeF (C : Addr) : Sp := fun vs H Q _ => ∃ (a : Addr) (w m : Str), vs = [.ref a, .str w, .str m] ∧ H a = some (exo a C none) ∧ ∀ dx, H dx = none → dx ≠ a → Q .non (upd (upd H dx (exd dx [("word", .str w)])) a (exo a C (some dx)))
/-- __init__(self, x): the dict holds the word and x -/
def spIn (C : Addr) (nm fld : Str) : Sp := fun vs H Q _ => ∃ (a p : Addr) (l : List Int), vs = [.ref a, .ref p] ∧ H a = some (exo a C none) ∧ H p = some (.tup (l.map V.int)) ∧ (∀ i ∈ l, i.natAbs.log2 < 1920) ∧ l.length ≤ 100 ∧ ∀ dx, H dx = none → dx ≠ a → Q .non (upd (upd (upd H dx (exd dx [("word", .str nm)])) a (exo a C (some dx))) dx (exd dx [(fld, .ref p), ("word", .str nm)]))
end DM

namespace DM
open PySem L2
/-! ### the program's own halving -/
def spHalved : Nat → Sp
  | 0 => fun _ _ _ _ => False
  | k + 1 => fun vs H Q _ => ∃ (p l : Addr) (x1 y1 x2 y2 : Int) (xs : List V) (o : HO) (S : List (Int × Int)), vs = [.ref p, .ref l] ∧ Stk H p x1 y1 x2 y2 ∧ SeqO xs o ∧ H l = some o ∧ Prs H xs S ∧ S.Nodup ∧ S.length ≤ 1000 ∧ Deep k S ∧
    ∀ (r : Addr) (H' : Hp) (ys : List V) (L : List (Int × Int)), Same H H' → H r = none → H' r = some (.lst ys) → Prs H' ys L → RowOf x1 y1 x2 y2 (· ∈ S) L → Q (.ref r) H'
section
variable {P : Program} {w : World} {K : PySem.W.Frag} {mg : Str → Option Value} {base : Heap} {f : Addr} {fd : FuncData}
abbrev s_halved : Stmt := top 21
theorem sc_halved : FnScope ["stroke", "spots", "across", "up", "x", "y", "least", "greatest", "side", "middle", "lower", "spot", "upper"] ["stroke", "spots"] (defScope s_halved) := ⟨rfl, rfl, rfl, by decide +kernel, rfl, by decide +kernel, by decide +kernel⟩
theorem ok_halvedS {k : Nat} (B : Blt mg) (c_passes : Cal P w K mg base 2 "passes" ["stroke", "least", "greatest"] spPasses) (c_heading : Cal P w K mg base 2 "heading" ["stroke"] spHeading) (c_halved : Cal P w K mg base (k + 2) "halved" ["stroke", "spots"] (spHalved k)) (F : Fun K "halved" "halved" s_halved f fd) : FnOk P w K mg base CX0 (k + 3) f fd ["stroke", "spots"] (spHalved (k + 1)) := by
  refine F.ok sc_halved (fun vs H Q E h => ?_) (fun cdv A outer s H vs Q E hr h => ?_)
  · obtain ⟨p, l, x1, y1, x2, y2, xs, o, S, rfl, _⟩ := h
    rfl
  obtain ⟨p, l, x1, y1, x2, y2, xs, o, S, rfl, hst, so, hl, hP, nd, hS, dS, q⟩ := h
  refine ⟨_, (pss_cons (ps_if (pt_cmpR op_eq (pe_callB call_len_seq rfl B.len bt_len (pa_cons (pv 1) pa_nil)) pe_int (nomark _))
    (pss_one (ps_ret (pe_lst pa_nil)))
    pss_nil)
    (pss_cons (ps_par (i := 2) (j := 3) (by rfl) sc_halved.nd rfl rfl (by decide) rfl rfl (pa_cons (pe_lc (own := [("x", 4), ("y", 5)]) (g := gTup K 2 (gCons (gName 4) (gCons (gName 5) gNil))) (tt := tYes) rfl sc_halved.nd (pi_sq (pv 1)) (blkOk_by (own := [("x", 4), ("y", 5)]) (N := ["stroke", "spots", "across", "up", "x", "y", "least", "greatest", "side", "middle", "lower", "spot", "upper"]) (sc := defScope s_halved) (by decide +kernel)) (fun _ _ _ _ _ => pg_tup rfl (pgs_cons (pg_name (i := 4) sc_halved.nd rfl (Or.inl rfl)) (pgs_cons (pg_name (i := 5) sc_halved.nd rfl (Or.inl rfl)) pgs_nil))) (fun _ _ _ _ _ => pts_nil) (fun _ _ _ _ _ => (pv 4))) (pa_cons (pe_lc (own := [("x", 4), ("y", 5)]) (g := gTup K 2 (gCons (gName 4) (gCons (gName 5) gNil))) (tt := tYes) rfl sc_halved.nd (pi_sq (pv 1)) (blkOk_by (own := [("x", 4), ("y", 5)]) (N := ["stroke", "spots", "across", "up", "x", "y", "least", "greatest", "side", "middle", "lower", "spot", "upper"]) (sc := defScope s_halved) (by decide +kernel)) (fun _ _ _ _ _ => pg_tup rfl (pgs_cons (pg_name (i := 4) sc_halved.nd rfl (Or.inl rfl)) (pgs_cons (pg_name (i := 5) sc_halved.nd rfl (Or.inl rfl)) pgs_nil))) (fun _ _ _ _ _ => pts_nil) (fun _ _ _ _ _ => (pv 5))) pa_nil)) (by rfl))
    (pss_cons (ps_par (i := 6) (j := 7) (by rfl) sc_halved.nd rfl rfl (by decide) rfl rfl (pa_cons (pe_tup (pa_cons (pe_callB (cr_min rfl) rfl B.min bt_min (pa_cons (pv 2) pa_nil)) (pa_cons (pe_callB (cr_min rfl) rfl B.min bt_min (pa_cons (pv 3) pa_nil)) pa_nil))) (pa_cons (pe_tup (pa_cons (pe_callB (cr_max rfl) rfl B.max bt_max (pa_cons (pv 2) pa_nil)) (pa_cons (pe_callB (cr_max rfl) rfl B.max bt_max (pa_cons (pv 3) pa_nil)) pa_nil))) pa_nil)) (by rfl))
    (pss_cons (ps_if (pt_not (pt_val (pe_cal (hk := by omega) c_passes hr (pa_cons (pv 0) (pa_cons (pv 6) (pa_cons (pv 7) pa_nil))))))
    (pss_one (ps_ret (pe_lst pa_nil)))
    pss_nil)
    (pss_cons (ps_if (pt_cmpR (op_eqD hr.units) (pv 6) (pv 7) (nomark _))
    (pss_one (ps_ret (pe_callTy call_list_of rfl B.list bt_list (pa_cons (pv 1) pa_nil))))
    pss_nil)
    (pss_cons (ps_set (i := 8) sc_halved.nd rfl (Or.inr rfl) (pe_ifExp (pt_cmpR op_ge (pe_op op_sub (pe_ix ix_tup (pv 7) pe_int (fun _ _ => rfl)) (pe_ix ix_tup (pv 6) pe_int (fun _ _ => rfl))) (pe_op op_sub (pe_ix ix_tup (pv 7) pe_int (fun _ _ => rfl)) (pe_ix ix_tup (pv 6) pe_int (fun _ _ => rfl))) (nomark _)) pe_int pe_int))
    (pss_cons (ps_set (i := 9) sc_halved.nd rfl (Or.inr rfl) (pe_op op_fdiv (pe_op op_add (pe_ix ix_tup (pv 6) (pv 8) (fun _ _ => rfl)) (pe_ix ix_tup (pv 7) (pv 8) (fun _ _ => rfl))) pe_int))
    (pss_cons (ps_set (i := 10) sc_halved.nd rfl (Or.inl rfl) (pe_cal (hk := by omega) c_halved hr (pa_cons (pv 0) (pa_cons (pe_lc (own := [("spot", 11)]) (g := gName 11) (tt := _) rfl sc_halved.nd (pi_sq (pv 1)) (blkOk_by (own := [("spot", 11)]) (N := ["stroke", "spots", "across", "up", "x", "y", "least", "greatest", "side", "middle", "lower", "spot", "upper"]) (sc := defScope s_halved) (by decide +kernel)) (fun _ _ _ _ _ => pg_name (i := 11) sc_halved.nd rfl (Or.inl rfl)) (fun _ _ _ _ _ => (pts_one (pt_cmpR op_le (pe_ix (r := rIxT K) ix_tup (pv 11) (pv 8) (fun _ _ => rfl)) (pv 9) (nomark _)))) (fun _ _ _ _ _ => (pv 11))) pa_nil))))
    (pss_cons (ps_set (i := 12) sc_halved.nd rfl (Or.inl rfl) (pe_cal (hk := by omega) c_halved hr (pa_cons (pv 0) (pa_cons (pe_lc (own := [("spot", 11)]) (g := gName 11) (tt := _) rfl sc_halved.nd (pi_sq (pv 1)) (blkOk_by (own := [("spot", 11)]) (N := ["stroke", "spots", "across", "up", "x", "y", "least", "greatest", "side", "middle", "lower", "spot", "upper"]) (sc := defScope s_halved) (by decide +kernel)) (fun _ _ _ _ _ => pg_name (i := 11) sc_halved.nd rfl (Or.inl rfl)) (fun _ _ _ _ _ => (pts_one (pt_cmpR op_gt (pe_ix (r := rIxT K) ix_tup (pv 11) (pv 8) (fun _ _ => rfl)) (pv 9) (nomark _)))) (fun _ _ _ _ _ => (pv 11))) pa_nil))))
    (pss_one (ps_ret (pe_ifExp (pt_cmpR op_lt (pe_ix ix_tup (pe_cal (hk := by omega) c_heading hr (pa_cons (pv 0) pa_nil)) (pv 8) (fun _ _ => rfl)) pe_int (nomark _)) (pe_op op_cat (pv 12) (pv 10)) (pe_op op_cat (pv 10) (pv 12)))))))))))))), ?_⟩
  have xl := hP.len
  refine ⟨_, rfl, l, xs, rfl, so.sq hl, rfl, _, rfl, ?_⟩
  by_cases c0 : xs.length = 0
  · refine iteDT (congrArg V.int (by omega)) ?_
    refine ⟨sz (by decide : 0 ≤ 100000), fun r nr => ?_⟩
    have eS : S = [] := List.length_eq_zero_iff.mp (by omega)
    subst eS
    exact q r _ [] [] (same_new nr _) nr upd_same .nil rowof_empty
  refine iteDF (fun z => c0 (by have := V.int.inj z; omega)) ?_
  dsimp only [tNext]
  refine seq_with (fun σ' H' => ∃ d1 d2 : Addr, σ' = [some (.ref p), some (.ref l), some (.ref d1), some (.ref d2), none, none, none, none, none, none, none, none, none] ∧ Same H H' ∧ H' d1 = some (.lst ((S.map Prod.fst).map V.int)) ∧ H' d2 = some (.lst ((S.map Prod.snd).map V.int))) (fun R hR => ?_) ?_
  · refine ⟨_, rfl, l, rfl, ?_⟩
    refine isq_in (K := K) so hl ?_
    intro J w d1 n1
    refine lc_any w (fun i H' => Same H H' ∧ H' d1 = some (.lst (((S.map Prod.fst).take i).map V.int))) ?_ ?_ ?_ ?_
    · exact ⟨same_new n1 _, upd_same⟩
    · rintro i H' _ ⟨e, _⟩
      exact e _ _ hl
    · rintro i x H' hx ⟨e, hd⟩
      obtain ⟨a, ha, ap, rfl, hap⟩ := hP.at hx
      have ha' : (S.map Prod.fst)[i]? = some a.1 := by rw [List.getElem?_map, ha]; rfl
      refine ⟨ap, _, rfl, SqT.of (e _ _ hap), rfl, _, _, rfl, _, _, rfl, rfl, rfl, lc_yes ?_⟩
      refine ⟨_, rfl, _, hd, ?_, fun b o z => ?_, ?_⟩
      · rw [List.length_map, List.length_take, List.length_map]
        exact Nat.lt_of_lt_of_le (by omega : min i S.length < 100000) (sz (Nat.le_refl _))
      · rw [upd_ne (ne_of_none z n1)]
        exact e _ _ z
      · rw [take_snoc ha', List.map_append]
        exact upd_same
    · rintro H1 ⟨e1, hd1⟩
      rw [xl, ← List.length_map (f := Prod.fst) (as := S), List.take_length] at hd1
      refine ⟨_, rfl, l, rfl, ?_⟩
      refine isq_in (K := K) so (e1 _ _ hl) ?_
      intro J2 w2 d2 n2
      refine lc_any w2 (fun i H' => Same H1 H' ∧ H' d2 = some (.lst (((S.map Prod.snd).take i).map V.int))) ?_ ?_ ?_ ?_
      · exact ⟨same_new n2 _, upd_same⟩
      · rintro i H' _ ⟨e, _⟩
        exact e _ _ (e1 _ _ hl)
      · rintro i x H' hx ⟨e, hd⟩
        obtain ⟨a, ha, ap, rfl, hap⟩ := hP.at hx
        have ha' : (S.map Prod.snd)[i]? = some a.2 := by rw [List.getElem?_map, ha]; rfl
        refine ⟨ap, _, rfl, SqT.of (e _ _ (e1 _ _ hap)), rfl, _, _, rfl, _, _, rfl, rfl, rfl, lc_yes ?_⟩
        refine ⟨_, rfl, _, hd, ?_, fun b o z => ?_, ?_⟩
        · rw [List.length_map, List.length_take, List.length_map]
          exact Nat.lt_of_lt_of_le (by omega : min i S.length < 100000) (sz (Nat.le_refl _))
        · rw [upd_ne (ne_of_none z n2)]
          exact e _ _ z
        · rw [take_snoc ha', List.map_append]
          exact upd_same
      · rintro H2 ⟨e2, hd2⟩
        rw [xl, ← List.length_map (f := Prod.snd) (as := S), List.take_length] at hd2
        exact ⟨_, _, rfl, hR _ _ ⟨d1, d2, rfl, e1.trans e2, e2 _ _ hd1, hd2⟩⟩
  rintro σ H1 ⟨d1, d2, rfl, s1, hd1, hd2⟩
  have hS0 : 0 < S.length := by omega
  refine seq_with (fun σ' H' => ∃ (pl pg : Addr) (lx ly gx gy : Int), σ' = [some (.ref p), some (.ref l), some (.ref d1), some (.ref d2), none, none, some (.ref pl), some (.ref pg), none, none, none, none, none] ∧ Same H1 H' ∧ H' pl = some (.tup [.int lx, .int ly]) ∧ H' pg = some (.tup [.int gx, .int gy]) ∧ (∀ a ∈ S, (lx ≤ a.1 ∧ a.1 ≤ gx) ∧ ly ≤ a.2 ∧ a.2 ≤ gy) ∧ ((∃ a ∈ S, a.1 = lx) ∧ ∃ a ∈ S, a.1 = gx) ∧ (∃ a ∈ S, a.2 = ly) ∧ ∃ a ∈ S, a.2 = gy) (fun R hR => ?_) ?_
  · refine ⟨_, rfl, d1, S.map Prod.fst, rfl, SqL.of hd1, by rw [List.length_map]; exact hS0, fun lx m1 b1 => ?_⟩
    refine ⟨_, rfl, d2, S.map Prod.snd, rfl, SqL.of hd2, by rw [List.length_map]; exact hS0, fun ly m2 b2 => ?_⟩
    refine ⟨sz (by decide : 2 ≤ 100000), fun pl nl => ?_⟩
    have g1 := same_new nl (.tup [.int lx, .int ly])
    refine ⟨_, rfl, d1, S.map Prod.fst, rfl, SqL.of (g1 _ _ hd1), by rw [List.length_map]; exact hS0, fun gx m3 b3 => ?_⟩
    refine ⟨_, rfl, d2, S.map Prod.snd, rfl, SqL.of (g1 _ _ hd2), by rw [List.length_map]; exact hS0, fun gy m4 b4 => ?_⟩
    refine ⟨sz (by decide : 2 ≤ 100000), fun pg ng => ?_⟩
    have g2 := same_new ng (.tup [.int gx, .int gy])
    refine ⟨_, _, rfl, hR _ _ ⟨pl, pg, lx, ly, gx, gy, rfl, g1.trans g2, g2 _ _ upd_same, upd_same, fun a ha => ?_, ⟨?_, ?_⟩, ?_, ?_⟩⟩
    · have f1 := List.mem_map_of_mem (f := Prod.fst) ha
      have f2 := List.mem_map_of_mem (f := Prod.snd) ha
      exact ⟨⟨b1 _ f1, b3 _ f1⟩, b2 _ f2, b4 _ f2⟩
    · exact List.mem_map.mp m1
    · exact List.mem_map.mp m3
    · exact List.mem_map.mp m2
    · exact List.mem_map.mp m4
  rintro σ H2 ⟨pl, pg, lx, ly, gx, gy, rfl, s2, hpl, hpg, bb, mx, my⟩
  have s12 := s1.trans s2
  have hx : lx ≤ gx := by obtain ⟨⟨a, ha, e⟩, _⟩ := mx; have := bb a ha; omega
  have hy : ly ≤ gy := by obtain ⟨⟨a, ha, e⟩, _⟩ := my; have := bb a ha; omega
  refine ⟨_, rfl, _, rfl, _, rfl, p, pl, pg, x1, y1, x2, y2, lx, ly, gx, gy, rfl, hst.same s12, hpl, hpg, fun H3 s3 => ?_⟩
  refine ⟨_, rfl, ?_⟩
  have s13 := s12.trans s3
  cases ps : passL x1 y1 x2 y2 lx ly gx gy with
  | false =>
    refine if_pos' rfl ?_
    refine ⟨sz (by decide : 0 ≤ 100000), fun r nr => ?_⟩
    exact q r _ [] [] (s13.trans (same_new nr _)) (s13.free nr) upd_same .nil (rowof_none bb hx hy ps)
  | true =>
  refine iteF ?_
  dsimp only [tNext]
  have hpl := s3 _ _ hpl
  have hpg := s3 _ _ hpg
  refine ⟨_, rfl, _, rfl, _, _, dp_pair hpl, dp_pair hpg, shaped_pair _ _, shaped_pair _ _, _, rfl, ?_⟩
  rw [eqv_pair]
  by_cases c1 : lx = gx ∧ ly = gy
  · refine iteDT c1 ?_
    obtain ⟨rfl, rfl⟩ := c1
    refine ⟨_, rfl, l, xs, rfl, so.sq (s13 _ _ hl), fun r nr => ?_⟩
    have g := same_new nr (.lst xs)
    refine q r _ xs S (s13.trans g) (s13.free nr) upd_same ((hP.same s13).same g) (rowof_one (fun z => ?_) nd bb ps)
    rw [z] at hS0
    exact absurd hS0 (by decide)
  refine iteDF c1 ?_
  dsimp only [tNext]
  obtain ⟨j, hj⟩ : ∃ i : Bool, (gx - lx ≥ gy - ly → i = false) ∧ (¬ gx - lx ≥ gy - ly → i = true) := by
    by_cases c : gx - lx ≥ gy - ly
    · exact ⟨false, fun _ => rfl, fun z => (z c).elim⟩
    · exact ⟨true, fun z => (c z).elim, fun _ => rfl⟩
  have hj2 : at2 j (lx, ly) < at2 j (gx, gy) := by
    by_cases c : gx - lx ≥ gy - ly
    · rw [hj.1 c]
      show lx < gx
      omega
    · rw [hj.2 c]
      show ly < gy
      omega
  obtain ⟨n8, hn8, hat⟩ : ∃ n8 : Int, ((j = false → n8 = 0) ∧ (j = true → n8 = 1)) ∧ ∀ u v : Int, atI ([.int u, .int v] : List V) n8 = some (.int (at2 j (u, v))) := by
    cases j
    · exact ⟨0, ⟨fun _ => rfl, fun z => (nomatch z)⟩, fun u v => rfl⟩
    · exact ⟨1, ⟨fun z => (nomatch z), fun _ => rfl⟩, fun u v => rfl⟩
  refine seq_with (fun σ' H' => H3 = H' ∧ σ' = [some (.ref p), some (.ref l), some (.ref d1), some (.ref d2), none, none, some (.ref pl), some (.ref pg), some (.int n8), none, none, none, none]) (fun R hR => ?_) ?_
  · refine ⟨_, rfl, pg, _, _, _, rfl, rfl, SqT.of hpg, rfl, _, rfl, pl, _, _, _, rfl, rfl, SqT.of hpl, rfl, _, _, rfl, rfl, ?_⟩
    refine ⟨_, rfl, pg, _, _, _, rfl, rfl, SqT.of hpg, rfl, _, rfl, pl, _, _, _, rfl, rfl, SqT.of hpl, rfl, _, _, rfl, rfl, _, _, rfl, rfl, _, rfl, ?_⟩
    by_cases c : gx - lx ≥ gy - ly
    · refine iteDT c ?_
      exact hR _ _ ⟨rfl, by rw [hn8.1 (hj.1 c)]; rfl⟩
    · refine iteDF c ?_
      exact hR _ _ ⟨rfl, by rw [hn8.2 (hj.2 c)]; rfl⟩
  rintro _ _ ⟨rfl, rfl⟩
  refine seq_with (fun σ' H' => H3 = H' ∧ σ' = [some (.ref p), some (.ref l), some (.ref d1), some (.ref d2), none, none, some (.ref pl), some (.ref pg), some (.int n8), some (.int ((at2 j (lx, ly) + at2 j (gx, gy)) / 2)), none, none, none]) (fun R hR => ?_) ?_
  · refine ⟨_, rfl, _, rfl, pl, _, _, _, rfl, rfl, SqT.of hpl, hat _ _, _, rfl, _, rfl, pg, _, _, _, rfl, rfl, SqT.of hpg, hat _ _, _, _, rfl, rfl, ?_⟩
    exact ⟨_, _, rfl, rfl, ⟨by decide, by decide⟩, hR _ _ ⟨rfl, rfl⟩⟩
  rintro _ _ ⟨rfl, rfl⟩
  obtain ⟨d, rfl, dl, dt⟩ := deep_halves dS bb mx my j hj2
  generalize (at2 j (lx, ly) + at2 j (gx, gy)) / 2 = md at *
  have hst3 := hst.same s13
  have hP3 := hP.same s13
  have hl3 := s13 _ _ hl
  refine seq_with (fun σ' H' => ∃ (la : Addr) (ya : List V) (A : List (Int × Int)), σ' = [some (.ref p), some (.ref l), some (.ref d1), some (.ref d2), none, none, some (.ref pl), some (.ref pg), some (.int n8), some (.int md), some (.ref la), none, none] ∧ Same H3 H' ∧ H' la = some (.lst ya) ∧ Prs H' ya A ∧ RowOf x1 y1 x2 y2 (· ∈ lowH j md S) A) (fun R hR => ?_) ?_
  · refine ⟨_, rfl, _, rfl, l, rfl, ?_⟩
    refine isq_in (K := K) so hl3 ?_
    intro J w D hD
    refine lc_any w (fun i H' => Same H3 H' ∧ ∃ vs : List V, H' D = some (.lst vs) ∧ Prs H' vs (lowH j md (S.take i))) ?_ ?_ ?_ ?_
    · exact ⟨same_new hD _, [], upd_same, .nil⟩
    · rintro i H' _ ⟨e, _⟩
      exact e _ _ hl3
    · rintro i x H' hx' ⟨e, vs, hd, hN⟩
      obtain ⟨a, ha, ap, rfl, hap⟩ := hP3.at hx'
      have eT : lowH j md (S.take (i + 1)) = lowH j md (S.take i) ++ lowH j md [a] := by
        rw [take_snoc ha]
        exact List.filter_append ..
      have ln := hN.len
      have ll : (lowH j md (S.take i)).length ≤ (S.take i).length := List.length_filter_le ..
      rw [List.length_take] at ll
      refine ⟨rfl, ?_⟩
      refine ⟨_, rfl, _, rfl, ap, _, _, _, rfl, rfl, SqT.of (e _ _ hap), hat _ _, _, rfl, _, _, rfl, rfl, _, rfl, ?_⟩
      by_cases c : at2 j a ≤ md
      · refine iteDT c ?_
        refine ⟨_, rfl, vs, hd, Nat.lt_of_lt_of_le (by omega : vs.length < 100000) (sz (Nat.le_refl _)), fun b o z => ?_, vs ++ [.ref ap], upd_same, ?_⟩
        · rw [upd_ne (ne_of_none z hD)]
          exact e _ _ z
        · rw [eT, show lowH j md [a] = [a] from List.filter_cons_of_pos (decide_eq_true c)]
          exact (hN.snoc ⟨ap, rfl, e _ _ hap⟩).but (l := D) (fun zs z => by rw [hd] at z; cases z) fun b o h z => by rw [upd_ne h]; exact z
      · refine iteDF c ?_
        refine ⟨e, vs, hd, ?_⟩
        rw [eT, show lowH j md [a] = [] from List.filter_cons_of_neg (by rw [decide_eq_false c]; decide), List.append_nil]
        exact hN
    · rintro H4 ⟨e4, vs, hd, hN⟩
      rw [xl, List.take_length] at hN
      refine ⟨p, D, x1, y1, x2, y2, vs, _, _, rfl, hst3.same e4, .inl rfl, hd, hN, nd.filter _, Nat.le_trans (List.length_filter_le ..) hS, dl, fun r H5 ys L t5 nr hr5 hp5 row => ?_⟩
      exact hR _ _ ⟨r, ys, L, rfl, e4.trans t5, hr5, hp5, row⟩
  rintro σ H4 ⟨la, ya, A, rfl, s4, hla, pA, rowA⟩
  have hst4 := hst3.same s4
  have hP4 := hP3.same s4
  have hl4 := s4 _ _ hl3
  refine seq_with (fun σ' H' => ∃ (lb : Addr) (yb : List V) (B : List (Int × Int)), σ' = [some (.ref p), some (.ref l), some (.ref d1), some (.ref d2), none, none, some (.ref pl), some (.ref pg), some (.int n8), some (.int md), some (.ref la), none, some (.ref lb)] ∧ Same H4 H' ∧ H' lb = some (.lst yb) ∧ Prs H' yb B ∧ RowOf x1 y1 x2 y2 (· ∈ topH j md S) B) (fun R hR => ?_) ?_
  · refine ⟨_, rfl, _, rfl, l, rfl, ?_⟩
    refine isq_in (K := K) so hl4 ?_
    intro J w D hD
    refine lc_any w (fun i H' => Same H4 H' ∧ ∃ vs : List V, H' D = some (.lst vs) ∧ Prs H' vs (topH j md (S.take i))) ?_ ?_ ?_ ?_
    · exact ⟨same_new hD _, [], upd_same, .nil⟩
    · rintro i H' _ ⟨e, _⟩
      exact e _ _ hl4
    · rintro i x H' hx' ⟨e, vs, hd, hN⟩
      obtain ⟨a, ha, ap, rfl, hap⟩ := hP4.at hx'
      have eT : topH j md (S.take (i + 1)) = topH j md (S.take i) ++ topH j md [a] := by
        rw [take_snoc ha]
        exact List.filter_append ..
      have ln := hN.len
      have ll : (topH j md (S.take i)).length ≤ (S.take i).length := List.length_filter_le ..
      rw [List.length_take] at ll
      refine ⟨rfl, ?_⟩
      refine ⟨_, rfl, _, rfl, ap, _, _, _, rfl, rfl, SqT.of (e _ _ hap), hat _ _, _, rfl, _, _, rfl, rfl, _, rfl, ?_⟩
      by_cases c : at2 j a > md
      · refine iteDT c ?_
        refine ⟨_, rfl, vs, hd, Nat.lt_of_lt_of_le (by omega : vs.length < 100000) (sz (Nat.le_refl _)), fun b o z => ?_, vs ++ [.ref ap], upd_same, ?_⟩
        · rw [upd_ne (ne_of_none z hD)]
          exact e _ _ z
        · rw [eT, show topH j md [a] = [a] from List.filter_cons_of_pos (decide_eq_true c)]
          exact (hN.snoc ⟨ap, rfl, e _ _ hap⟩).but (l := D) (fun zs z => by rw [hd] at z; cases z) fun b o h z => by rw [upd_ne h]; exact z
      · refine iteDF c ?_
        refine ⟨e, vs, hd, ?_⟩
        rw [eT, show topH j md [a] = [] from List.filter_cons_of_neg (by rw [decide_eq_false c]; decide), List.append_nil]
        exact hN
    · rintro H4 ⟨e4, vs, hd, hN⟩
      rw [xl, List.take_length] at hN
      refine ⟨p, D, x1, y1, x2, y2, vs, _, _, rfl, hst4.same e4, .inl rfl, hd, hN, nd.filter _, Nat.le_trans (List.length_filter_le ..) hS, dt, fun r H5 ys L t5 nr hr5 hp5 row => ?_⟩
      exact hR _ _ ⟨r, ys, L, rfl, e4.trans t5, hr5, hp5, row⟩
  rintro σ H5 ⟨lb, yb, B, rfl, s5, hlb, pB, rowB⟩
  have s15 := s13.trans (s4.trans s5)
  have row := rowof_halves rowA rowB
  have la5 := row_len rowA hst.2.1
  have lb5 := row_len rowB hst.2.1
  have l1 := pA.len
  have l2 := pB.len
  refine ⟨_, rfl, p, x1, y1, x2, y2, rfl, hst4.same s5, fun rh H6 s6 hrh => ?_⟩
  refine ⟨_, rfl, rh, _, _, _, rfl, rfl, SqT.of hrh, hat _ _, _, _, rfl, rfl, _, rfl, ?_⟩
  have sg : at2 j (sgn (x2 - x1), sgn (y2 - y1)) < 0 ↔ at2 j (x2 - x1, y2 - y1) < 0 := by
    have u := sgn_cases (x2 - x1)
    have v := sgn_cases (y2 - y1)
    cases j
    · show sgn (x2 - x1) < 0 ↔ x2 - x1 < 0
      omega
    · show sgn (y2 - y1) < 0 ↔ y2 - y1 < 0
      omega
  have hla6 := s6 _ _ (s5 _ _ hla)
  have hlb6 := s6 _ _ hlb
  have big : ∀ {u v : List V}, u.length ≤ 161 → v.length ≤ 161 → u.length + v.length ≤ sizeLine := fun {u v} h1 h2 => Nat.le_trans (by omega : u.length + v.length ≤ 100000) (sz (Nat.le_refl _))
  by_cases c : at2 j (x2 - x1, y2 - y1) < 0
  · refine iteDT (sg.mpr c) ?_
    rw [if_pos c] at row
    refine ⟨_, rfl, _, rfl, lb, la, yb, ya, rfl, rfl, hlb6, hla6, big (by omega) (by omega), fun r nr => ?_⟩
    have g := same_new nr (.lst (yb ++ ya))
    exact q r _ _ _ (s15.trans (s6.trans g)) ((s15.trans s6).free nr) upd_same (((pB.same s6).same g).app (((pA.same s5).same s6).same g)) row
  · refine iteDF (fun z => c (sg.mp z)) ?_
    rw [if_neg c] at row
    refine ⟨_, rfl, _, rfl, la, lb, ya, yb, rfl, rfl, hla6, hlb6, big (by omega) (by omega), fun r nr => ?_⟩
    have g := same_new nr (.lst (ya ++ yb))
    exact q r _ _ _ (s15.trans (s6.trans g)) ((s15.trans s6).free nr) upd_same ((((pA.same s5).same s6).same g).app ((pB.same s6).same g)) row
theorem ok_halved (B : Blt mg) (c_passes : Cal P w K mg base 2 "passes" ["stroke", "least", "greatest"] spPasses) (c_heading : Cal P w K mg base 2 "heading" ["stroke"] spHeading) (F : Fun K "halved" "halved" s_halved f fd) (b : Binds K fd ["stroke", "spots"] []) (m : mg "halved" = some (.ref f)) : ∀ k : Nat, FnOk P w K mg base CX0 (k + 2) f fd ["stroke", "spots"] (spHalved k)
  | 0 => F.ok sc_halved (fun _ _ _ _ h => h.elim) (fun _ _ _ _ _ _ _ _ _ h => h.elim)
  | k + 1 => ok_halvedS B c_passes c_heading ⟨f, fd, ok_halved B c_passes c_heading F b m k, b, F.kp, m⟩ F
end
end DM

namespace DM
open PySem L2 LamX NdefX
/-! ### the program's bent rows -/
/-- spots, unlike, through whose squares a stroke may go -/
def Spts (S : List (Int × Int)) : Prop := S.Nodup ∧ S.length ≤ 1000 ∧ ∀ p ∈ S, -40 ≤ p.1 ∧ p.1 ≤ 40 ∧ -40 ≤ p.2 ∧ p.2 ≤ 40
/-- asked with a stroke and spots: the bent row, in a new list; T: the tables that stay in order -/
def spBentT (T : List (Addr × Str)) : Sp := fun vs H Q _ => ∃ (p l : Addr) (x1 y1 x2 y2 : Int) (xs : List V) (o : HO) (S : List (Int × Int)), vs = [.ref p, .ref l] ∧ Stk H p x1 y1 x2 y2 ∧ SeqO xs o ∧ H l = some o ∧ Prs H xs S ∧ Spts S ∧ Tabs T H ∧
  ∀ (r : Addr) (H' : Hp) (ys : List V) (L : List (Int × Int)), ExtN H H' → Tabs T H' → (∀ b o, H b = some o → (∀ ps, o ≠ .tbl ps) → b ≠ r) → H' r = some (.lst ys) → Prs H' ys L → RowOf x1 y1 x2 y2 (· ∈ S) L → Q (.ref r) H'
theorem Stk.ext {H H' : Hp} {p : Addr} {x1 y1 x2 y2 : Int} (h : Stk H p x1 y1 x2 y2) (e : ExtN H H') : Stk H' p x1 y1 x2 y2 := ⟨ext_tup e h.1, h.2⟩
def spWalked : Sp := fun vs H Q _ => ∃ (p d : Addr) (x1 y1 x2 y2 : Int) (kvs : List (List Key × V)) (S : List (Int × Int)), vs = [.ref p, .ref d] ∧ Stk H p x1 y1 x2 y2 ∧ H d = some (.dT kvs) ∧ (∀ q : Int × Int, (valV kvs (keyP q)).isSome = decide (q ∈ S)) ∧ ∀ (r : Addr) (H' : Hp) (ys : List V) (L : List (Int × Int)), Same H H' → H r = none → H' r = some (.lst ys) → Prs H' ys L → RowOf x1 y1 x2 y2 (· ∈ S) L → Q (.ref r) H'
/-- sorted by how far along they lie, the spots that a stroke goes through are its row -/
theorem row_of_key {x1 y1 x2 y2 : Int} {S L : List (Int × Int)} (nd : S.Nodup) (pm : L.Perm (S.filter fun p => goesL x1 y1 x2 y2 p.1 p.2)) (pw : L.Pairwise fun p q => ¬ key x1 y1 x2 y2 q < key x1 y1 x2 y2 p) : RowOf x1 y1 x2 y2 (· ∈ S) L := by
  have mem : ∀ p, p ∈ L ↔ p ∈ S ∧ Thr x1 y1 x2 y2 p.1 p.2 := fun p => by
    rw [pm.mem_iff, List.mem_filter, goesL_iff]
  refine ⟨mem, ?_⟩
  have ndL : L.Nodup := pm.nodup_iff.mpr (nd.filter _)
  refine (pw.and ndL).imp_of_mem fun {p q} hp hq z => ?_
  rcases thr_chain ((mem p).mp hp).2 ((mem q).mp hq).2 with h | h | h
  · exact absurd h z.2
  · exact h
  · exact absurd (ahead_key h) z.1
section
variable {P : Program} {w : World} {K : PySem.W.Frag} {mg : Str → Option Value} {base : Heap} {f : Addr} {fd : FuncData}
abbrev s_sifted : Stmt := top 19
theorem sc_sifted : FnScope ["stroke", "spots", "right", "upward", "spot"] ["stroke", "spots"] (defScope s_sifted) := ⟨rfl, rfl, rfl, by decide +kernel, rfl, by decide +kernel, by decide +kernel⟩
theorem ok_sifted (B : Blt mg) (c_p_goes : Cal P w K mg base 3 "goes" ["stroke", "spot"] spGoes) (c_heading : Cal P w K mg base 2 "heading" ["stroke"] spHeading) {c Pt : Addr} (F : Fun K "sifted" "sifted" s_sifted f fd) (mine : fd.code = .ref c) (TB : TabB base mg c Pt) :
    FnOk P w K mg base CX0 5 f fd ["stroke", "spots"] (spBentT [(Pt, qLamOf "sifted" (defScope s_sifted))]) := by
  refine okT F mine sc_sifted (fun vs H Q E h => ?_) (fun A outer s H vs Q E hr h => ?_)
  · obtain ⟨p, l, x1, y1, x2, y2, xs, o, S, rfl, _⟩ := h
    rfl
  obtain ⟨p, l, x1, y1, x2, y2, xs, o, S, rfl, hst, so, hl, hP, hS, hT, q⟩ := h
  refine ⟨_, (pss_cons (ps_asg (pe_cal c_heading hr (pa_cons (pv 0) pa_nil)) (pg_tup rfl (pgs_cons (pg_name (i := 2) sc_sifted.nd rfl (Or.inr rfl)) (pgs_cons (pg_name (i := 3) sc_sifted.nd rfl (Or.inr rfl)) pgs_nil))))
    (pss_one (ps_ret (pe_sortKey (T := [(Pt, qLamOf "sifted" (defScope s_sifted))]) (k := 1) (N := ["spot", "right", "upward"]) (fr := ["right", "upward"]) (y := "spot") (js := [2, 3]) B.sorted rfl (pa_cons (pe_lc (own := [("spot", 4)]) (g := gName 4) (tt := _) rfl sc_sifted.nd (pi_sq (pv 1)) (blkOk_by (own := [("spot", 4)]) (N := ["stroke", "spots", "right", "upward", "spot"]) (sc := defScope s_sifted) (by decide +kernel)) (fun _ _ _ _ _ => pg_name (i := 4) sc_sifted.nd rfl (Or.inl rfl)) (fun _ _ _ _ _ => (pts_one (pt_val (pe_cal c_p_goes hr (pa_cons (pv 0) (pa_cons (pv 4) pa_nil)))))) (fun _ _ _ _ _ => (pv 4))) pa_nil) TB rfl List.mem_cons_self (fun p hp _ => by cases List.mem_singleton.mp hp; rfl) (hr.mono (by decide)) (nscope_by (by decide +kernel)) (show ndefB (defScope s_sifted) _ _ = true from by decide +kernel) rfl rfl (fun _ _ _ _ _ _ => rfl) (fun _ _ _ _ _ hr => (pe_op op_add (pe_op op_mul (pv 1) (pe_ix (r := rIxT K) ix_tup (pv 0) pe_int (fun _ _ => rfl))) (pe_op op_mul (pv 2) (pe_ix (r := rIxT K) ix_tup (pv 0) pe_int (fun _ _ => rfl))))))))), ?_⟩
  refine seq_with (fun σ' H' => Same H H' ∧ σ' = [some (.ref p), some (.ref l), some (.int (sgn (x2 - x1))), some (.int (sgn (y2 - y1))), none]) (fun R hR => ?_) ?_
  · refine ⟨_, rfl, p, x1, y1, x2, y2, rfl, hst, fun r H1 s1 hr1 => ?_⟩
    exact ⟨r, _, rfl, SqT.of hr1, rfl, _, _, rfl, _, _, rfl, rfl, hR _ _ ⟨s1, rfl⟩⟩
  rintro _ H1 ⟨s1, rfl⟩
  have hl1 := s1 _ _ hl
  have hP1 := hP.same s1
  have hst1 := hst.same s1
  have lens := hP.len
  refine ⟨_, rfl, l, rfl, ?_⟩
  refine isq_in (K := K) so hl1 ?_
  intro J w D nD
  refine lc_any w (fun i H' => Same H1 H' ∧ ∃ vs : List V, H' D = some (.lst vs) ∧ Prs H' vs ((S.take i).filter fun p => goesL x1 y1 x2 y2 p.1 p.2)) ?_ ?_ ?_ ?_
  · exact ⟨same_new nD _, [], upd_same, .nil⟩
  · rintro i H' _ ⟨e, _⟩
    exact e _ _ hl1
  · rintro i x H' hx ⟨e, vs, hd, hN⟩
    obtain ⟨a, ha, ap, rfl, hap⟩ := hP1.at hx
    have ba := hS.2.2 a (List.mem_of_getElem? ha)
    have lv := hN.len
    have lf : ((S.take i).filter fun p => goesL x1 y1 x2 y2 p.1 p.2).length ≤ (S.take i).length := List.length_filter_le ..
    rw [List.length_take] at lf
    have s1000 := hS.2.1
    refine ⟨rfl, ?_⟩
    refine ⟨_, rfl, _, rfl, p, ap, x1, y1, x2, y2, a.1, a.2, rfl, hst1.same e, e _ _ hap, by omega, fun H3 s3 => ⟨_, rfl, ?_⟩⟩
    have e3 := e.trans s3
    cases g : goesL x1 y1 x2 y2 a.1 a.2 with
    | true =>
      refine iteT ?_
      refine ⟨_, rfl, vs, s3 _ _ hd, Nat.lt_of_lt_of_le (by omega : vs.length < 100000) (sz (Nat.le_refl _)), fun b o z => ?_, vs ++ [.ref ap], upd_same, ?_⟩
      · rw [upd_ne (ne_of_none z nD)]
        exact e3 _ _ z
      · rw [take_snoc ha, List.filter_append, show List.filter (fun p => goesL x1 y1 x2 y2 p.1 p.2) [a] = [a] from List.filter_cons_of_pos g]
        exact ((hN.same s3).snoc ⟨ap, rfl, e3 _ _ hap⟩).but (l := D) (fun zs z => by rw [s3 _ _ hd] at z; cases z) fun b o h z => by rw [upd_ne h]; exact z
    | false =>
      refine iteF ?_
      refine ⟨e3, vs, s3 _ _ hd, ?_⟩
      rw [take_snoc ha, List.filter_append, show List.filter (fun p => goesL x1 y1 x2 y2 p.1 p.2) [a] = [] from List.filter_cons_of_neg (by rw [g]; decide), List.append_nil]
      exact hN.same s3
  · rintro H2 ⟨s2, vs, hd, hN⟩
    rw [lens, List.take_length] at hN
    have eL := hN.map_at
    have memL : ∀ {v : V}, v ∈ vs → prAt H2 v ∈ S := fun {v} hv => by
      have := List.mem_map_of_mem (f := prAt H2) hv
      rw [eL] at this
      exact (List.mem_filter.mp this).1
    refine ⟨D, vs, fun v => .int (key x1 y1 x2 y2 (prAt H2 v)), rfl, .inl (SqL.of hd), (hT.ext s1).ext s2, ?_, ?_, ?_, fun y Hc hy ex => ?_, fun r H' ex hT' hr' hl' => ?_⟩
    · intro d hd d' hd'
      obtain ⟨x, _, rfl⟩ := List.mem_map.mp hd
      obtain ⟨x', _, rfl⟩ := List.mem_map.mp hd'
      simp [PySem.W.alike]
    · right
      intro d hd
      obtain ⟨x, _, rfl⟩ := List.mem_map.mp hd
      exact ⟨(fun z => by cases z), fun _ z => by cases z⟩
    · intro y _
      simp [PyData.depth]
    · obtain ⟨ap, rfl, hap⟩ := hN.mem y hy
      have hap' := ext_tup ex hap
      have c1 := sgn_cases (x2 - x1)
      have c2 := sgn_cases (y2 - y1)
      refine ⟨_, rfl, _, rfl, ap, _, _, _, rfl, rfl, SqT.of hap', rfl, _, _, rfl, rfl, .inl ⟨by omega, by omega⟩, _, rfl, _, rfl, ap, _, _, _, rfl, rfl, SqT.of hap', rfl, _, _, rfl, rfl, .inl ⟨by omega, by omega⟩, _, _, rfl, rfl, ?_⟩
      exact ⟨fun _ _ z => z, .inl ⟨_, rfl, rfl⟩⟩
    · have pm := List.mergeSort_perm vs (PySem.W.dataLe false fun v => .int (key x1 y1 x2 y2 (prAt H2 v)))
      have tot := PySem.W.sortLe_total (PyProof.Rows.listOrd PyProof.Rows.itemOrd) false fun v : V => PySem.W.keyToks (.int (key x1 y1 x2 y2 (prAt H2 v)))
      have pw := PySem.W.sort_pairwise tot vs
      have hP2 := prs_imp hN (us := vs.mergeSort (PySem.W.dataLe false fun v => .int (key x1 y1 x2 y2 (prAt H2 v)))) (fun u hu => pm.mem_iff.mp hu)
      have s12 := s1.trans s2
      refine q r H' _ _ ((ExtN.of s12).trans ex) hT' (fun b o z n => hr' b o (s12 _ _ z) n) hl' (hP2.ext ex) (row_of_key hS.1 (by rw [← eL]; exact pm.map _) ?_)
      rw [List.pairwise_map]
      refine pw.imp fun {u v} z => ?_
      have z' : (!PySem.W.dataLt (.int (key x1 y1 x2 y2 (prAt H2 v))) (.int (key x1 y1 x2 y2 (prAt H2 u)))) = true := z
      rw [PySem.W.dataLt_int] at z'
      simpa using z'
abbrev s_walked : Stmt := top 20
theorem sc_walked : FnScope ["stroke", "known", "spot"] ["stroke", "known"] (defScope s_walked) := ⟨rfl, rfl, rfl, by decide +kernel, rfl, by decide +kernel, by decide +kernel⟩
theorem ok_walked (c_squares : Cal P w K mg base 5 "squares" ["stroke"] spSquares) (F : Fun K "walked" "walked" s_walked f fd) : FnOk P w K mg base CX0 6 f fd ["stroke", "known"] spWalked := by
  refine F.ok sc_walked (fun vs H Q E h => ?_) (fun cdv A outer s H vs Q E hr h => ?_)
  · obtain ⟨p, d, x1, y1, x2, y2, kvs, S, rfl, _⟩ := h
    rfl
  obtain ⟨p, d, x1, y1, x2, y2, kvs, S, rfl, hst, hd, hk, q⟩ := h
  refine ⟨_, (pss_one (ps_ret (pe_lc (own := [("spot", 2)]) (g := gName 2) (tt := _) rfl sc_walked.nd (pi_list (pe_cal c_squares hr (pa_cons (pv 0) pa_nil))) (blkOk_by (own := [("spot", 2)]) (N := ["stroke", "known", "spot"]) (sc := defScope s_walked) (by decide +kernel)) (fun _ _ _ _ _ => pg_name (i := 2) sc_walked.nd rfl (Or.inl rfl)) (fun _ _ _ _ _ => (pts_one (pt_cmp (pc_din (hu_of hr) (pv 2) (pv 1))))) (fun _ _ _ _ _ => (pv 2))))), ?_⟩
  refine ⟨_, rfl, p, x1, y1, x2, y2, rfl, hst, fun r0 H1 xs L0 s1 n0 h0 hP row => ?_⟩
  refine ⟨r0, rfl, ⟨_, SqL.of h0⟩, fun D nD => ?_⟩
  have hd1 := s1 _ _ hd
  have lens := hP.len
  have ll : L0.length ≤ 161 := row_len (S := fun _ => True) (Row.of.mp row) hst.2.1
  refine lc_list (K := K) (a := r0) (xs := xs) (fun i H' => Same H1 H' ∧ ∃ vs : List V, H' D = some (.lst vs) ∧ Prs H' vs ((L0.take i).filter fun p => decide (p ∈ S))) ?_ ?_ ?_ ?_
  · exact ⟨same_new nD _, [], upd_same, .nil⟩
  · rintro i H' _ ⟨e, _⟩
    exact SqL.of (e _ _ h0)
  · rintro i x H' hx ⟨e, vs, hd', hN⟩
    obtain ⟨a, ha, ap, rfl, hap⟩ := hP.at hx
    have lv := hN.len
    have lf : ((L0.take i).filter fun p => decide (p ∈ S)).length ≤ (L0.take i).length := List.length_filter_le ..
    rw [List.length_take] at lf
    have hkey : H' ap = some (.tup ((keyP a).map kV)) := e _ _ hap
    refine ⟨rfl, ?_⟩
    refine ⟨_, rfl, _, rfl, d, _, rfl, DGet.t (e _ _ hd1) hkey, _, rfl, ?_⟩
    rw [hk a]
    by_cases g : a ∈ S
    · refine iteDT g ?_
      refine ⟨_, rfl, vs, hd', Nat.lt_of_lt_of_le (by omega : vs.length < 100000) (sz (Nat.le_refl _)), fun b o z => ?_, vs ++ [.ref ap], upd_same, ?_⟩
      · rw [upd_ne (ne_of_none z nD)]
        exact e _ _ z
      · rw [take_snoc ha, List.filter_append, show List.filter (fun p => decide (p ∈ S)) [a] = [a] from List.filter_cons_of_pos (decide_eq_true g)]
        exact (hN.snoc ⟨ap, rfl, e _ _ hap⟩).but (l := D) (fun zs z => by rw [hd'] at z; cases z) fun b o h z => by rw [upd_ne h]; exact z
    · refine iteDF g ?_
      refine ⟨e, vs, hd', ?_⟩
      rw [take_snoc ha, List.filter_append, show List.filter (fun p => decide (p ∈ S)) [a] = [] from List.filter_cons_of_neg (by rw [decide_eq_false g]; decide), List.append_nil]
      exact hN
  · rintro H2 ⟨s2, vs, hd', hN⟩
    rw [lens, List.take_length] at hN
    have row' := RowOf.filter (T := (· ∈ S)) (Row.of.mp row) (fun p => decide (p ∈ S)) (fun p => decide_eq_true_iff)
    refine q D H2 vs _ (s1.trans s2) (s1.free nD) hd' hN ⟨fun p => ?_, row'.2⟩
    rw [row'.1]
    exact ⟨fun z => ⟨z.1.2, z.2⟩, fun z => ⟨⟨trivial, z.1⟩, z.2⟩⟩
end
end DM

namespace DM
open PySem L2 LamX
/-! ### a def called by keywords -/
def CalK (P : Program) (w : World) (K : PySem.W.Frag) (mg : Str → Option Value) (base : Heap) (k : Nat) (x : Str) (ps : List Str) (n : Nat) (ks : List Str) (sp : Sp) : Prop :=
  ∃ (f : Addr) (fd : FuncData), FnOk P w K mg base CX0 k f fd ps sp ∧ KBn K fd ps n ks (fun us ws => us ++ ws) (fun vs zs => vs ++ zs) ∧ PySem.W.keepIn K (.ref f) = true ∧ mg x = some (.ref f)
theorem pe_calK {X : Cx} {k k' n : Nat} {x : Str} {ps ks : List Str} {sp : Sp} {e : Expr} {es : List Expr} {kws : List Keyword} {t tk : TA} {p pos : Pos} (C : CalK X.prog X.w X.K X.mg X.base k x ps n ks sp) (hr : Room k' X.A) (ha : PA X (e :: es) t) (hkw : PK X kws tk)
    (hk : k ≤ k' := by decide) (hg : Gl X x := by rfl) (hall : (backToKw pos (keywordEach kws X.env)).all (·.1.isSome) = true := by rfl) (hks : (backToKw pos (keywordEach kws X.env)).filterMap (·.1) = ks := by rfl) (hdb : (x == ("__debug__" : Str)) = false := by decide) (he : starEach (e :: es) X.env = (false, eval e X.env) :: starEach es X.env := by rfl)
    (hpl : ((backTo pos (starEach (e :: es) X.env)).any (·.1) || (backToKw pos (keywordEach kws X.env)).any (·.1.isNone)) = false := by rfl) :
    PE X (.Call (.Name x p) (e :: es) kws pos) (tCallN n ks.length sp (fun vs zs => vs ++ zs) E0 t tk) := by
  obtain ⟨f, fd, F, b, kp, hm⟩ := C
  exact pe_callN F (hr.mono hk) hg hm kp b pass0 ha hkw hall hks hdb he hpl
theorem kbn_kw {K : PySem.W.Frag} {x qual : Str} {params : Arguments} {body : List Stmt} {scope : Scope} {kws : List (Str × V)} {f : Addr} {fd : FuncData} {ps ks : List Str} {n : Nat} (F : FunD K x qual params body scope [] kws f fd)
    (h : ∀ (kV doc pm : Value) (an : Option Addr) (cdv ct : Value) (us ws : List Value), us.length = n → ws.length = ks.length → bindArgs (PySem.W.fnOf x qual params body scope .none kV doc pm an cdv ct) ⟨us, ks.zip ws⟩ = pure (ps.zip (us ++ ws))) : KBn K fd ps n ks (fun us ws => us ++ ws) (fun vs zs => vs ++ zs) := by
  obtain ⟨oc, od, dV, kV, doc, pm, an, cdv, ct, osl, rfl, _, _, hD, _⟩ := F.ex
  rcases hD with ⟨_, rfl⟩ | ⟨no, _⟩
  · exact ⟨fun s us ws _ h1 h2 => .of_eq (h kV doc pm an cdv ct us ws h1 h2), fun r1 r2 => r1.append r2⟩
  · exact absurd rfl no
/-- a def that raises only what its promise tells, asked where it tells nothing -/
theorem calm_of {P : Program} {w : World} {K : PySem.W.Frag} {mg : Str → Option Value} {base : Heap} {k : Nat} {f : Addr} {fd : FuncData} {ps : List Str} {sp sp' : Sp} (F : FnOk P w K mg base (L2.CX P w) k f fd ps sp) (h : ∀ vs H Q E, sp' vs H Q E → sp vs H Q E0) : FnOk P w K mg base CX0 k f fd ps sp' := by
  refine ⟨fun vs H Q E q => F.len vs H Q E0 (h _ _ _ _ q), fun A outer s H args us vs Q E hr e0 hb rv q => ?_⟩
  refine PySem.codeAny_mono (F.run A outer s H args us vs Q E0 hr e0 hb rv (h _ _ _ _ q)) fun r s' got => ?_
  cases r with
  | error e =>
    obtain ⟨_, _, _, _, _, _, _, _, _, _, _, _, _, _, _, _, z⟩ := got
  | ok fl =>
    cases fl with
    | ret u => exact got
    | next => exact got
    | brk => exact got
    | cont => exact got
/-- what a raised error leaves -/
theorem raised_same {H : Hp} {e dx : Addr} {o1 o2 o3 o4 o5 : HO} (ne : H e = none) (nd : H dx = none) : Same H (upd (del (upd (upd (upd (upd H e o1) dx o2) e o3) dx o4) e) dx o5) := fun c o hc => by
  have c1 : c ≠ dx := ne_of_none hc nd
  have c2 : c ≠ e := ne_of_none hc ne
  rw [upd_ne c1, del_ne c2, upd_ne c1, upd_ne c2, upd_ne c1, upd_ne c2]
  exact hc
/-! ### the ways -/
def isWay (y : Str) : Prop := y = "all" ∨ y = "walk" ∨ y = "halves"
instance (y : Str) : Decidable (isWay y) := by unfold isWay; infer_instance
abbrev s_de : Stmt := inClass (top 1) 0
theorem sc_de : FnScope ["self", "word", "message"] ["self", "word", "message"] (defScope s_de) := ⟨rfl, rfl, rfl, by decide +kernel, rfl, by decide +kernel, by decide +kernel⟩
abbrev s_bw : Stmt := inClass (top 2) 0
theorem sc_bw : FnScope ["self", "way"] ["self", "way"] (defScope s_bw) := ⟨rfl, rfl, rfl, by decide +kernel, rfl, by decide +kernel, by decide +kernel⟩
theorem bt_ValueError : bootBuiltins "ValueError" = some (.type "ValueError") := by decide +kernel
/-- BadWay(y): its dict holds the word and y -/
def spInS (C : Addr) (nm fld : Str) : Sp := fun vs H Q _ => ∃ (a : Addr) (y : Str), vs = [.ref a, .str y] ∧ H a = some (exo a C none) ∧ (PySem.reprText y).length ≤ 1000 ∧ ∀ dx, H dx = none → dx ≠ a → Q .non (upd (upd (upd H dx (exd dx [("word", .str nm)])) a (exo a C (some dx))) dx (exd dx [(fld, .str y), ("word", .str nm)]))
def spNeedWay (CW : Addr) : Sp := fun vs H Q E => ∃ y : Str, vs = [.str y] ∧ (PySem.reprText y).length ≤ 1000 ∧ (isWay y → ∀ H', Same H H' → Q .non H') ∧ (¬ isWay y → ∀ (d : Addr) (H' : Hp), Same H H' → H' d = some (.xd [("way", .str y), ("word", .str "BadWay")]) → E (.ref CW) (some d) H')
section
variable {P : Program} {w : World} {K : PySem.W.Frag} {mg : Str → Option Value} {base : Heap} {f : Addr} {fd : FuncData} {C D fB fD : Addr} {nm fld : Str}
theorem ok_de (T : ErrF K mg nm fld C D fB fD) {dvs : List V} {kws : List (Str × V)} (F : FunD K "__init__" "DotError.__init__" (defArgs s_de) (defBody s_de) (defScope s_de) dvs kws f fd) : FnOk P w K mg base CX0 1 f fd ["self", "word", "message"] (spDeF C) := by
  refine F.ok sc_de (fun vs H Q E h => ?_) (fun cdv A outer s H vs Q E hr h => ?_)
  · obtain ⟨a, w, m, rfl, _⟩ := h
    rfl
  obtain ⟨a, w', m, rfl, ha, q⟩ := h
  suffices z : ∃ t, PSs (cxOf CX0 P w K mg base ["self", "word", "message"] "DotError.__init__" (defScope s_de) f cdv A outer s H E).nox (defBody s_de) t ∧ t { nx := fun _ H' => Q .non H', rt := Q } (start ["self", "word", "message"] [.ref a, .str w', .str m]) H by
    obtain ⟨t, z1, z2⟩ := z
    exact ⟨t, z1.nox, z2⟩
  refine ⟨_, pss_cons (ps_expr (pe_veinit rfl T.nV T.vV (pa_cons (pv 0) (pa_cons (pv 2) pa_nil)))) (pss_one (ps_ost (pv 0) (pv 1))), ?_⟩
  refine ⟨_, rfl, _, rfl, a, C, _, rfl, by show 1 ≤ 1000; decide, T.oex, ha, ?_⟩
  exact ⟨_, rfl, _, rfl, a, C, rfl, T.oex, T.noW, .inl ⟨ha, q⟩⟩
theorem ok_bw (T : ErrF K mg "BadWay" "way" C D fB fD) (F : Fun K "__init__" "BadWay.__init__" s_bw f fd) {gd : FuncData} (GD : FnOk P w K mg base CX0 1 fD gd ["self", "word", "message"] (spDeF C)) (kD : PySem.W.keepIn K (.ref fD) = true) (bD : Binds K gd ["self", "word", "message"] []) : FnOk P w K mg base CX0 2 f fd ["self", "way"] (spInS C "BadWay" "way") := by
  refine F.ok sc_bw (fun vs H Q E h => ?_) (fun cdv A outer s H vs Q E hr h => ?_)
  · obtain ⟨a, y, rfl, _⟩ := h
    rfl
  obtain ⟨a, y, rfl, ha, hl, q⟩ := h
  refine ⟨_, pss_cons (ps_expr (pe_clsfn T.rd T.fc T.gD GD hr kD bD .nil pass0 (pa_cons (pv 0) (pa_cons pe_str (pa_cons (pe_joined (.cons (pe_fmtR (pv 1)) (.cons pe_str .nil))) pa_nil))))) (pss_one (ps_ost (pv 0) (pv 1))), ?_⟩
  have e0 : (Str.empty ++ PySem.reprText y).length ≤ 1000 := by rw [strLen_append]; exact Nat.le_trans (Nat.le_of_eq (Nat.zero_add _)) hl
  refine ⟨_, rfl, _, rfl, .inl ⟨y, rfl, Nat.le_trans hl (by decide), _, rfl, Nat.le_trans e0 (by decide), _, rfl, ?_, ?_⟩⟩
  · rw [strLen_append]
    exact Nat.le_trans (Nat.add_le_add_right e0 _) (by decide +kernel)
  refine ⟨a, _, _, rfl, ha, fun dx nd hda => ?_⟩
  refine ⟨_, rfl, _, rfl, a, C, rfl, T.oex, T.noF, .inr ⟨dx, _, upd_same, ?_, by show 1 ≤ 900; decide, q dx nd hda⟩⟩
  rw [upd_ne hda]
  exact upd_same
abbrev s_need_way : Stmt := top 17
theorem sc_need_way : FnScope ["way"] ["way"] (defScope s_need_way) := ⟨rfl, rfl, rfl, by decide +kernel, rfl, by decide +kernel, by decide +kernel⟩
theorem ok_need_way {CW : Addr} {tA tW tH : Tok} (TW : ErrF K mg "BadWay" "way" CW D fB fD) {gs : FuncData} (GS : FnOk P w K mg base CX0 2 fB gs ["self", "way"] (spInS CW "BadWay" "way")) (bS : Binds K gs ["self", "way"] []) (c_ALL : mg "ALL" = some (.str "all" tA)) (c_WALK : mg "WALK" = some (.str "walk" tW)) (c_HALVES : mg "HALVES" = some (.str "halves" tH))
    (F : Fun K "need_way" "need_way" s_need_way f fd) : FnOk P w K mg base (L2.CX P w) 6 f fd ["way"] (spNeedWay CW) := by
  refine F.okX sc_need_way (fun vs H Q E h => ?_) (fun cdv A outer s H vs Q E hr h => ?_)
  · obtain ⟨y, rfl, _⟩ := h
    rfl
  obtain ⟨y, rfl, hl, qY, qN⟩ := h
  refine ⟨_, pss_one (ps_if (pt_cmpR op_notIn_seq (pv 0) (pe_tup (pa_cons (pe_glob (v := .str "all") rfl c_ALL ⟨_, rfl⟩) (pa_cons (pe_glob (v := .str "walk") rfl c_WALK ⟨_, rfl⟩) (pa_cons (pe_glob (v := .str "halves") rfl c_HALVES ⟨_, rfl⟩) pa_nil)))) rfl) (pss_one (ps_raise rfl (takes_of rfl rfl rfl rfl) (pmk_oex TW.oex TW.iC TW.tI GS (hr.mono (by decide)) bS .nil pass0 rfl TW.gC (pa_cons (pv 0) pa_nil)))) pss_nil), ?_⟩
  refine ⟨_, rfl, sz (by decide : 3 ≤ 100000), fun pt npt => ?_⟩
  have gt := same_new npt (.tup [.str "all", .str "walk", .str "halves"])
  refine ⟨pt, _, rfl, .inr (SqT.of upd_same), rfl, rfl, _, rfl, ?_⟩
  have ein : inV (.str y) [.str "all", .str "walk", .str "halves"] = decide (isWay y) := by
    have e : inV (.str y) [.str "all", .str "walk", .str "halves"] = (((Str.ofString "all") == y) || (((Str.ofString "walk") == y) || (((Str.ofString "halves") == y) || false))) := rfl
    rw [e]
    by_cases c1 : y = Str.ofString "all"
    · rw [decide_eq_true (show isWay y from .inl c1), c1, beq_self_eq_true]
      rfl
    · rw [beq_eq_false_iff_ne.mpr (Ne.symm c1), Bool.false_or]
      by_cases c2 : y = Str.ofString "walk"
      · rw [decide_eq_true (show isWay y from .inr (.inl c2)), c2, beq_self_eq_true]
        rfl
      · rw [beq_eq_false_iff_ne.mpr (Ne.symm c2), Bool.false_or, Bool.or_false]
        by_cases c3 : y = Str.ofString "halves"
        · rw [decide_eq_true (show isWay y from .inr (.inr c3)), c3, beq_self_eq_true]
        · rw [beq_eq_false_iff_ne.mpr (Ne.symm c3), decide_eq_false (fun z : isWay y => by rcases z with z | z | z; exact c1 z; exact c2 z; exact c3 z)]
  rw [ein]
  by_cases c : isWay y
  · rw [decide_eq_true c]
    refine iteF ?_
    exact qY c _ gt
  · rw [decide_eq_false c]
    refine iteT ?_
    refine ⟨_, rfl, by show 1 ≤ 1000; decide, fun e ne => ?_⟩
    refine ⟨e, y, rfl, upd_same, hl, fun dx nd hde => ?_⟩
    have nd' := nd
    rw [upd_ne hde] at nd'
    refine ⟨rfl, dx, _, by rw [upd_ne (Ne.symm hde)]; exact upd_same, upd_same, nd', ?_⟩
    have sm := raised_same (o1 := exo e CW none) (o2 := exd dx [("word", .str "BadWay")]) (o3 := exo e CW (some dx)) (o4 := exd dx [("way", .str y), ("word", .str "BadWay")]) (o5 := .xd [("way", .str y), ("word", .str "BadWay")]) ne nd'
    exact qN c dx _ (gt.trans sm) upd_same
end
end DM

namespace DM
open PySem L2 LamX NdefX
/-- bent(stroke, spots, way=y), what it raises told too -/
def spBentR (CW : Addr) (T : List (Addr × Str)) : Sp := fun vs H Q E => ∃ (p l : Addr) (x1 y1 x2 y2 : Int) (xs : List V) (o : HO) (S : List (Int × Int)) (y : Str), vs = [.ref p, .ref l, .str y] ∧ Stk H p x1 y1 x2 y2 ∧ SeqO xs o ∧ H l = some o ∧ Prs H xs S ∧ Spts S ∧ Tabs T H ∧ (PySem.reprText y).length ≤ 1000 ∧
  (isWay y → ∀ (r : Addr) (H' : Hp) (ys : List V) (L : List (Int × Int)), ExtN H H' → Tabs T H' → (∀ b o, H b = some o → (∀ ps, o ≠ .tbl ps) → b ≠ r) → H' r = some (.lst ys) → Prs H' ys L → RowOf x1 y1 x2 y2 (· ∈ S) L → Q (.ref r) H') ∧
  (¬ isWay y → ∀ (d : Addr) (H' : Hp), Same H H' → H' d = some (.xd [("way", .str y), ("word", .str "BadWay")]) → E (.ref CW) (some d) H')
section
variable {P : Program} {w : World} {K : PySem.W.Frag} {mg : Str → Option Value} {base : Heap} {f : Addr} {fd : FuncData}
abbrev s_p_bent : Stmt := top 18
theorem sc_p_bent : FnScope ["stroke", "spots", "way", "spot"] ["stroke", "spots", "way"] (defScope s_p_bent) := ⟨rfl, rfl, rfl, by decide +kernel, rfl, by decide +kernel, by decide +kernel⟩
theorem ok_bentR {CW : Addr} {tW tH : Tok} {Pt : Addr} {q0 : Str} {n : Addr} {nd : FuncData} (GN : FnOk P w K mg base (L2.CX P w) 6 n nd ["way"] (spNeedWay CW)) (kN : PySem.W.keepIn K (.ref n) = true) (bN : Binds K nd ["way"] []) (mN : mg "need_way" = some (.ref n)) (c_WALK : mg "WALK" = some (.str "walk" tW)) (c_HALVES : mg "HALVES" = some (.str "halves" tH))
    (c_walked : Cal P w K mg base 6 "walked" ["stroke", "known"] spWalked) (c_halved : Cal P w K mg base 17 "halved" ["stroke", "spots"] (spHalved 15)) (c_sifted : Cal P w K mg base 5 "sifted" ["stroke", "spots"] (spBentT [(Pt, q0)]))
    {dvs : List V} {kws : List (Str × V)} (F : FunD K "bent" "bent" (defArgs s_p_bent) (defBody s_p_bent) (defScope s_p_bent) dvs kws f fd) : FnOk P w K mg base (L2.CX P w) 18 f fd ["stroke", "spots", "way"] (spBentR CW [(Pt, q0)]) := by
  refine F.ok sc_p_bent (fun vs H Q E h => ?_) (fun cdv A outer s H vs Q E hr h => ?_)
  · obtain ⟨p, l, x1, y1, x2, y2, xs, o, S, y, rfl, _⟩ := h
    rfl
  obtain ⟨p, l, x1, y1, x2, y2, xs, o, S, y, rfl, hst, so, hl, hP, hS, hT, hy, qY, qN⟩ := h
  refine ⟨_, (pss_cons (ps_expr (pe_call GN (hr.mono (by decide)) rfl mN kN bN .nil (passes_call (takes_of rfl rfl rfl rfl) (fun _ _ _ _ h => h)) (pa_cons (pv 2) pa_nil)))
    (pss_cons (ps_if (pt_cmpR op_eq (pv 2) (pe_glob (v := .str "walk") rfl c_WALK ⟨_, rfl⟩) (nomark _))
    (pss_one (ps_ret (pe_cal c_walked hr (pa_cons (pv 0) (pa_cons (pe_dcT (own := [("spot", 3)]) (g := gName 3) (tt := tYes) rfl (hu_of hr) sc_p_bent.nd (pi_sq (pv 1)) (blkOk_by (own := [("spot", 3)]) (N := ["stroke", "spots", "way", "spot"]) (sc := defScope s_p_bent) (by decide +kernel)) (fun _ _ _ _ _ => pg_name (i := 3) sc_p_bent.nd rfl (Or.inl rfl)) (fun _ _ _ _ _ => pts_nil) (fun _ _ _ _ _ => (pv 3)) (fun _ _ _ _ _ => pe_bl)) pa_nil)))))
    pss_nil)
    (pss_cons (ps_if (pt_cmpR op_eq (pv 2) (pe_glob (v := .str "halves") rfl c_HALVES ⟨_, rfl⟩) (nomark _))
    (pss_one (ps_ret (pe_cal c_halved hr (pa_cons (pv 0) (pa_cons (pv 1) pa_nil)))))
    pss_nil)
    (pss_one (ps_ret (pe_cal c_sifted hr (pa_cons (pv 0) (pa_cons (pv 1) pa_nil)))))))), ?_⟩
  refine ⟨_, rfl, y, rfl, hy, fun way H1 s1 => ?_, fun no d H' sm hd => qN no d H' sm hd⟩
  have hst1 := hst.same s1
  have hl1 := s1 _ _ hl
  have hP1 := hP.same s1
  have hT1 := hT.ext s1
  have lens := hP.len
  have q := qY way
  dsimp only [tNext]
  refine ⟨_, rfl, rfl, _, rfl, ?_⟩
  by_cases c1 : y = Str.ofString "walk"
  · refine iteDT (congrArg V.str c1) ?_
    refine ⟨_, rfl, _, rfl, l, rfl, ?_⟩
    refine isq_in (K := K) so hl1 ?_
    intro J wk D nD
    refine any_walk wk (fun i H' => Same H1 H' ∧ ∃ kvs : List (List Key × V), H' D = some (.dT kvs) ∧ kvs.length ≤ i ∧ ∀ q : Int × Int, (valV kvs (keyP q)).isSome = decide (q ∈ S.take i)) ?_ ?_ ?_ ?_
    · exact ⟨same_new nD _, [], upd_same, Nat.le_refl _, fun q => by rw [List.take_zero]; rfl⟩
    · rintro i H' _ ⟨e, _⟩
      exact e _ _ hl1
    · rintro i x H' hx ⟨e, kvs, hd, few, kn⟩
      obtain ⟨a, ha, ap, rfl, hap⟩ := hP1.at hx
      have i1000 : i < S.length := (List.getElem?_eq_some_iff.mp ha).1
      have s1000 := hS.2.1
      refine ⟨rfl, lc_yes ?_⟩
      refine ⟨_, rfl, kvs, keyP a, ap, rfl, e _ _ hap, hd, Nat.lt_of_lt_of_le (by omega : kvs.length < 100000) (sz (Nat.le_refl _)), fun b o z => ?_, putK kvs (keyP a) (.bl true), upd_same, ?_, fun q => ?_⟩
      · rw [upd_ne (ne_of_none z nD)]
        exact e _ _ z
      · have := putT_len kvs (keyP a) (.bl true)
        omega
      · rw [valV_put, take_snoc ha]
        by_cases c : q = a
        · subst c
          rw [if_pos rfl, decide_eq_true (List.mem_append_right _ (List.mem_singleton.mpr rfl))]
          rfl
        · rw [if_neg (fun z => c (keyP_inj.mp z)), kn q]
          exact decide_eq_decide.mpr ⟨fun z => List.mem_append_left _ z, fun z => (List.mem_append.mp z).resolve_right fun w => c (List.mem_singleton.mp w)⟩
    · rintro H2 ⟨s2, kvs, hd, _, kn⟩
      rw [lens, List.take_length] at kn
      refine ⟨p, D, x1, y1, x2, y2, kvs, S, rfl, hst1.same s2, hd, kn, fun r H3 ys L s3 nr hr3 hp3 row => ?_⟩
      have s13 := s1.trans (s2.trans s3)
      exact q r H3 ys L (ExtN.of s13) (hT.ext s13) (fun b o z _ => ne_of_none ((s1.trans s2) _ _ z) nr) hr3 hp3 row
  refine iteDF (fun z => c1 (V.str.inj z)) ?_
  dsimp only [tNext]
  refine ⟨_, rfl, rfl, _, rfl, ?_⟩
  by_cases c2 : y = Str.ofString "halves"
  · refine iteDT (congrArg V.str c2) ?_
    refine ⟨_, rfl, _, rfl, p, l, x1, y1, x2, y2, xs, o, S, rfl, hst1, so, hl1, hP1, hS.1, hS.2.1, deep_top (fun p hp => ⟨⟨(hS.2.2 p hp).1, (hS.2.2 p hp).2.1⟩, (hS.2.2 p hp).2.2⟩), fun r H3 ys L s3 nr hr3 hp3 row => ?_⟩
    have s13 := s1.trans s3
    exact q r H3 ys L (ExtN.of s13) (hT.ext s13) (fun b o z _ => ne_of_none (s1 _ _ z) nr) hr3 hp3 row
  refine iteDF (fun z => c2 (V.str.inj z)) ?_
  dsimp only [tNext]
  refine ⟨_, rfl, _, rfl, p, l, x1, y1, x2, y2, xs, o, S, rfl, hst1, so, hl1, hP1, hS, hT1, fun r H3 ys L e3 t3 nr hr3 hp3 row => ?_⟩
  exact q r H3 ys L ((ExtN.of s1).trans e3) t3 (fun b o z n => nr b o (s1 _ _ z) n) hr3 hp3 row
end
end DM

namespace DM
open PySem PySem.Spec PyProof.Rows L2
/-! ### {k: v}, k a tuple -/
def tDisp1T (tk tv : TE) : TE := fun σ H Q => ∀ D, H D = none → tk σ (upd H D (.dT [])) fun y H1 => tv σ H1 fun z H2 => ∃ (kb : Addr) (kk : List Key), y = .ref kb ∧ H2 kb = some (.tup (kk.map kV)) ∧ H2 D = some (.dT []) ∧ Q (.ref D) (upd H2 D (.dT (putK [] kk z)))
theorem pe_disp1T {X : Cx} {k v : Expr} {tk tv : TE} {pos : Pos} (hu : X.A.units + 1 < cLine) (keyE : PE X k tk) (valE : PE X v tv) : PE X (.Dict [some k] [v] pos) (tDisp1T tk tv) := by
  refine ⟨fun pins s σ H Q I want => ?_⟩
  have shape : (evalEachOpt [some k] X.env).zip ((evalEach [v] X.env).map fun v => do let x ← v; standAt pos; pure x) = [(eval k X.env, do let x ← eval v X.env; standAt pos; pure x)].map fun p => (some p.1, p.2) := rfl
  rw [arm_eval_Dict, shape, dictDisplay_pairs _ (by simp) (by show 1 < 17; decide)]
  refine wpAny_bind (wpAny_standAt (wpAny_bind ?_))
  unfold subDict
  refine wpAny_bind (wpAny_alloc (wpAny_bind (wpAny_holding ?_)))
  have new := I.hok.fresh (Nat.le_refl s.heap.objs.size)
  have I1 : Inv X pins σ (upd H s.heap.objs.size (.dT [])) { s with heap := s.heap.push { cls := .type "dict", data := .dict #[] }, toks := s.toks } := I.laid (fun b o e => Heap.get?_push_of_some _ e) (Nat.le_refl _) (dt_empty s.heap I.big)
  rw [if_pos (by show 1 ≤ 15; decide)]
  refine wpAny_bind (evalPairs_cons (thn (keyE.run pins _ σ _ _ I1 (want _ new)) fun kv s1 h1 => ?_))
  obtain ⟨y, H1, I2, ry, h1⟩ := h1
  refine wpAny_bind (thn (valE.run pins s1 σ H1 _ I2 h1) fun vv s2 h2 => wpAny_bind (wpAny_standAt (wpAny_pure (evalPairs_nil (wpAny_holding ?_)))))
  obtain ⟨z, H2, I3, rz, kb, kk, rfl, hkb, hD, fin⟩ := h2
  obtain rfl : kv = Value.ref kb := ry
  rw [List.forIn_cons]
  refine wpAny_bind (wpAny_bind ?_)
  show wpAny _ _ (do dictSet s.heap.objs.size (.ref kb) vv; pure (ForInStep.yield PUnit.unit)) _ _ s2
  refine wpAny_bind (dT_set hu I3 hD hkb (by decide) rz fun s3 I4 => wpAny_pure ?_)
  show wpAny _ _ (forIn [] PUnit.unit _) _ _ s3
  rw [List.forIn_nil]
  exact wpAny_pure (wpAny_pure (wpAny_pure (wpAny_pure ⟨.ref s.heap.objs.size, _, I4, rfl, fin⟩)))
end DM

namespace DM
open PySem L2
/-! ### sorted(l) of data that may be compared -/
def rSortD (K : PySem.W.Frag) : List V → Hp → VK → Prop := fun vs H Q => ∃ (a : Addr) (bs : List (V × PyData)), vs = [.ref a] ∧ SqL K H a (bs.map (·.1)) ∧ (∀ b ∈ bs, Dp K H b.1 b.2 ∧ b.2.depth ≤ 50) ∧ PySem.W.AllAlike (bs.map (·.2)) ∧ PySem.W.Sortable (bs.map (·.2)) ∧
  ∀ (cs : List (V × PyData)) (p : Addr), cs.Perm bs → cs.Pairwise (fun x y => PySem.W.dataLt y.2 x.2 = false) → H p = none → Q (.ref p) (upd H p (.lst (cs.map (·.1))))
section
variable {X : Cx}
theorem each_vals : ∀ {bs : List (V × PyData)} {its : List Value}, Vals (bs.map (·.1)) its → PySem.W.EachIs (fun v (b : V × PyData) => RelV b.1 v) its bs
  | [], _, r => by cases r; exact .nil
  | b :: bs, _, r => by
    cases r with
    | cons h t => exact .cons h (each_vals t)
theorem vals_each : ∀ {bs : List (V × PyData)} {its : List Value}, PySem.W.EachIs (fun v (b : V × PyData) => RelV b.1 v) its bs → Vals (bs.map (·.1)) its
  | [], _, .nil => .nil
  | _ :: _, _, .cons h t => .cons h (vals_each t)
theorem each_reads {pins : List (Addr × Obj)} {σ : St} {H : Hp} {s : Shared} (I : Inv X pins σ H s) : ∀ {bs : List (V × PyData)} {its : List Value}, (∀ b ∈ bs, Dp X.K H b.1 b.2) → Vals (bs.map (·.1)) its → PySem.W.EachIs (fun v (b : V × PyData) => ∃ as, Reads s.heap v b.2 as) its bs
  | [], _, _, r => by cases r; exact .nil
  | b :: bs, _, hd, r => by
    cases r with
    | cons h t => exact .cons (Dp.reads I b.2 b.1 _ (hd b List.mem_cons_self) h) (each_reads I (fun c hc => hd c (List.mem_cons_of_mem _ hc)) t)
theorem cr_sortD (hu : X.A.units + 64 < cLine) : CallR X (.builtin "sorted") (rSortD X.K) := by
  intro pins s σ H vs us Q I r h
  obtain ⟨a, bs, rfl, hs, hd, hal, hso, q⟩ := h
  obtain ⟨its, rv, hl, hz⟩ := I.list hs
  obtain ⟨u, rfl, ru⟩ := vals1 r
  obtain rfl : u = Value.ref a := ru
  rw [List.length_map] at hz
  refine PySem.W.sorted_data (bs := bs) (enc := fun b => b.2) (R := fun v (b : V × PyData) => RelV b.1 v) hl.isList (each_vals rv) (each_reads I (fun b hb => (hd b hb).1) rv) hal hso hz (fun b hb => ?_) fun out ho e => ?_
  · have := (hd b hb).2
    show X.A.units + 2 + b.2.depth < cLine
    omega
  · obtain ⟨n, en⟩ := PyProof.Rows.sortedAll_at s.heap its out.toArray
    have tot := PySem.W.sortLe_total (PyProof.Rows.listOrd PyProof.Rows.itemOrd) false fun b : V × PyData => PySem.W.keyToks b.2
    have pw := PySem.W.sort_pairwise tot bs
    have vb := vals_each e
    have pm := List.mergeSort_perm bs (PySem.W.dataLe false fun b => b.2)
    refine ⟨.ref (s.heap.objs.size + 1), upd H (s.heap.objs.size + 1) (.lst ((bs.mergeSort (PySem.W.dataLe false fun b => b.2)).map (·.1))), I.laid (t' := s.toks) (fun b o z => PyProof.Rows.sortedAll_old z) (Nat.le_succ _) (show ObjOk X.prog X.w _ _ _ (.lst ((bs.mergeSort (PySem.W.dataLe false fun b => b.2)).map (·.1))) from ⟨?_, out, n, vb, en⟩), rfl, q _ _ pm (pw.imp fun {x y} z => ?_) (I.hok.fresh (Nat.le_succ _))⟩
    · rw [List.length_map, pm.length_eq]
      exact hz
    · have z' : (!PySem.W.dataLt y.2 x.2) = true := z
      simpa using z'
end
end DM

namespace DM
open PySem L2
/-- what a clipping left at r -/
def CR (H : Hp) (r : Addr) : Option ((Int × Int) × (Int × Int)) → Prop
  | none => H r = some (.lst [])
  | some (p, q) => ∃ p1 p2 : Addr, H r = some (.lst [.ref p1, .ref p2]) ∧ fr H p1 p ∧ fr H p2 q
theorem CR.same {H H' : Hp} {r : Addr} : ∀ {o : Option ((Int × Int) × (Int × Int))}, CR H r o → Same H H' → CR H' r o
  | none, h, e => e _ _ h
  | some (p, q), ⟨p1, p2, a, b, c⟩, e => ⟨p1, p2, e _ _ a, e _ _ b, e _ _ c⟩
theorem shaped_two (a b c d : Int) : SeqAt.shaped (.list [.tuple [.int a, .int b], .tuple [.int c, .int d]]) = true := by
  first | rfl | simp [SeqAt.shaped, PyData.canLay0, PyData.depth]
theorem dp_cr {K : PySem.W.Frag} {H : Hp} {r : Addr} : ∀ {o : Option ((Int × Int) × (Int × Int))}, CR H r o → ∃ d, Dp K H (.ref r) d ∧ SeqAt.shaped d = true ∧ PyData.eqv d (.list []) = o.isNone
  | none, h => ⟨.list [], .lst (SqL.of h) .nil, rfl, rfl⟩
  | some (p, q), ⟨p1, p2, a, b, c⟩ => ⟨.list [.tuple [.int p.1, .int p.2], .tuple [.int q.1, .int q.2]], .lst (SqL.of a) (.cons (dp_pair b) (.cons (dp_pair c) .nil)), shaped_two _ _ _ _, rfl⟩
section
variable {P : Program} {w : World} {K : PySem.W.Frag} {mg : Str → Option Value} {base : Heap} {f : Addr} {fd : FuncData}
abbrev s_goes : Stmt := top 35
theorem sc_goes : FnScope ["_law_stroke_here", "_law_spot_here", "_law_one", "_law_other", "_law_comes", "_law_leaves", "_law_middle", "_law_when"] ["_law_stroke_here", "_law_spot_here"] (defScope s_goes) := ⟨rfl, rfl, rfl, by decide +kernel, rfl, by decide +kernel, by decide +kernel⟩
theorem ok_goes (B : Blt mg) (c_clip : Cal P w K mg base 1 "_law_clip" ["_law_begin", "_law_step", "_law_low", "_law_high"] spClp) (c_later : Cal P w K mg base 1 "_law_later" ["_law_one", "_law_other"] spLater) (c_sooner : Cal P w K mg base 1 "_law_sooner" ["_law_one", "_law_other"] spSooner) (c_inside : Cal P w K mg base 1 "_law_inside" ["_law_stroke_here", "_law_when", "_law_spot_here"] spInside) (F : Fun K "_law_goes" "_law_goes" s_goes f fd) : FnOk P w K mg base CX0 2 f fd ["_law_stroke_here", "_law_spot_here"] spGoes := by
  refine F.ok sc_goes (fun vs H Q E h => ?_) (fun cdv A outer s H vs Q E hr h => ?_)
  · obtain ⟨ps, pt, x1, y1, x2, y2, sx, sy, rfl, _⟩ := h
    rfl
  obtain ⟨ps, pt, x1, y1, x2, y2, sx, sy, rfl, hS, ht, bt, q⟩ := h
  have hs := hS.1
  have bs := hS.2.1
  refine ⟨_, (pss_cons (ps_set (i := 2) sc_goes.nd rfl (Or.inl rfl) (pe_cal c_clip hr (pa_cons (pe_op op_mul pe_int (pe_ix ix_tup (pv 0) pe_int (fun _ _ => rfl))) (pa_cons (pe_op op_mul pe_int (pe_op op_sub (pe_ix ix_tup (pv 0) pe_int (fun _ _ => rfl)) (pe_ix ix_tup (pv 0) pe_int (fun _ _ => rfl)))) (pa_cons (pe_op op_sub (pe_op op_mul pe_int (pe_ix ix_tup (pv 1) pe_int (fun _ _ => rfl))) pe_int) (pa_cons (pe_op op_add (pe_op op_mul pe_int (pe_ix ix_tup (pv 1) pe_int (fun _ _ => rfl))) pe_int) pa_nil))))))
    (pss_cons (ps_set (i := 3) sc_goes.nd rfl (Or.inl rfl) (pe_cal c_clip hr (pa_cons (pe_op op_mul pe_int (pe_ix ix_tup (pv 0) pe_int (fun _ _ => rfl))) (pa_cons (pe_op op_mul pe_int (pe_op op_sub (pe_ix ix_tup (pv 0) pe_int (fun _ _ => rfl)) (pe_ix ix_tup (pv 0) pe_int (fun _ _ => rfl)))) (pa_cons (pe_op op_sub (pe_op op_mul pe_int (pe_ix ix_tup (pv 1) pe_int (fun _ _ => rfl))) pe_int) (pa_cons (pe_op op_add (pe_op op_mul pe_int (pe_ix ix_tup (pv 1) pe_int (fun _ _ => rfl))) pe_int) pa_nil))))))
    (pss_cons (ps_if (PW.pt (pw_or (pt_cmpR (op_eqD hr.units) (pv 2) (pe_lst pa_nil) (nomark _)) (pw_or1 (pt_cmpR (op_eqD hr.units) (pv 3) (pe_lst pa_nil) (nomark _)))))
    (pss_one (ps_ret pe_bl))
    pss_nil)
    (pss_cons (ps_set (i := 4) sc_goes.nd rfl (Or.inl rfl) (pe_cal c_later hr (pa_cons (pe_tup (pa_cons pe_int (pa_cons pe_int pa_nil))) (pa_cons (pe_cal c_later hr (pa_cons (pe_ix ix_list (pv 2) pe_int (fun _ _ => rfl)) (pa_cons (pe_ix ix_list (pv 3) pe_int (fun _ _ => rfl)) pa_nil))) pa_nil))))
    (pss_cons (ps_set (i := 5) sc_goes.nd rfl (Or.inl rfl) (pe_cal c_sooner hr (pa_cons (pe_tup (pa_cons pe_int (pa_cons pe_int pa_nil))) (pa_cons (pe_cal c_sooner hr (pa_cons (pe_ix ix_list (pv 2) pe_int (fun _ _ => rfl)) (pa_cons (pe_ix ix_list (pv 3) pe_int (fun _ _ => rfl)) pa_nil))) pa_nil))))
    (pss_cons (ps_if (pt_cmpR op_lt (pe_op op_mul (pe_ix ix_tup (pv 5) pe_int (fun _ _ => rfl)) (pe_ix ix_tup (pv 4) pe_int (fun _ _ => rfl))) (pe_op op_mul (pe_ix ix_tup (pv 4) pe_int (fun _ _ => rfl)) (pe_ix ix_tup (pv 5) pe_int (fun _ _ => rfl))) (nomark _))
    (pss_one (ps_ret pe_bl))
    pss_nil)
    (pss_cons (ps_set (i := 6) sc_goes.nd rfl (Or.inl rfl) (pe_tup (pa_cons (pe_op op_add (pe_op op_mul (pe_ix ix_tup (pv 4) pe_int (fun _ _ => rfl)) (pe_ix ix_tup (pv 5) pe_int (fun _ _ => rfl))) (pe_op op_mul (pe_ix ix_tup (pv 5) pe_int (fun _ _ => rfl)) (pe_ix ix_tup (pv 4) pe_int (fun _ _ => rfl)))) (pa_cons (pe_op op_mul (pe_op op_mul pe_int (pe_ix ix_tup (pv 4) pe_int (fun _ _ => rfl))) (pe_ix ix_tup (pv 5) pe_int (fun _ _ => rfl))) pa_nil))))
    (pss_one (ps_ret (pe_callB (cr_any rfl) rfl B.any bt_any (pa_cons (pe_lc (own := [("_law_when", 7)]) (g := gName 7) (tt := tYes) rfl sc_goes.nd (pi_list (pe_lst (pa_cons (pv 4) (pa_cons (pv 5) (pa_cons (pv 6) pa_nil))))) (blkOk_by (own := [("_law_when", 7)]) (N := ["_law_stroke_here", "_law_spot_here", "_law_one", "_law_other", "_law_comes", "_law_leaves", "_law_middle", "_law_when"]) (sc := defScope s_goes) (by decide +kernel)) (fun _ _ _ _ _ => pg_name (i := 7) sc_goes.nd rfl (Or.inl rfl)) (fun _ _ _ _ _ => pts_nil) (fun _ _ _ _ _ => (pe_cal c_inside hr (pa_cons (pv 0) (pa_cons (pv 7) (pa_cons (pv 1) pa_nil)))))) pa_nil))))))))))), ?_⟩
  refine seq_with (fun σ' H' => ∃ r1, σ' = [some (.ref ps), some (.ref pt), some (.ref r1), none, none, none, none, none] ∧ Same H H' ∧ CR H' r1 (clip (2 * x1) (2 * (x2 - x1)) (2 * sx - 1) (2 * sx + 1))) (fun R hR => ?_) ?_
  · refine ⟨_, rfl, ps, _, _, _, rfl, rfl, SqT.of hs, rfl, _, _, rfl, rfl, .inl ⟨by decide, by decide⟩, _, rfl, ps, _, _, _, rfl, rfl, SqT.of hs, rfl, _, rfl, ps, _, _, _, rfl, rfl, SqT.of hs, rfl, _, _, rfl, rfl, _, _, rfl, rfl, .inl ⟨by decide, by decide⟩, ?_⟩
    refine ⟨_, rfl, pt, _, _, _, rfl, rfl, SqT.of ht, rfl, _, _, rfl, rfl, .inl ⟨by decide, by decide⟩, _, _, rfl, rfl, _, rfl, pt, _, _, _, rfl, rfl, SqT.of ht, rfl, _, _, rfl, rfl, .inl ⟨by decide, by decide⟩, _, _, rfl, rfl, ?_⟩
    refine ⟨_, _, _, _, rfl, fun hn r H1 s1 e1 => ?_, fun p q' hp r p1 p2 H1 s1 e1 f1 f2 => ?_⟩
    · exact hR _ _ ⟨r, rfl, s1, by rw [hn]; exact e1⟩
    · exact hR _ _ ⟨r, rfl, s1, by rw [hp]; exact ⟨p1, p2, e1, f1, f2⟩⟩
  rintro σ1 H1 ⟨r1, rfl, s1, hc1⟩
  have hs1 := s1 _ _ hs
  have ht1 := s1 _ _ ht
  refine seq_with (fun σ' H' => ∃ r2, σ' = [some (.ref ps), some (.ref pt), some (.ref r1), some (.ref r2), none, none, none, none] ∧ Same H1 H' ∧ CR H' r2 (clip (2 * y1) (2 * (y2 - y1)) (2 * sy - 1) (2 * sy + 1))) (fun R hR => ?_) ?_
  · refine ⟨_, rfl, ps, _, _, _, rfl, rfl, SqT.of hs1, rfl, _, _, rfl, rfl, .inl ⟨by decide, by decide⟩, _, rfl, ps, _, _, _, rfl, rfl, SqT.of hs1, rfl, _, rfl, ps, _, _, _, rfl, rfl, SqT.of hs1, rfl, _, _, rfl, rfl, _, _, rfl, rfl, .inl ⟨by decide, by decide⟩, ?_⟩
    refine ⟨_, rfl, pt, _, _, _, rfl, rfl, SqT.of ht1, rfl, _, _, rfl, rfl, .inl ⟨by decide, by decide⟩, _, _, rfl, rfl, _, rfl, pt, _, _, _, rfl, rfl, SqT.of ht1, rfl, _, _, rfl, rfl, .inl ⟨by decide, by decide⟩, _, _, rfl, rfl, ?_⟩
    refine ⟨_, _, _, _, rfl, fun hn r H1 s1 e1 => ?_, fun p q' hp r p1 p2 H1 s1 e1 f1 f2 => ?_⟩
    · exact hR _ _ ⟨r, rfl, s1, by rw [hn]; exact e1⟩
    · exact hR _ _ ⟨r, rfl, s1, by rw [hp]; exact ⟨p1, p2, e1, f1, f2⟩⟩
  rintro σ2 H2 ⟨r2, rfl, s2, hc2⟩
  have hc1 := hc1.same s2
  have s02 := s1.trans s2
  obtain ⟨d1, dp1, sh1, ev1⟩ := dp_cr (K := K) hc1
  refine ⟨_, rfl, sz (by decide : 0 ≤ 100000), fun e1 ne1 => ?_⟩
  have ge1 := same_new ne1 (.lst [])
  obtain ⟨d1', dp1', sh1', ev1'⟩ := dp_cr (K := K) (hc1.same ge1)
  refine ⟨_, _, dp1', .lst (SqL.of upd_same) .nil, sh1', rfl, _, rfl, ?_⟩
  rw [ev1']
  cases ex : clip (2 * x1) (2 * (x2 - x1)) (2 * sx - 1) (2 * sx + 1) with
  | none =>
    refine iteT (iteT ?_)
    have e : goesL x1 y1 x2 y2 sx sy = false := by unfold goesL; rw [ex]
    rw [e] at q
    exact q _ (s02.trans ge1)
  | some pq =>
    obtain ⟨px, qx⟩ := pq
    rw [ex] at hc1
    refine iteF ?_
    refine ⟨_, rfl, sz (by decide : 0 ≤ 100000), fun e2 ne2 => ?_⟩
    have ge2 := same_new ne2 (.lst [])
    have s24 := ge1.trans ge2
    obtain ⟨d2, dp2, sh2, ev2⟩ := dp_cr (K := K) (hc2.same s24)
    refine ⟨_, _, dp2, .lst (SqL.of upd_same) .nil, sh2, rfl, _, rfl, ?_⟩
    rw [ev2]
    cases ey : clip (2 * y1) (2 * (y2 - y1)) (2 * sy - 1) (2 * sy + 1) with
    | none =>
      refine iteT ?_
      have e : goesL x1 y1 x2 y2 sx sy = false := by unfold goesL; rw [ex, ey]
      rw [e] at q
      exact q _ (s02.trans s24)
    | some pq =>
      obtain ⟨py, qy⟩ := pq
      rw [ey] at hc2
      refine iteF ?_
      obtain ⟨a1, a2, k1, f1, f2⟩ := hc1
      obtain ⟨b1, b2, k2, g1, g2⟩ := hc2
      have smx := sm_clip ex (by omega) (by omega) (by omega) (by omega)
      have smy := sm_clip ey (by omega) (by omega) (by omega) (by omega)
      have sm0 : sm 10000 (0, 1) := ⟨by decide, by decide, by decide, by decide⟩
      have sm1 : sm 10000 (1, 1) := ⟨by decide, by decide, by decide, by decide⟩
      have up : ∀ {z : Int × Int}, sm 10000 z → sm 1000000000 z := fun {z} h => by unfold sm at *; omega
      -- comes
      refine ⟨sz (by decide : 2 ≤ 100000), fun z1 nz1 => ?_⟩
      have gz1 := same_new nz1 (.tup [.int 0, .int 1])
      have s25 := s24.trans gz1
      refine ⟨_, rfl, r1, _, _, _, rfl, rfl, SqL.of (s25 _ _ k1), rfl, _, rfl, r2, _, _, _, rfl, rfl, SqL.of (s25 _ _ k2), rfl, a1, b1, px, py, rfl, s25 _ _ f1, s25 _ _ g1, up smx.1, fun l1 hl1 => ?_⟩
      refine ⟨z1, l1, (0, 1), later px py, rfl, upd_same, hl1, up sm0, fun pc hpc => ?_⟩
      -- leaves
      refine ⟨sz (by decide : 2 ≤ 100000), fun z2 nz2 => ?_⟩
      have gz2 := same_new nz2 (.tup [.int 1, .int 1])
      have s26 := s25.trans gz2
      refine ⟨_, rfl, r1, _, _, _, rfl, rfl, SqL.of (s26 _ _ k1), rfl, _, rfl, r2, _, _, _, rfl, rfl, SqL.of (s26 _ _ k2), rfl, a2, b2, qx, qy, rfl, s26 _ _ f2, s26 _ _ g2, up smx.2, fun l2 hl2 => ?_⟩
      refine ⟨z2, l2, (1, 1), sooner qx qy, rfl, upd_same, hl2, up sm1, fun pe hpe => ?_⟩
      have smc : sm 10000 (later (0, 1) (later px py)) := sm_later sm0 (sm_later smx.1 smy.1)
      have sme : sm 10000 (sooner (1, 1) (sooner qx qy)) := sm_sooner sm1 (sm_sooner smx.2 smy.2)
      have hpc := gz2 _ _ hpc
      have eg : goesL x1 y1 x2 y2 sx sy = (if (sooner (1, 1) (sooner qx qy)).1 * (later (0, 1) (later px py)).2 < (later (0, 1) (later px py)).1 * (sooner (1, 1) (sooner qx qy)).2 then false else decide (Ins x1 y1 x2 y2 sx sy (later (0, 1) (later px py)).1 (later (0, 1) (later px py)).2) || (decide (Ins x1 y1 x2 y2 sx sy (sooner (1, 1) (sooner qx qy)).1 (sooner (1, 1) (sooner qx qy)).2) || decide (Ins x1 y1 x2 y2 sx sy ((later (0, 1) (later px py)).1 * (sooner (1, 1) (sooner qx qy)).2 + (sooner (1, 1) (sooner qx qy)).1 * (later (0, 1) (later px py)).2) (2 * (later (0, 1) (later px py)).2 * (sooner (1, 1) (sooner qx qy)).2)))) := by
        unfold goesL
        rw [ex, ey]
      rw [eg] at q
      unfold fr at hpe
      unfold sm at smc sme
      generalize later (0, 1) (later px py) = c at *
      generalize sooner (1, 1) (sooner qx qy) = e at *
      refine ⟨_, rfl, pe, _, _, _, rfl, rfl, SqT.of hpe, rfl, _, rfl, pc, _, _, _, rfl, rfl, SqT.of hpc, rfl, _, _, rfl, rfl, .inl ⟨by omega, by omega⟩, ?_⟩
      refine ⟨_, rfl, pc, _, _, _, rfl, rfl, SqT.of hpc, rfl, _, rfl, pe, _, _, _, rfl, rfl, SqT.of hpe, rfl, _, _, rfl, rfl, .inl ⟨by omega, by omega⟩, _, _, rfl, rfl, _, rfl, ?_⟩
      by_cases hlt : e.1 * c.2 < c.1 * e.2
      · refine iteDT hlt ?_
        rw [if_pos hlt] at q
        exact q _ (s02.trans s26)
      · refine iteDF hlt ?_
        rw [if_neg hlt] at q
        refine ⟨_, rfl, pc, _, _, _, rfl, rfl, SqT.of hpc, rfl, _, rfl, pe, _, _, _, rfl, rfl, SqT.of hpe, rfl, _, _, rfl, rfl, .inl ⟨by omega, by omega⟩, ?_⟩
        refine ⟨_, rfl, pe, _, _, _, rfl, rfl, SqT.of hpe, rfl, _, rfl, pc, _, _, _, rfl, rfl, SqT.of hpc, rfl, _, _, rfl, rfl, .inl ⟨by omega, by omega⟩, _, _, rfl, rfl, ?_⟩
        refine ⟨_, rfl, pc, _, _, _, rfl, rfl, SqT.of hpc, rfl, _, _, rfl, rfl, .inl ⟨by decide, by decide⟩, _, rfl, pe, _, _, _, rfl, rfl, SqT.of hpe, rfl, _, _, rfl, rfl, .inl ⟨by omega, by omega⟩, sz (by decide : 2 ≤ 100000), fun pm nm => ?_⟩
        have gm := same_new nm (.tup [.int (c.1 * e.2 + e.1 * c.2), .int (2 * c.2 * e.2)])
        have hpc := gm _ _ hpc
        have hpe := gm _ _ hpe
        refine ⟨_, rfl, _, rfl, _, rfl, sz (by decide : 3 ≤ 100000), fun pl nl => ?_⟩
        have gl := same_new nl (.lst [.ref pc, .ref pe, .ref pm])
        have s28 := s26.trans (gm.trans gl)
        refine ⟨pl, rfl, ⟨_, SqL.of upd_same⟩, fun D hD => ?_⟩
        have gD := same_new hD (.lst [])
        obtain ⟨bsl, hbs⟩ : ∃ bsl : List Bool, bsl = [decide (Ins x1 y1 x2 y2 sx sy c.1 c.2), decide (Ins x1 y1 x2 y2 sx sy e.1 e.2), decide (Ins x1 y1 x2 y2 sx sy (c.1 * e.2 + e.1 * c.2) (2 * c.2 * e.2))] := ⟨_, rfl⟩
        have hpc := gl _ _ hpc
        have hpe := gl _ _ hpe
        have hpm := gl _ _ (upd_same (H := _) (a := pm) (o := .tup [.int (c.1 * e.2 + e.1 * c.2), .int (2 * c.2 * e.2)]))
        have s08 := s02.trans s28
        have dl : pl ≠ D := ne_of_none upd_same hD
        have dc : pc ≠ D := ne_of_none hpc hD
        have de : pe ≠ D := ne_of_none hpe hD
        have dm : pm ≠ D := ne_of_none hpm hD
        refine lc_list (K := K) (a := pl) (xs := [.ref pc, .ref pe, .ref pm]) (fun i H' => Same H H' ∧ H' pl = some (.lst [.ref pc, .ref pe, .ref pm]) ∧ H' pc = some (.tup [.int c.1, .int c.2]) ∧ H' pe = some (.tup [.int e.1, .int e.2]) ∧ H' pm = some (.tup [.int (c.1 * e.2 + e.1 * c.2), .int (2 * c.2 * e.2)]) ∧ H' D = some (.lst ((bsl.take i).map V.bl))) ?_ ?_ ?_ ?_
        · exact ⟨s08.trans gD, gD _ _ upd_same, gD _ _ hpc, gD _ _ hpe, gD _ _ hpm, upd_same⟩
        · rintro i H' _ ⟨_, hl, _⟩
          exact SqL.of hl
        · rintro i x H' hx ⟨sm', hl', hc', he', hm', hd'⟩
          refine ⟨rfl, lc_yes ?_⟩
          have small : ((bsl.take i).map V.bl).length < sizeLine := by
            rw [List.length_map, List.length_take]
            exact Nat.lt_of_le_of_lt (Nat.min_le_right _ _) (by rw [hbs]; exact Nat.lt_of_lt_of_le (by decide : 3 < 100000) (sz (Nat.le_refl _)))
          have again : ∀ b : Bool, bsl[i]? = some b → Same H (upd H' D (.lst ((bsl.take i).map V.bl ++ [.bl b]))) ∧ upd H' D (.lst ((bsl.take i).map V.bl ++ [.bl b])) pl = some (.lst [.ref pc, .ref pe, .ref pm]) ∧ upd H' D (.lst ((bsl.take i).map V.bl ++ [.bl b])) pc = some (.tup [.int c.1, .int c.2]) ∧ upd H' D (.lst ((bsl.take i).map V.bl ++ [.bl b])) pe = some (.tup [.int e.1, .int e.2]) ∧ upd H' D (.lst ((bsl.take i).map V.bl ++ [.bl b])) pm = some (.tup [.int (c.1 * e.2 + e.1 * c.2), .int (2 * c.2 * e.2)]) ∧ upd H' D (.lst ((bsl.take i).map V.bl ++ [.bl b])) D = some (.lst ((bsl.take (i + 1)).map V.bl)) := fun b hb =>
            ⟨fun a o ea => by rw [upd_ne (ne_of_none (s08 _ _ ea) hD)]; exact sm' _ _ ea, by rw [upd_ne dl]; exact hl', by rw [upd_ne dc]; exact hc', by rw [upd_ne de]; exact he', by rw [upd_ne dm]; exact hm', by rw [upd_same, List.take_succ, hb, List.map_append]; rfl⟩
          match i, hx, hd', small, again with
          | 0, hx, hd', small, again => cases hx; exact ⟨_, rfl, _, rfl, _, rfl, ps, pt, pc, x1, y1, x2, y2, sx, sy, _, _, rfl, hS.same sm', hc', sm' _ _ ht, bt, _, hd', small, again _ (by rw [hbs]; rfl)⟩
          | 1, hx, hd', small, again => cases hx; exact ⟨_, rfl, _, rfl, _, rfl, ps, pt, pe, x1, y1, x2, y2, sx, sy, _, _, rfl, hS.same sm', he', sm' _ _ ht, bt, _, hd', small, again _ (by rw [hbs]; rfl)⟩
          | 2, hx, hd', small, again => cases hx; exact ⟨_, rfl, _, rfl, _, rfl, ps, pt, pm, x1, y1, x2, y2, sx, sy, _, _, rfl, hS.same sm', hm', sm' _ _ ht, bt, _, hd', small, again _ (by rw [hbs]; rfl)⟩
        · rintro H' ⟨sm', hl', hc', he', hm', hd'⟩
          refine ⟨D, bsl, rfl, SqL.of (by rw [hd', hbs]; rfl), ?_⟩
          have ea : bsl.any id = (decide (Ins x1 y1 x2 y2 sx sy c.1 c.2) || (decide (Ins x1 y1 x2 y2 sx sy e.1 e.2) || decide (Ins x1 y1 x2 y2 sx sy (c.1 * e.2 + e.1 * c.2) (2 * c.2 * e.2)))) := by
            rw [hbs]
            simp only [List.any_cons, List.any_nil, id, Bool.or_false]
          rw [ea]
          exact q _ sm'
end
end DM

namespace DM
open PySem L2 LamX NdefX
def spNear : Sp := fun vs H Q _ => ∃ (b l p : Addr) (x1 y1 x2 y2 : Int), vs = [.ref b, .ref p] ∧ BagAt H b l ∧ Stk H p x1 y1 x2 y2 ∧ ∀ (r : Addr) (H' : Hp) (x y : Int), BagAt H' b l → But b H H' → Pt H' r x y → Q (.ref r) H'
def spSomeS : Sp := fun vs H Q _ => ∃ (b l p : Addr) (x1 y1 x2 y2 : Int), vs = [.ref b, .ref p] ∧ BagAt H b l ∧ Stk H p x1 y1 x2 y2 ∧ ∀ (r : Addr) (H' : Hp) (xs : List V) (S : List (Int × Int)), BagAt H' b l → But b H H' → H r = none → r ≠ b → H' r = some (.lst xs) → Prs H' xs S → Spts S → S.length ≤ 24 → Q (.ref r) H'
def spLBent : Sp := fun vs H Q _ => ∃ (p l : Addr) (x1 y1 x2 y2 : Int) (xs : List V) (S : List (Int × Int)), vs = [.ref p, .ref l] ∧ Stk H p x1 y1 x2 y2 ∧ H l = some (.lst xs) ∧ Prs H xs S ∧ Spts S ∧
  ∀ (r : Addr) (H' : Hp) (ys : List V) (L : List (Int × Int)), Same H H' → H r = none → H' r = some (.lst ys) → Prs H' ys L → RowOf x1 y1 x2 y2 (· ∈ S) L → Q (.ref r) H'
/-- a dict of pairs, each True: another one put in -/
def addP (S : List (Int × Int)) (p : Int × Int) : List (Int × Int) := if p ∈ S then S else S ++ [p]
theorem put_tab (S : List (Int × Int)) (p : Int × Int) : putK (tabP S) (keyP p) (.bl true) = tabP (addP S p) := by
  unfold putK addP
  by_cases c : p ∈ S
  · rw [if_pos c, if_pos (by
      rw [List.any_eq_true]
      exact ⟨(keyP p, .bl true), List.mem_map.mpr ⟨p, c, rfl⟩, by simp⟩)]
    unfold tabP
    rw [List.map_map]
    refine List.map_congr_left fun q _ => ?_
    show (if keyP q = keyP p then (keyP q, V.bl true) else (keyP q, V.bl true)) = (keyP q, V.bl true)
    split <;> rfl
  · rw [if_neg c, if_neg (by
      intro z
      rw [List.any_eq_true] at z
      obtain ⟨x, hx, e⟩ := z
      obtain ⟨q, hq, rfl⟩ := List.mem_map.mp hx
      have e' : keyP q = keyP p := by simpa using e
      exact c (keyP_inj.mp e' ▸ hq))]
    unfold tabP
    rw [List.map_append]
    rfl
theorem keys_prs {H : Hp} : ∀ {S : List (Int × Int)} {bs : List Addr}, IsKeys H (tabP S) bs → Prs H (bs.map V.ref) S
  | [], _, .nil => .nil
  | _ :: _, _, .cons h t => .cons ⟨_, rfl, h⟩ (keys_prs t)
theorem perm_unmap {α β : Type} (g : α → β) {l : List β} {zs : List α} (h : l.Perm (zs.map g)) : ∃ ws : List α, ws.Perm zs ∧ ws.map g = l := by
  generalize hm : zs.map g = m at h
  induction h generalizing zs with
  | nil =>
    cases zs with
    | nil => exact ⟨[], List.Perm.refl _, rfl⟩
    | cons a t => cases hm
  | cons x _ ih =>
    cases zs with
    | nil => cases hm
    | cons z zs =>
      rw [List.map_cons] at hm
      obtain ⟨h1, h2⟩ := List.cons.inj hm
      obtain ⟨ws, p, e⟩ := ih h2
      exact ⟨z :: ws, p.cons z, by rw [List.map_cons, e, h1]⟩
  | swap x y l =>
    match zs, hm with
    | a :: b :: t, hm =>
      rw [List.map_cons, List.map_cons] at hm
      obtain ⟨h1, h2⟩ := List.cons.inj hm
      obtain ⟨h3, h4⟩ := List.cons.inj h2
      exact ⟨b :: a :: t, .swap .., by rw [List.map_cons, List.map_cons, h1, h3, h4]⟩
  | trans _ _ ih1 ih2 =>
    obtain ⟨ws, p, e⟩ := ih2 hm
    obtain ⟨vs, p', e'⟩ := ih1 e
    exact ⟨vs, p'.trans p, e'⟩
/-- spots that a stroke goes through, sorted by a number that rises along it, are its row -/
theorem row_of_rank {x1 y1 x2 y2 : Int} {S L : List (Int × Int)} {rk : Int × Int → Int} (rises : ∀ p q, ahead x1 y1 x2 y2 p q → rk p < rk q) (nd : S.Nodup) (pm : L.Perm (S.filter fun p => goesL x1 y1 x2 y2 p.1 p.2)) (pw : L.Pairwise fun p q => ¬ rk q < rk p) : RowOf x1 y1 x2 y2 (· ∈ S) L := by
  have mem : ∀ p, p ∈ L ↔ p ∈ S ∧ Thr x1 y1 x2 y2 p.1 p.2 := fun p => by
    rw [pm.mem_iff, List.mem_filter, goesL_iff]
  refine ⟨mem, ?_⟩
  have ndL : L.Nodup := pm.nodup_iff.mpr (nd.filter _)
  refine (pw.and ndL).imp_of_mem fun {p q} hp hq z => ?_
  rcases thr_chain ((mem p).mp hp).2 ((mem q).mp hq).2 with h | h | h
  · exact absurd h z.2
  · exact h
  · exact absurd (rises _ _ h) z.1
/-- pairs of how far along a spot lies, and the spot -/
def farL (x1 y1 x2 y2 : Int) (a : Int × Int) : Int := (a.1 - x1) * (x2 - x1) + (a.2 - y1) * (y2 - y1)
def FarV (H : Hp) (x1 y1 x2 y2 : Int) (v : V) (a : Int × Int) : Prop := ∃ t q : Addr, v = .ref t ∧ H t = some (.tup [.int (farL x1 y1 x2 y2 a), .ref q]) ∧ H q = some (.tup [.int a.1, .int a.2])
inductive Fars (H : Hp) (x1 y1 x2 y2 : Int) : List V → List (Int × Int) → Prop
  | nil : Fars H x1 y1 x2 y2 [] []
  | cons {v : V} {a : Int × Int} {vs : List V} {L : List (Int × Int)} : FarV H x1 y1 x2 y2 v a → Fars H x1 y1 x2 y2 vs L → Fars H x1 y1 x2 y2 (v :: vs) (a :: L)
section
variable {H H' : Hp} {x1 y1 x2 y2 : Int} {vs : List V} {L : List (Int × Int)}
theorem FarV.keep {v : V} {a : Int × Int} (h : FarV H x1 y1 x2 y2 v a) (e : ∀ b xs, H b = some (.tup xs) → H' b = some (.tup xs)) : FarV H' x1 y1 x2 y2 v a := by
  obtain ⟨t, q, rfl, h1, h2⟩ := h
  exact ⟨t, q, rfl, e _ _ h1, e _ _ h2⟩
theorem Fars.keep (h : Fars H x1 y1 x2 y2 vs L) (e : ∀ b xs, H b = some (.tup xs) → H' b = some (.tup xs)) : Fars H' x1 y1 x2 y2 vs L := by
  induction h with
  | nil => exact .nil
  | cons a _ ih => exact .cons (a.keep e) ih
theorem Fars.same (h : Fars H x1 y1 x2 y2 vs L) (e : Same H H') : Fars H' x1 y1 x2 y2 vs L := h.keep fun b _ z => e b _ z
theorem Fars.len (h : Fars H x1 y1 x2 y2 vs L) : vs.length = L.length := by
  induction h with
  | nil => rfl
  | cons _ _ ih => rw [List.length_cons, List.length_cons, ih]
theorem Fars.snoc {v : V} {a : Int × Int} (h : Fars H x1 y1 x2 y2 vs L) (hv : FarV H x1 y1 x2 y2 v a) : Fars H x1 y1 x2 y2 (vs ++ [v]) (L ++ [a]) := by
  induction h with
  | nil => exact .cons hv .nil
  | cons b _ ih => exact .cons b ih
/-- as items with their data -/
def farD (x1 y1 x2 y2 : Int) (a : Int × Int) : PyData := .tuple [.int (farL x1 y1 x2 y2 a), .tuple [.int a.1, .int a.2]]
theorem far_ahead {p q : Int × Int} (h : ahead x1 y1 x2 y2 p q) : farL x1 y1 x2 y2 p < farL x1 y1 x2 y2 q := by
  have a := ahead_along h
  unfold along at a
  unfold farL
  rw [Int.sub_mul, Int.sub_mul, Int.sub_mul, Int.sub_mul]
  omega
theorem far_less {p q : Int × Int} (h : farL x1 y1 x2 y2 p < farL x1 y1 x2 y2 q) : PySem.W.dataLt (farD x1 y1 x2 y2 p) (farD x1 y1 x2 y2 q) = true := by
  unfold farD
  rw [PySem.W.dataLt_tuple, PySem.W.dataLt_all_no (by simp [PySem.W.alike]) (by simp [PyData.eqv]; omega), PySem.W.dataLt_int]
  exact decide_eq_true h
theorem Fars.items (h : Fars H x1 y1 x2 y2 vs L) : vs = (vs.zip L).map (·.1) ∧ L = (vs.zip L).map (·.2) ∧ ∀ z ∈ vs.zip L, FarV H x1 y1 x2 y2 z.1 z.2 := by
  induction h with
  | nil => exact ⟨rfl, rfl, fun z hz => by cases hz⟩
  | cons a _ ih =>
    refine ⟨by rw [List.zip_cons_cons, List.map_cons, ← ih.1], by rw [List.zip_cons_cons, List.map_cons, ← ih.2.1], fun z hz => ?_⟩
    rw [List.zip_cons_cons] at hz
    rcases List.mem_cons.mp hz with rfl | hz
    · exact a
    · exact ih.2.2 z hz
theorem fars_of : ∀ {zs : List (V × (Int × Int))}, (∀ z ∈ zs, FarV H x1 y1 x2 y2 z.1 z.2) → Fars H x1 y1 x2 y2 (zs.map (·.1)) (zs.map (·.2))
  | [], _ => .nil
  | z :: zs, h => .cons (h z List.mem_cons_self) (fars_of fun u hu => h u (List.mem_cons_of_mem _ hu))
end
section
variable {P : Program} {w : World} {K : PySem.W.Frag} {mg : Str → Option Value} {base : Heap} {f : Addr} {fd : FuncData}
abbrev s_near_spot : Stmt := top 37
theorem sc_near_spot : FnScope ["_law_bag_here", "_law_stroke_here", "_law_k", "_law_x", "_law_y"] ["_law_bag_here", "_law_stroke_here"] (defScope s_near_spot) := ⟨rfl, rfl, rfl, by decide +kernel, rfl, by decide +kernel, by decide +kernel⟩
theorem ok_near_spot (c_pull : Cal P w K mg base 1 "_law_pull" ["_law_bag_here", "_law_amount"] spPull) (c_clipped : Cal P w K mg base 1 "_law_clipped" ["_law_number"] spClip) (F : Fun K "_law_near_spot" "_law_near_spot" s_near_spot f fd) : FnOk P w K mg base CX0 2 f fd ["_law_bag_here", "_law_stroke_here"] spNear := by
  refine F.ok sc_near_spot (fun vs H Q E h => ?_) (fun cdv A outer s H vs Q E hr h => ?_)
  · obtain ⟨b, l, p, x1, y1, x2, y2, rfl, _⟩ := h
    rfl
  obtain ⟨b, l, p, x1, y1, x2, y2, rfl, hB, hst, q⟩ := h
  refine ⟨_, (pss_cons (ps_set (i := 2) sc_near_spot.nd rfl (Or.inl rfl) (pe_cal c_pull hr (pa_cons (pv 0) (pa_cons pe_int pa_nil))))
    (pss_cons (ps_set (i := 3) sc_near_spot.nd rfl (Or.inl rfl) (pe_op op_add (pe_ix ix_tup (pv 1) pe_int (fun _ _ => rfl)) (pe_op op_fdiv (pe_op op_mul (pe_op op_sub (pe_ix ix_tup (pv 1) pe_int (fun _ _ => rfl)) (pe_ix ix_tup (pv 1) pe_int (fun _ _ => rfl))) (pv 2)) pe_int)))
    (pss_cons (ps_set (i := 4) sc_near_spot.nd rfl (Or.inl rfl) (pe_op op_add (pe_ix ix_tup (pv 1) pe_int (fun _ _ => rfl)) (pe_op op_fdiv (pe_op op_mul (pe_op op_sub (pe_ix ix_tup (pv 1) pe_int (fun _ _ => rfl)) (pe_ix ix_tup (pv 1) pe_int (fun _ _ => rfl))) (pv 2)) pe_int)))
    (pss_one (ps_ret (pe_tup (pa_cons (pe_cal c_clipped hr (pa_cons (pe_op op_sub (pe_op op_add (pv 3) (pe_cal c_pull hr (pa_cons (pv 0) (pa_cons pe_int pa_nil)))) pe_int) pa_nil)) (pa_cons (pe_cal c_clipped hr (pa_cons (pe_op op_sub (pe_op op_add (pv 4) (pe_cal c_pull hr (pa_cons (pv 0) (pa_cons pe_int pa_nil)))) pe_int) pa_nil)) pa_nil)))))))), ?_⟩
  have bd := hst.2.1
  refine seq_with (fun σ' J => ∃ k : Int, σ' = [some (.ref b), some (.ref p), some (.int k), none, none] ∧ BagAt J b l ∧ But b H J ∧ 0 ≤ k ∧ k < 9) (fun R hR => ?_) ?_
  · exact ⟨_, rfl, b, l, _, rfl, hB, by decide, by decide, fun k J hJ bJ k0 k1 => hR _ _ ⟨k, rfl, hJ, bJ, k0, k1⟩⟩
  rintro _ J1 ⟨k, rfl, hB1, b1, k0, k1⟩
  have h1 := (hst.but hB b1).1
  refine seq_with (fun σ' J => J1 = J ∧ σ' = [some (.ref b), some (.ref p), some (.int k), some (.int (x1 + (x2 - x1) * k / 8)), none]) (fun R hR => ?_) ?_
  · refine ⟨_, rfl, p, _, _, _, rfl, rfl, SqT.of h1, rfl, _, rfl, p, _, _, _, rfl, rfl, SqT.of h1, rfl, _, rfl, p, _, _, _, rfl, rfl, SqT.of h1, rfl, _, _, rfl, rfl, _, rfl, _, _, rfl, rfl, .inl ⟨by omega, by omega⟩, _, _, rfl, rfl, ⟨by decide, by decide⟩, _, _, rfl, rfl, hR _ _ ⟨rfl, rfl⟩⟩
  rintro _ _ ⟨rfl, rfl⟩
  refine seq_with (fun σ' J => J1 = J ∧ σ' = [some (.ref b), some (.ref p), some (.int k), some (.int (x1 + (x2 - x1) * k / 8)), some (.int (y1 + (y2 - y1) * k / 8))]) (fun R hR => ?_) ?_
  · refine ⟨_, rfl, p, _, _, _, rfl, rfl, SqT.of h1, rfl, _, rfl, p, _, _, _, rfl, rfl, SqT.of h1, rfl, _, rfl, p, _, _, _, rfl, rfl, SqT.of h1, rfl, _, _, rfl, rfl, _, rfl, _, _, rfl, rfl, .inl ⟨by omega, by omega⟩, _, _, rfl, rfl, ⟨by decide, by decide⟩, _, _, rfl, rfl, hR _ _ ⟨rfl, rfl⟩⟩
  rintro _ _ ⟨rfl, rfl⟩
  refine ⟨_, rfl, _, rfl, b, l, _, rfl, hB1, by decide, by decide, fun r1 J2 hB2 b2 r10 r11 => ?_⟩
  refine ⟨_, _, rfl, rfl, _, _, rfl, rfl, _, rfl, fun x' hx1 hx2 => ?_⟩
  refine ⟨_, rfl, _, rfl, b, l, _, rfl, hB2, by decide, by decide, fun r2 J3 hB3 b3 r20 r21 => ?_⟩
  refine ⟨_, _, rfl, rfl, _, _, rfl, rfl, _, rfl, fun y' hy1 hy2 => ?_⟩
  refine ⟨sz (by decide : 2 ≤ 100000), fun r nr => ?_⟩
  exact q r _ x' y' (hB3.same (same_new nr _)) (b1.trans (b2.trans (b3.trans (But.of (same_new nr _))))) ⟨upd_same, hx1, hx2, hy1, hy2⟩
abbrev s_some_spots : Stmt := top 38
theorem sc_some_spots : FnScope ["_law_bag_here", "_law_stroke_here", "_law_found", "_law_k"] ["_law_bag_here", "_law_stroke_here"] (defScope s_some_spots) := ⟨rfl, rfl, rfl, by decide +kernel, rfl, by decide +kernel, by decide +kernel⟩
theorem ok_some_spots (B : Blt mg) (c_pull : Cal P w K mg base 1 "_law_pull" ["_law_bag_here", "_law_amount"] spPull) (c_near_spot : Cal P w K mg base 2 "_law_near_spot" ["_law_bag_here", "_law_stroke_here"] spNear) (F : Fun K "_law_some_spots" "_law_some_spots" s_some_spots f fd) : FnOk P w K mg base CX0 3 f fd ["_law_bag_here", "_law_stroke_here"] spSomeS := by
  refine F.ok sc_some_spots (fun vs H Q E h => ?_) (fun cdv A outer s H vs Q E hr h => ?_)
  · obtain ⟨b, l, p, x1, y1, x2, y2, rfl, _⟩ := h
    rfl
  obtain ⟨b, l, p, x1, y1, x2, y2, rfl, hB, hst, q⟩ := h
  refine ⟨_, (pss_cons (ps_set (i := 2) sc_some_spots.nd rfl (Or.inl rfl) (pe_disp1T (hu_of hr) (pe_slice sl_tup (pv 1) po_none (po_some pe_int)) pe_bl))
    (pss_cons (ps_for PassesOwn.never rfl (pi_range1 rfl B.range (pa_cons (pe_cal c_pull hr (pa_cons (pv 0) (pa_cons pe_int pa_nil))) pa_nil)) (pg_name (i := 3) sc_some_spots.nd rfl (Or.inl rfl))
    (pss_one (ps_asg pe_bl (pg_sub (pv 2) (pe_cal c_near_spot hr (pa_cons (pv 0) (pa_cons (pv 1) pa_nil))) (set_dict (hu_of hr))))))
    (pss_one (ps_ret (pe_callTy (call_list_dT rfl) rfl B.list bt_list (pa_cons (pv 2) pa_nil)))))), ?_⟩
  have bd := hst.2.1
  refine seq_with (fun σ' J => ∃ D : Addr, σ' = [some (.ref b), some (.ref p), some (.ref D), none] ∧ Same H J ∧ H D = none ∧ J D = some (.dT (tabP [(x1, y1)]))) (fun R hR => ?_) ?_
  · refine fun D nD => ?_
    have gD := same_new nD (.dT [])
    refine ⟨_, rfl, _, rfl, p, _, rfl, SqT.of (gD _ _ hst.1), (fun z => absurd z.2 (by show ¬ (2 = 4); decide)), fun k0 n0 => ?_⟩
    have g0 := same_new n0 (.tup [.int x1, .int y1])
    have kD : k0 ≠ D := by
      intro z
      rw [z, upd_same] at n0
      cases n0
    refine ⟨k0, keyP (x1, y1), rfl, upd_same, g0 _ _ upd_same, hR _ _ ⟨D, rfl, fun c o z => ?_, nD, upd_same⟩⟩
    rw [upd_ne (ne_of_none z nD)]
    exact g0 _ _ (gD _ _ z)
  rintro _ J0 ⟨D, rfl, s0, nD, hD⟩
  have hB0 := hB.same s0
  have Db : D ≠ b := by obtain ⟨ys, e⟩ := hB.hasB; exact Ne.symm (ne_of_none e nD)
  have Dl : D ≠ l := by obtain ⟨ys, e⟩ := hB.hasL; exact Ne.symm (ne_of_none e nD)
  refine ⟨_, rfl, b, l, _, rfl, hB0, by decide, by decide, fun n J1 hB1 b1 n0 n1 => ?_⟩
  refine ⟨n, rfl, by omega, by omega, ?_⟩
  refine for_range (lo := 0) (n := n.toNat) (fun i σ J => (∃ c3, σ = [some (.ref b), some (.ref p), some (.ref D), c3]) ∧ BagAt J b l ∧ But b H J ∧ ∃ S : List (Int × Int), J D = some (.dT (tabP S)) ∧ S.Nodup ∧ (∀ q ∈ S, -40 ≤ q.1 ∧ q.1 ≤ 40 ∧ -40 ≤ q.2 ∧ q.2 ≤ 40) ∧ S.length ≤ i + 1) ⟨⟨_, rfl⟩, hB1, (But.of s0).trans b1, [(x1, y1)], b1 _ _ Db hD, by simp, fun q hq => by rw [List.mem_singleton.mp hq]; exact ⟨bd.1, bd.2.1, bd.2.2.1, bd.2.2.2.1⟩, by simp⟩ ?_ ?_
  · rintro i σ J hi ⟨⟨c3, rfl⟩, hBJ, bJ, S, hDJ, nd, bds, ll⟩
    refine ⟨_, rfl, _, rfl, _, rfl, b, l, p, x1, y1, x2, y2, rfl, hBJ, hst.but hB bJ, fun r J2 x y hB2 b2 hr2 => ?_⟩
    have hkey : J2 r = some (.tup ((keyP (x, y)).map kV)) := hr2.1
    refine ⟨D, _, rfl, DPut.t (b2 _ _ Db hDJ) hkey ?_, ?_⟩
    · unfold tabP
      rw [List.length_map]
      exact Nat.lt_of_lt_of_le (by omega : S.length < 100000) (sz (Nat.le_refl _))
    · rw [put_tab]
      refine ⟨⟨_, rfl⟩, hB2.put Db Dl, fun c o nc z => ?_, addP S (x, y), upd_same, ?_, ?_, ?_⟩
      · rw [upd_ne (ne_of_none z nD)]
        exact b2 _ _ nc (bJ _ _ nc z)
      · unfold addP
        split
        · exact nd
        · rename_i c
          exact List.nodup_append.mpr ⟨nd, by simp, fun a ha b' hb' => by rw [List.mem_singleton.mp hb']; exact fun z => c (z ▸ ha)⟩
      · intro q hq
        unfold addP at hq
        split at hq
        · exact bds q hq
        · rcases List.mem_append.mp hq with z | z
          · exact bds q z
          · rw [List.mem_singleton.mp z]
            exact hr2.2
      · unfold addP
        split
        · omega
        · rw [List.length_append, List.length_singleton]
          omega
  · rintro σ J ⟨⟨c3, rfl⟩, hBJ, bJ, S, hDJ, nd, bds, ll⟩
    refine ⟨_, rfl, D, _, rfl, .inl hDJ, fun r bs nr hk => ?_⟩
    have gr := same_new nr (.lst (bs.map V.ref))
    exact q r _ _ S (hBJ.same gr) (bJ.trans (But.of gr)) (by
      cases e : H r with
      | none => rfl
      | some o =>
        by_cases z : r = b
        · obtain ⟨ys, e'⟩ := hBJ.hasB
          rw [z, e'] at nr
          cases nr
        · have := bJ _ _ z e
          rw [nr] at this
          cases this) (hBJ.new nr).1 upd_same ((keys_prs hk).same gr) ⟨nd, by omega, bds⟩ (by omega)
abbrev s_bent : Stmt := top 36
theorem sc_bent : FnScope ["_law_stroke_here", "_law_spots", "_law_found", "_law_spot_here", "_law_far"] ["_law_stroke_here", "_law_spots"] (defScope s_bent) := ⟨rfl, rfl, rfl, by decide +kernel, rfl, by decide +kernel, by decide +kernel⟩
theorem ok_bent (B : Blt mg) (c_goes : Cal P w K mg base 2 "_law_goes" ["_law_stroke_here", "_law_spot_here"] spGoes) (F : Fun K "_law_bent" "_law_bent" s_bent f fd) : FnOk P w K mg base CX0 3 f fd ["_law_stroke_here", "_law_spots"] spLBent := by
  refine F.ok sc_bent (fun vs H Q E h => ?_) (fun cdv A outer s H vs Q E hr h => ?_)
  · obtain ⟨p, l, x1, y1, x2, y2, xs, S, rfl, _⟩ := h
    rfl
  obtain ⟨p, l, x1, y1, x2, y2, xs, S, rfl, hst, hl, hP, hS, q⟩ := h
  refine ⟨_, (pss_cons (ps_set (i := 2) sc_bent.nd rfl (Or.inl rfl) (pe_lst pa_nil))
    (pss_cons (ps_for PassesOwn.never rfl (pi_list (pv 1)) (pg_name (i := 3) sc_bent.nd rfl (Or.inl rfl))
    (pss_one (ps_if (pt_val (pe_cal c_goes hr (pa_cons (pv 0) (pa_cons (pv 3) pa_nil))))
    (pss_cons (ps_set (i := 4) sc_bent.nd rfl (Or.inl rfl) (pe_op op_add (pe_op op_mul (pe_op op_sub (pe_ix ix_tup (pv 3) pe_int (fun _ _ => rfl)) (pe_ix ix_tup (pv 0) pe_int (fun _ _ => rfl))) (pe_op op_sub (pe_ix ix_tup (pv 0) pe_int (fun _ _ => rfl)) (pe_ix ix_tup (pv 0) pe_int (fun _ _ => rfl)))) (pe_op op_mul (pe_op op_sub (pe_ix ix_tup (pv 3) pe_int (fun _ _ => rfl)) (pe_ix ix_tup (pv 0) pe_int (fun _ _ => rfl))) (pe_op op_sub (pe_ix ix_tup (pv 0) pe_int (fun _ _ => rfl)) (pe_ix ix_tup (pv 0) pe_int (fun _ _ => rfl))))))
    (pss_one (ps_expr (pe_bm PySem.F.plainAttrs_list PySem.F.slot_list_append PySem.F.type_list_append mt_append (pv 2) (pa_cons (pe_tup (pa_cons (pv 4) (pa_cons (pv 3) pa_nil))) pa_nil)))))
    pss_nil)))
    (pss_one (ps_ret (pe_lc (own := [("_law_far", 4), ("_law_spot_here", 3)]) (g := gTup K 2 (gCons (gName 4) (gCons (gName 3) gNil))) (tt := tYes) rfl sc_bent.nd (pi_list (pe_callB (cr_sortD hr.units) rfl B.sorted bt_sorted (pa_cons (pv 2) pa_nil))) (blkOk_by (own := [("_law_far", 4), ("_law_spot_here", 3)]) (N := ["_law_stroke_here", "_law_spots", "_law_found", "_law_spot_here", "_law_far"]) (sc := defScope s_bent) (by decide +kernel)) (fun _ _ _ _ _ => pg_tup rfl (pgs_cons (pg_name (i := 4) sc_bent.nd rfl (Or.inl rfl)) (pgs_cons (pg_name (i := 3) sc_bent.nd rfl (Or.inl rfl)) pgs_nil))) (fun _ _ _ _ _ => pts_nil) (fun _ _ _ _ _ => (pv 3))))))), ?_⟩
  have bd := hst.2.1
  have lens := hP.len
  have s1000 := hS.2.1
  refine ⟨sz (by decide : 0 ≤ 100000), fun D nD => ?_⟩
  refine ⟨_, rfl, l, rfl, ⟨_, SqL.of (same_new nD (.lst []) _ _ hl)⟩, ?_⟩
  refine for_list (K := K) (a := l) (xs := xs) (fun i σ H' => (∃ c3 c4, σ = [some (.ref p), some (.ref l), some (.ref D), c3, c4]) ∧ Same H H' ∧ ∃ vs : List V, H' D = some (.lst vs) ∧ Fars H' x1 y1 x2 y2 vs ((S.take i).filter fun p => goesL x1 y1 x2 y2 p.1 p.2)) ?_ ?_ ?_ ?_
  · exact ⟨⟨_, _, rfl⟩, same_new nD _, [], upd_same, .nil⟩
  · rintro i σ H' _ ⟨_, e, _⟩
    exact SqL.of (e _ _ hl)
  · rintro i x σ H' hx ⟨⟨c3, c4, rfl⟩, e, vs, hd, hN⟩
    obtain ⟨a, ha, ap, rfl, hap⟩ := hP.at hx
    have ba := hS.2.2 a (List.mem_of_getElem? ha)
    have lv := hN.len
    have lf : ((S.take i).filter fun p => goesL x1 y1 x2 y2 p.1 p.2).length ≤ (S.take i).length := List.length_filter_le ..
    rw [List.length_take] at lf
    dsimp only [gName, tNext, List.set]
    refine ⟨_, rfl, _, rfl, p, ap, x1, y1, x2, y2, a.1, a.2, rfl, hst.same e, e _ _ hap, by omega, fun H3 s3 => ⟨_, rfl, ?_⟩⟩
    have e3 := e.trans s3
    cases g : goesL x1 y1 x2 y2 a.1 a.2 with
    | true =>
      refine iteT ?_
      have hp3 := e3 _ _ hst.1
      have hap3 := e3 _ _ hap
      refine seq_with (fun σ' J => H3 = J ∧ σ' = [some (.ref p), some (.ref l), some (.ref D), some (.ref ap), some (.int (farL x1 y1 x2 y2 a))]) (fun R hR => ?_) ?_
      · refine ⟨_, rfl, ap, _, _, _, rfl, rfl, SqT.of hap3, rfl, _, rfl, p, _, _, _, rfl, rfl, SqT.of hp3, rfl, _, _, rfl, rfl, _, rfl, p, _, _, _, rfl, rfl, SqT.of hp3, rfl, _, rfl, p, _, _, _, rfl, rfl, SqT.of hp3, rfl, _, _, rfl, rfl, _, _, rfl, rfl, .inl ⟨by omega, by omega⟩, ?_⟩
        refine ⟨_, rfl, ap, _, _, _, rfl, rfl, SqT.of hap3, rfl, _, rfl, p, _, _, _, rfl, rfl, SqT.of hp3, rfl, _, _, rfl, rfl, _, rfl, p, _, _, _, rfl, rfl, SqT.of hp3, rfl, _, rfl, p, _, _, _, rfl, rfl, SqT.of hp3, rfl, _, _, rfl, rfl, _, _, rfl, rfl, .inl ⟨by omega, by omega⟩, _, _, rfl, rfl, hR _ _ ⟨rfl, rfl⟩⟩
      rintro _ _ ⟨rfl, rfl⟩
      refine ⟨_, rfl, .inl ⟨rfl, _, SqL.of (s3 _ _ hd)⟩, _, rfl, _, rfl, sz (by decide : 2 ≤ 100000), fun tp ntp => ?_⟩
      have gt := same_new ntp (.tup [.int (farL x1 y1 x2 y2 a), .ref ap])
      have hd4 := gt _ _ (s3 _ _ hd)
      refine ⟨D, vs, _, rfl, rfl, hd4, Nat.lt_of_lt_of_le (by omega : vs.length < 100000) (sz (Nat.le_refl _)), ?_⟩
      have e4 := e3.trans gt
      refine ⟨⟨_, _, rfl⟩, fun b o z => ?_, _, upd_same, ?_⟩
      · rw [upd_ne (ne_of_none z nD)]
        exact e4 _ _ z
      · rw [take_snoc ha, List.filter_append, show List.filter (fun p => goesL x1 y1 x2 y2 p.1 p.2) [a] = [a] from List.filter_cons_of_pos g]
        exact (((hN.same s3).same gt).snoc ⟨tp, ap, rfl, upd_same, gt _ _ hap3⟩).keep fun b zs z => by rw [upd_ne (fun q => by rw [q, hd4] at z; cases z)]; exact z
    | false =>
      refine iteF ?_
      refine ⟨⟨_, _, rfl⟩, e3, vs, s3 _ _ hd, ?_⟩
      rw [take_snoc ha, List.filter_append, show List.filter (fun p => goesL x1 y1 x2 y2 p.1 p.2) [a] = [] from List.filter_cons_of_neg (by rw [g]; decide), List.append_nil]
      exact hN.same s3
  · rintro σ H' ⟨⟨c3, c4, rfl⟩, e, vs, hd, hN⟩
    rw [lens, List.take_length] at hN
    obtain ⟨z1, z2, z3⟩ := hN.items
    generalize vs.zip (S.filter fun p => goesL x1 y1 x2 y2 p.1 p.2) = zs at *
    refine ⟨_, rfl, D, zs.map fun z => (z.1, farD x1 y1 x2 y2 z.2), rfl, ?_, ?_, ?_, ?_, fun cs pr pm pw npr => ?_⟩
    · rw [List.map_map]
      rw [z1] at hd
      exact SqL.of hd
    · intro b hb
      obtain ⟨z, hz, rfl⟩ := List.mem_map.mp hb
      obtain ⟨tt, qq, e1, e2, e3⟩ := z3 z hz
      refine ⟨?_, by simp [farD, PyData.depth, PyData.depthAll]⟩
      show Dp K H' z.1 (farD x1 y1 x2 y2 z.2)
      rw [e1]
      exact .tup (SqT.of e2) (.cons (.int _) (.cons (dp_pair e3) .nil))
    · intro d hd' d' hd''
      rw [List.map_map] at hd' hd''
      obtain ⟨x, _, rfl⟩ := List.mem_map.mp hd'
      obtain ⟨x', _, rfl⟩ := List.mem_map.mp hd''
      simp [farD, PySem.W.alike, PySem.W.alikeAll]
    · left
      intro d hd'
      rw [List.map_map] at hd'
      obtain ⟨x, _, rfl⟩ := List.mem_map.mp hd'
      exact ⟨_, _, rfl⟩
    obtain ⟨ws, pmw, rfl⟩ := perm_unmap _ pm
    have gp := same_new npr (.lst ((ws.map fun z => (z.1, farD x1 y1 x2 y2 z.2)).map (·.1)))
    have fw : ∀ z ∈ ws, FarV H' x1 y1 x2 y2 z.1 z.2 := fun z hz => z3 z (pmw.mem_iff.mp hz)
    have row : RowOf x1 y1 x2 y2 (· ∈ S) (ws.map (·.2)) := by
      refine row_of_rank (rk := farL x1 y1 x2 y2) (fun p q h => far_ahead h) hS.1 (by rw [z2]; exact pmw.map _) ?_
      rw [List.pairwise_map]
      rw [List.pairwise_map] at pw
      refine pw.imp fun {u v} z c => ?_
      have z' : PySem.W.dataLt (farD x1 y1 x2 y2 v.2) (farD x1 y1 x2 y2 u.2) = false := z
      rw [far_less c] at z'
      cases z'
    have lw : ws.length ≤ 1000 := by
      rw [pmw.length_eq]
      have : zs.length = ((S.filter fun p => goesL x1 y1 x2 y2 p.1 p.2)).length := by rw [z2, List.length_map]
      rw [this]
      exact Nat.le_trans (List.length_filter_le ..) s1000
    refine ⟨pr, rfl, ⟨_, SqL.of upd_same⟩, fun D2 nD2 => ?_⟩
    have nHD2 : H D2 = none := e.free (gp.free nD2)
    have nHpr : H pr = none := e.free npr
    refine lc_list (K := K) (a := pr) (xs := (ws.map fun z => (z.1, farD x1 y1 x2 y2 z.2)).map (·.1)) (fun i J => Same (upd H' pr (.lst ((ws.map fun z => (z.1, farD x1 y1 x2 y2 z.2)).map (·.1)))) J ∧ ∃ us : List V, J D2 = some (.lst us) ∧ Prs J us ((ws.map (·.2)).take i)) ?_ ?_ ?_ ?_
    · exact ⟨same_new nD2 _, [], upd_same, .nil⟩
    · rintro i J _ ⟨eJ, _⟩
      exact SqL.of (eJ _ _ upd_same)
    · rintro i x J hx ⟨eJ, us, hus, hpu⟩
      rw [List.map_map, List.getElem?_map] at hx
      obtain ⟨z, hz, rfl⟩ : ∃ z, ws[i]? = some z ∧ z.1 = x := by
        cases hw : ws[i]? with
        | none => rw [hw] at hx; cases hx
        | some z => rw [hw] at hx; exact ⟨z, rfl, Option.some.inj hx⟩
      obtain ⟨tt, qq, e1, e2, e3⟩ := fw z (List.mem_of_getElem? hz)
      rw [e1]
      have a2 := eJ _ _ (gp _ _ e2)
      have a3 := eJ _ _ (gp _ _ e3)
      have lu := hpu.len
      rw [List.length_take, List.length_map] at lu
      refine ⟨tt, _, rfl, SqT.of a2, rfl, _, _, rfl, _, _, rfl, rfl, rfl, lc_yes ?_⟩
      refine ⟨_, rfl, us, hus, Nat.lt_of_lt_of_le (by omega : us.length < 100000) (sz (Nat.le_refl _)), fun b o y => ?_, _, upd_same, ?_⟩
      · rw [upd_ne (ne_of_none y nD2)]
        exact eJ _ _ y
      · rw [take_snoc (show (ws.map (·.2))[i]? = some z.2 by rw [List.getElem?_map, hz]; rfl)]
        exact (hpu.snoc ⟨qq, rfl, a3⟩).but (l := D2) (fun zs y => by rw [hus] at y; cases y) fun b o nb y => by rw [upd_ne nb]; exact y
    · rintro J ⟨eJ, us, hus, hpu⟩
      rw [List.length_map, List.length_map, ← List.length_map (f := (·.2)) (as := ws), List.take_length] at hpu
      exact q D2 J us _ (e.trans (gp.trans eJ)) nHD2 hus hpu row
end
end DM

namespace DM
open PySem PySem.Spec PyProof.Rows L2
/-! ### try: .. except X as n: .. except Y as n: .. (one name for all) -/
/-- behind a suite the name is gone -/
def endsAt (i : Nat) (D : Ends) : Ends := { nx := fun t J => D.nx (t.set i none) J, rt := D.rt, bk := fun t J => D.bk (t.set i none) J, ct := fun t J => D.ct (t.set i none) J }
def wEach (K : PySem.W.Frag) (i : Nat) (Wo : WX) (D : Ends) : List (Value × (Addr → Value → Option Addr → TS)) → WX
  | [] => Wo
  | (c, ts) :: more => fun cl dd t J => ∃ yes, PySem.W.exmOne K cl c = some yes ∧ (yes = true → ∀ x, J x = none → ts x cl dd (endsAt i D) (t.set i (some (.ref x))) J) ∧ (yes = false → wEach K i Wo D more cl dd t J)
inductive ClOk (X : Cx) (n : Str) : List ExceptHandler → List (Value × (Addr → Value → Option Addr → TS)) → Prop
  | none : ClOk X n [] []
  | one {y : Str} {c : Value} {ts : Addr → Value → Option Addr → TS} {st : Stmt} {sts : List Stmt} {p p' : Pos} {cls : List ExceptHandler} {more : List (Value × (Addr → Value → Option Addr → TS))} (named : Names X y c)
      (suite : ∀ (x : Addr) (ob : Obj) (cl : Value) (dd : Option Addr) (pn : List (Addr × Obj)), Zc cl dd ob → (∃ fv, ob.data = .fields fv) → PSs (X.suite x ((x, ob) :: pn)) (st :: sts) (ts x cl dd)) (rest : ClOk X n cls more) :
      ClOk X n (.ExceptHandler (some (.Name y p)) (some n) (st :: sts) p' :: cls) ((c, ts) :: more)
section
variable {X : Cx} {n : Str} {i : Nat} {body : List Stmt} {c₀ : ExceptHandler} {cls : List ExceptHandler} {more : List (Value × (Addr → Value → Option Addr → TS))} {pos : Pos} {tb : WX → TS} {Wo : WX}
theorem ps_try_each (sta : X.stack = X.env :: X.outer) (fra : X.env.frame = some X.env.locals) (nd : X.N.Nodup) (slot : X.N[i]? = some n) (loc : X.env.kindOf n = some .local) (out : Takes X Wo)
    (run : ∀ (W : WX) (pn : List (Addr × Obj)) (xe : Value → Shared → Prop), Takes (X.tr pn xe) W → PassesOwn (model X.prog X.w) X.A X.env xe → PSs (X.tr pn xe) body (tb W)) (all : ClOk X n (c₀ :: cls) more) :
    PS X (.Try body (c₀ :: cls) [] [] pos) (fun D t J => tb (wEach X.K i Wo D more) D t J) := by
  refine ⟨fun pins s0 t0 J0 D I0 want => ?_⟩
  have ok0 := I0.ok
  have frames : X.A.frames = some (X.env :: X.outer) := by rw [ok0.frames, sta]
  have local_ : Loc X.env.scope n := .inl loc
  refine wpAny_Try_except (wpAny_mono ((run (wEach X.K i Wo D more) (X.pn ++ pins) (fun er sA => wpAny (model X.prog X.w) X.A (noteFrame er X.env) (fun _ sB => wpAny (model X.prog X.w) X.A (setFlight er none) (fun _ sC => wpAny (model X.prog X.w) X.A (handleBy er X.env (c₀ :: cls)) (SP X pins D) X.xe sC) X.xe sB) X.xe sA) (fun er sX caught => ?_) PassesOwn.looking).run [] s0 t0 J0 D (I0.toTry _) want) (fun fl sE got => ?_) (fun er sE bad => bad))
  · obtain ⟨x, Bx, sI, pinsI, tI, JI, cl, dd, rfl, invI, nbI, upI, skyI, newI, osI, agI, wish⟩ := caught
    have inv1 : Inv X pins tI JI sI := invI.ofTry ok0
    have sky1 : Sky Bx (X.env :: X.outer) x (Zc cl dd) X.env.locals sX.heap := by rw [← sta]; exact skyI
    show wpAny (model X.prog X.w) X.A (noteFrame (.ref x) X.env) _ _ _
    refine Sky.land Zc.steady frames fra sky1 fun hA flA upA => ?_
    have inv2 : Inv X pins tI JI { sX with heap := hA } := inv1.landed nbI flA.1 (upI.trans upA) osI agI
    obtain ⟨obA, fvA, atA, zA, datA⟩ := flA.there
    have away : x ∉ frs (X.env :: X.outer) := fun m => by
      obtain ⟨_, ob', at', no⟩ := flA.2.2.1.mem m
      rw [atA] at at'
      cases at'
      exact no _ datA
    have notL : x ≠ X.env.locals := fun z => away (List.mem_filterMap.mpr ⟨X.env, List.mem_cons_self, by rw [fra, z]⟩)
    have notF : x ∉ X.fs := fun m => by
      obtain ⟨en, hen, z⟩ := List.mem_filterMap.mp m
      exact away (List.mem_filterMap.mpr ⟨en, List.mem_cons_of_mem _ hen, z⟩)
    have suiteA := inv2.suite atA datA newI notL notF
    have each : ∀ {cs : List ExceptHandler} {ws : List (Value × (Addr → Value → Option Addr → TS))}, ClOk X n cs ws → wEach X.K i Wo D ws cl dd tI JI → wpAny (model X.prog X.w) X.A (handleBy (.ref x) X.env cs) (SP X pins D) X.xe { sX with heap := hA } := by
      intro cs ws hk
      induction hk with
      | none =>
        intro w0
        refine wpAny_handleBy_nil ?_
        obtain ⟨_, _, _, ob, fv, T, oT, ts', at1, _, dat1, f1, _⟩ := id flA
        unfold PySem.passOn
        refine wpAny_bind (wpAny_field at1 dat1 f1 ?_)
        rw [if_neg (by simp : ¬ ((Value.ref T == Value.none) = true))]
        have fly : wpAny (model X.prog X.w) X.A (setFlight (.ref x) X.env.frame) (fun _ sF => wpAny (model X.prog X.w) X.A (throw (.ref x) : Sem Flow) (SP X pins D) X.xe sF) X.xe { sX with heap := hA } := by
          rw [fra]
          refine HandSPX.setFlight_upZ flA fun hB skyB upB => wpAny_throw (out _ _ ?_)
          exact ⟨x, Bx, sI, pins, tI, JI, cl, dd, rfl, inv1, nbI, (upI.trans upA).trans upB, .inr (.inr (by rw [sta]; exact skyB)), newI, osI, agI, w0⟩
        first | exact wpAny_bind (wpAny_pure (wpAny_bind fly)) | exact wpAny_bind fly
      | @one y c ts st sts p p' cs2 ws2 named suite rest again =>
        intro w0
        obtain ⟨yes, is, took, left⟩ := w0
        refine wpAny_handleBy_cons (codeAny_handlers_test ?_) (by intro z; cases z)
        have kind : PySem.W.Looks (model X.prog X.w) hA (typeOf (.ref x)) cl := fun A Q E s k z => wpAny_typeOf_ref (k _ _ atA) (by rw [zA.1]; exact z)
        have match_ := PySem.W.exm_one (M := model X.prog X.w) inv2.kIn kind is
        have read : ∀ {Q E : Value → Shared → Prop}, Q c { sX with heap := hA } → wpAny (model X.prog X.w) (X.A.mark (some (.ref x))) (eval (.Name y p) X.env) Q E { sX with heap := hA } := fun {Q E} z => by
          obtain ⟨g1, g2, g3 | ⟨g3, g4, g5⟩⟩ := named
          · exact ld_glob (X := X.suite x ((x, obA) :: (X.pn ++ pins))) suiteA g1 g3 z g2
          · exact ld_blt (X := X.suite x ((x, obA) :: (X.pn ++ pins))) suiteA g1 g3 g4 z g5 g2
        refine read (match_.here ?_)
        cases yes with
        | false => exact again (left rfl)
        | true =>
          refine codeAny_handlers_suite_as (HandSPX.lands_againZ flA fun hB flB upB => ?_)
          have inv3 : Inv X pins tI JI { sX with heap := hB } := inv1.landed nbI flB.1 ((upI.trans upA).trans upB) osI agI
          obtain ⟨obB, fvB, atB, zB, datB⟩ := flB.there
          have suiteB := inv3.suite atB datB newI notL notF
          refine store_ok (X := X.suite x ((x, obB) :: (X.pn ++ pins))) (v := .ref x) suiteB nd slot local_ rfl (fun sG suiteG => ?_) (.inr loc)
          refine wpAny_mono ((suite x obB cl dd (X.pn ++ pins) zB ⟨_, datB⟩).run [] sG _ JI _ suiteG (took rfl x newI)) (fun fl sH got => ?_) (fun _ _ z => False.elim z)
          have over : ∀ {tH : L2.St} {JH : Hp} {Q : Shared → Prop}, Inv (X.suite x ((x, obB) :: (X.pn ++ pins))) [] tH JH sH → (∀ sK, Inv X pins (tH.set i none) JH sK → Q sK) → wpAny (model X.prog X.w) X.A (do bindName X.env n .none; unbindBehindTheSuite X.env n p') (fun _ sK => Q sK) X.xe sH := fun {tH JH Q} z q => gone_ok (z.unsuite ok0) nd slot loc q
          cases fl with
          | next =>
            obtain ⟨_, _, z, q⟩ := got
            exact over z fun sK invK => ⟨_, _, invK, q⟩
          | brk =>
            obtain ⟨_, _, z, q⟩ := got
            exact over z fun sK invK => ⟨_, _, invK, q⟩
          | cont =>
            obtain ⟨_, _, z, q⟩ := got
            exact over z fun sK invK => ⟨_, _, invK, q⟩
          | ret u =>
            obtain ⟨_, _, _, z, r, q⟩ := got
            exact over z fun sK invK => ⟨_, _, _, invK, r, q⟩
    exact each all wish
  · cases fl with
    | next =>
      obtain ⟨tE, JE, z, q⟩ := got
      exact wpAny_execs_nil ⟨tE, JE, z.ofTry ok0, q⟩
    | brk =>
      obtain ⟨tE, JE, z, q⟩ := got
      exact ⟨tE, JE, z.ofTry ok0, q⟩
    | cont =>
      obtain ⟨tE, JE, z, q⟩ := got
      exact ⟨tE, JE, z.ofTry ok0, q⟩
    | ret u =>
      obtain ⟨v, tE, JE, z, r, q⟩ := got
      exact ⟨v, tE, JE, z.ofTry ok0, r, q⟩
end
end DM

namespace DM
open PySem PySem.Spec PyProof.Rows L2 LamX
section
variable {X : Cx} {W : WX} {k n : Nat} {f : Addr} {fd : FuncData} {ps ks : List Str} {sp : Sp} {x : Str} {p pos : Pos} {e : Expr} {es : List Expr} {kws : List Keyword} {t tk : TA} {g : List Value → List Value → List Value} {gV : List V → List V → List V}
/-- f(e, .., k = v, ..), what it raises told of the very state -/
theorem pe_callNS (F : FnOk X.prog X.w X.K X.mg X.base (L2.CX X.prog X.w) k f fd ps sp) (room : Room k X.A) (gl : Gl X x) (at0 : X.mg x = some (.ref f)) (kp : PySem.W.keepIn X.K (.ref f) = true) (binds : KBn X.K fd ps n ks g gV) (out : Takes X W) (args : PA X (e :: es) t) (named : PK X kws tk)
    (each : (backToKw pos (keywordEach kws X.env)).all (·.1.isSome) = true := by rfl) (names : (backToKw pos (keywordEach kws X.env)).filterMap (·.1) = ks := by rfl) (ndb : (x == ("__debug__" : Str)) = false := by decide) (first : starEach (e :: es) X.env = (false, eval e X.env) :: starEach es X.env := by rfl)
    (plain : ((backTo pos (starEach (e :: es) X.env)).any (·.1) || (backToKw pos (keywordEach kws X.env)).any (·.1.isNone)) = false := by rfl) :
    PE X (.Call (.Name x p) (e :: es) kws pos) (fun σ H Q => t σ H fun vs H1 => tk σ H1 fun zs H2 => vs.length = n ∧ zs.length = ks.length ∧ sp (gV vs zs) H2 Q (fun cl dd J => W cl dd σ J)) := by
  refine ⟨fun pz sz tz Jz Qz Iz want => wpAny_Call_Name_kw (ld_glob Iz gl at0 ?_ ndb)⟩
  refine PySem.W.callWith_KW (h₀ := X.base) Iz.ok.mod.kin kp each (thn (args.run pos pz sz tz Jz _ Iz want) fun us s1 got1 => ?_) plain first
  obtain ⟨vs, J1, I1, r1, want1⟩ := got1
  refine thn (named.run pos pz s1 tz J1 _ I1 want1) fun ws s2 got2 => ?_
  obtain ⟨zs, J2, I2, r2, l1, l2, want2⟩ := got2
  refine ⟨I2.kIn, ?_⟩
  rw [names]
  refine wpAny_call (codeAny_mono (F.run X.A X.stack s2 J2 ⟨us, ks.zip ws⟩ (g us ws) (gV vs zs) Qz _ room I2.env0 (binds.to s2 us ws I2.kIn (r1.length.symm.trans l1) (r2.length.symm.trans l2)) (binds.rel r1 r2) want2) fun res s3 got => ?_)
  cases res with
  | error er => exact out er s3 (XE.of_call I2 (fun cl dd J' z => z) got)
  | ok fl =>
    cases fl with
    | ret u => exact I2.after got
    | next => exact False.elim got
    | brk => exact False.elim got
    | cont => exact False.elim got
end
def spWayOf (T : List (Addr × Str)) : Sp := fun vs H Q _ => ∃ (p l : Addr) (x1 y1 x2 y2 : Int) (xs : List V) (o : HO) (S : List (Int × Int)) (y : Str), vs = [.ref p, .ref l, .str y] ∧ Stk H p x1 y1 x2 y2 ∧ SeqO xs o ∧ H l = some o ∧ Prs H xs S ∧ Spts S ∧ Tabs T H ∧ (PySem.reprText y).length ≤ 1000 ∧
  (isWay y → ∀ (r : Addr) (H' : Hp) (ys : List V) (L : List (Int × Int)), ExtN H H' → Tabs T H' → (∀ b o, H b = some o → (∀ ps, o ≠ .tbl ps) → b ≠ r) → H' r = some (.lst ys) → Prs H' ys L → RowOf x1 y1 x2 y2 (· ∈ S) L → Q (.ref r) H') ∧
  (¬ isWay y → ∀ (r : Addr) (H' : Hp), Same H H' → H' r = some (.tup [.str "BadWay", .str y]) → Q (.ref r) H')
section
variable {P : Program} {w : World} {K : PySem.W.Frag} {mg : Str → Option Value} {base : Heap} {f : Addr} {fd : FuncData} {D fB fD : Addr}
abbrev s_way_of : Stmt := top 39
theorem sc_way_of : FnScope ["_law_stroke_here", "_law_spots", "_law_road", "_law_found", "e"] ["_law_stroke_here", "_law_spots", "_law_road"] (defScope s_way_of) := ⟨rfl, rfl, rfl, by decide +kernel, rfl, by decide +kernel, by decide +kernel⟩
theorem ok_way_of {CW : Addr} {T : List (Addr × Str)} (TW : ErrF K mg "BadWay" "way" CW D fB fD) (ww : PySem.W.exmOne K (.ref CW) (.ref CW) = some true) {g : Addr} {gd : FuncData} (GB : FnOk P w K mg base (L2.CX P w) 18 g gd ["stroke", "spots", "way"] (spBentR CW T)) (kB : PySem.W.keepIn K (.ref g) = true) (mB : mg "bent" = some (.ref g)) (bB : KBn K gd ["stroke", "spots", "way"] 2 ["way"] (fun us ws => us ++ ws) (fun vs zs => vs ++ zs))
    (F : Fun K "_law_way_of" "_law_way_of" s_way_of f fd) : FnOk P w K mg base CX0 19 f fd ["_law_stroke_here", "_law_spots", "_law_road"] (spWayOf T) := by
  refine F.ok sc_way_of (fun vs H Q E h => ?_) (fun cdv A outer s H vs Q E hr h => ?_)
  · obtain ⟨p, l, x1, y1, x2, y2, xs, o, S, y, rfl, _⟩ := h
    rfl
  obtain ⟨p, l, x1, y1, x2, y2, xs, o, S, y, rfl, hst, so, hl, hP, hS, hT, hy, qY, qN⟩ := h
  refine ⟨_, pss_cons (ps_set (i := 3) sc_way_of.nd rfl (Or.inl rfl) pe_non) (pss_cons
    (ps_try_each (i := 4) (Wo := fun _ _ _ _ => False) rfl rfl sc_way_of.nd rfl rfl L2.takes0
      (fun W pn xe tk _ => pss_one (ps_set (i := 3) sc_way_of.nd rfl (Or.inl rfl) (pe_callNS (W := W) GB hr rfl mB kB bB tk (pa_cons (pv 0) (pa_cons (pv 1) pa_nil)) (pk_cons (pv 2) pk_nil))))
      (.one ⟨rfl, by decide, Or.inl TW.gC⟩ (fun x ob cl dd pn hz hf => pss_one (ps_set (i := 3) sc_way_of.nd rfl (Or.inl rfl) (pe_tup (pa_cons (pe_xf TW.xf TW.noW hz hf (pv 4)) (pa_cons (pe_xf TW.xf TW.noF hz hf (pv 4)) pa_nil))))) .none))
    (pss_one (ps_ret (pv 3)))), ?_⟩
  refine ⟨_, rfl, _, rfl, _, rfl, rfl, rfl, p, l, x1, y1, x2, y2, xs, o, S, y, rfl, hst, so, hl, hP, hS, hT, hy, fun iw r H' ys L ex hT' fr hr' hp row => ?_, fun nw d H' sm hd => ?_⟩
  · exact ⟨_, rfl, qY iw r H' ys L ex hT' fr hr' hp row⟩
  · refine ⟨true, ww, fun _ e ne => ?_, fun z => nomatch z⟩
    refine ⟨_, rfl, rfl, rfl, d, _, _, rfl, hd, rfl, ?_⟩
    refine ⟨_, rfl, rfl, rfl, d, _, _, rfl, hd, rfl, sz (by decide : 2 ≤ 100000), fun r nr => ?_⟩
    exact ⟨_, rfl, qN nw r _ (sm.trans (same_new nr _)) upd_same⟩
end
end DM

namespace DM
open PySem L2
/-! ### a def called with its defaults left out -/
def CalD (P : Program) (w : World) (K : PySem.W.Frag) (mg : Str → Option Value) (base : Heap) (k : Nat) (x : Str) (ps : List Str) (sp : Sp) (dvs : List V) : Prop :=
  ∃ (f : Addr) (fd : FuncData) (ds : List Value), FnOk P w K mg base CX0 k f fd ps sp ∧ Binds K fd ps ds ∧ Vals dvs ds ∧ PySem.W.keepIn K (.ref f) = true ∧ mg x = some (.ref f)
theorem pe_calD {X : Cx} {k k' : Nat} {x : Str} {ps : List Str} {sp : Sp} {dvs : List V} {e : Expr} {es : List Expr} {t : TA} {p pos : Pos} (C : CalD X.prog X.w X.K X.mg X.base k x ps sp dvs) (hr : Room k' X.A) (ha : PA X (e :: es) t)
    (hk : k ≤ k' := by decide) (hg : Gl X x := by rfl) (hdb : (x == ("__debug__" : Str)) = false := by decide) (he : starEach (e :: es) X.env = (false, eval e X.env) :: starEach es X.env := by rfl) (hpl : (backTo pos (starEach es X.env)).any (·.1) = false := by rfl) :
    PE X (.Call (.Name x p) (e :: es) [] pos) (tCall sp dvs E0 t) := by
  obtain ⟨f, fd, ds, F, b, v, kp, hm⟩ := C
  exact pe_call F (hr.mono hk) hg hm kp b v pass0 ha hdb he hpl
end DM

namespace DM
open PySem L2 LamX NdefX
/-- bent, asked for one of its ways -/
def spBentG (T : List (Addr × Str)) : Sp := fun vs H Q _ => ∃ (p l : Addr) (x1 y1 x2 y2 : Int) (xs : List V) (o : HO) (S : List (Int × Int)) (y : Str), vs = [.ref p, .ref l, .str y] ∧ isWay y ∧ Stk H p x1 y1 x2 y2 ∧ SeqO xs o ∧ H l = some o ∧ Prs H xs S ∧ Spts S ∧ Tabs T H ∧ (PySem.reprText y).length ≤ 1000 ∧
  ∀ (r : Addr) (H' : Hp) (ys : List V) (L : List (Int × Int)), ExtN H H' → Tabs T H' → (∀ b o, H b = some o → (∀ ps, o ≠ .tbl ps) → b ≠ r) → H' r = some (.lst ys) → Prs H' ys L → RowOf x1 y1 x2 y2 (· ∈ S) L → Q (.ref r) H'
theorem bentG_of {CW : Addr} {T : List (Addr × Str)} (vs : List V) (H : Hp) (Q : VK) (E : XK) (h : spBentG T vs H Q E) : spBentR CW T vs H Q E0 := by
  obtain ⟨p, l, x1, y1, x2, y2, xs, o, S, y, e, iw, a1, a2, a3, a4, a5, a6, a7, q⟩ := h
  exact ⟨p, l, x1, y1, x2, y2, xs, o, S, y, e, a1, a2, a3, a4, a5, a6, a7, fun _ => q, fun n => absurd iw n⟩
/-- what stands while the ways are asked -/
structure Rdy (J : Hp) (b l ps sp hd du : Addr) (x1 y1 x2 y2 : Int) (xs ys : List V) (o : HO) (S L : List (Int × Int)) : Prop where
  bag : BagAt J b l
  stk : Stk J ps x1 y1 x2 y2
  spo : J sp = some (.lst xs)
  prs : Prs J xs S
  seq : SeqO xs o
  han : J hd = some o
  due : J du = some (.lst ys)
  pry : Prs J ys L
theorem Rdy.ext {J J' : Hp} {b l ps sp hd du : Addr} {x1 y1 x2 y2 : Int} {xs ys : List V} {o : HO} {S L : List (Int × Int)} (h : Rdy J b l ps sp hd du x1 y1 x2 y2 xs ys o S L) (e : ExtN J J') : Rdy J' b l ps sp hd du x1 y1 x2 y2 xs ys o S L :=
  ⟨h.bag.extN e, h.stk.ext e, ext_lst e h.spo, h.prs.ext e, h.seq, e _ _ h.han h.seq.no, ext_lst e h.due, h.pry.ext e⟩
theorem ext_put {J J' : Hp} {r : Addr} {o : HO} (e : ExtN J J') (fr : ∀ b o, J b = some o → (∀ ps, o ≠ .tbl ps) → b ≠ r) : ExtN J (upd J' r o) := fun b o' z n => by rw [upd_ne (fr b o' z n)]; exact e b o' z n
theorem cut_from (xs : List V) {k : Int} (h0 : 0 ≤ k) (h1 : k ≤ xs.length) : cutV xs (some k) none = xs.drop k.toNat := by
  unfold cutV
  have e1 : HT.sIx xs.length 0 (some k) = k.toNat := by
    show (if k < 0 then (k + (xs.length : Int)).toNat else min k.toNat xs.length) = _
    rw [if_neg (by omega)]
    omega
  rw [e1, HT.sIx_none]
  exact List.take_of_length_le (by rw [List.length_drop]; exact Nat.le_refl _)
theorem cut_to (xs : List V) {k : Int} (h0 : 0 ≤ k) (h1 : k ≤ xs.length) : cutV xs none (some k) = xs.take k.toNat := by
  unfold cutV
  have e1 : HT.sIx xs.length xs.length (some k) = k.toNat := by
    show (if k < 0 then (k + (xs.length : Int)).toNat else min k.toNat xs.length) = _
    rw [if_neg (by omega)]
    omega
  rw [e1, HT.sIx_none]
  rfl
theorem cut_some (xs : List V) {k : Int} (h0 : 0 ≤ k) : cutV xs (some k) none = xs.drop (min k.toNat xs.length) := by
  unfold cutV
  have e1 : HT.sIx xs.length 0 (some k) = min k.toNat xs.length := by
    show (if k < 0 then (k + (xs.length : Int)).toNat else min k.toNat xs.length) = _
    rw [if_neg (by omega)]
  rw [e1, HT.sIx_none]
  exact List.take_of_length_le (by rw [List.length_drop]; exact Nat.le_refl _)
theorem Spts.sub {S S' : List (Int × Int)} (h : Spts S) (nd : S'.Nodup) (ll : S'.length ≤ 1000) (m : ∀ p ∈ S', p ∈ S) : Spts S' := ⟨nd, ll, fun p hp => h.2.2 p (m p hp)⟩
theorem Spts.drop {S : List (Int × Int)} (h : Spts S) (n : Nat) : Spts (S.drop n) := h.sub (h.1.sublist (List.drop_sublist n S)) (by rw [List.length_drop]; have := h.2.1; omega) fun p hp => List.mem_of_mem_drop hp
theorem Spts.rev {S : List (Int × Int)} (h : Spts S) : Spts S.reverse := h.sub ((List.reverse_perm S).nodup_iff.mpr h.1) (by rw [List.length_reverse]; exact h.2.1) fun p hp => List.mem_reverse.mp hp
theorem Spts.turn {S : List (Int × Int)} (h : Spts S) (n : Nat) : Spts (S.drop n ++ S.take n) := by
  have pm : (S.drop n ++ S.take n).Perm S := by
    have e : (S.take n ++ S.drop n).Perm S := by rw [List.take_append_drop]
    exact List.perm_append_comm.trans e
  exact h.sub (pm.nodup_iff.mpr h.1) (by rw [pm.length_eq]; exact h.2.1) fun p hp => pm.mem_iff.mp hp
theorem Spts.nil : Spts [] := ⟨.nil, by decide, fun p hp => by cases hp⟩
section
variable {P : Program} {w : World} {K : PySem.W.Frag} {mg : Str → Option Value} {base : Heap} {f : Addr} {fd : FuncData}
abbrev s_law : Stmt := top 40
theorem sc_law : FnScope ["_law_script", "_law_bag_here", "_law_turn", "_law_stroke_here", "_law_spots", "_law_k", "_law_handed", "_law_due", "_law_road", "_law_found", "_law_odd"] ["_law_script"] (defScope s_law) := ⟨rfl, rfl, rfl, by decide +kernel, rfl, by decide +kernel, by decide +kernel⟩
theorem ok_law (B : Blt mg) {Pt' : Addr} {q0 : Str} {tA tW tH : Tok} (c_ALL : mg "ALL" = some (.str "all" tA)) (c_WALK : mg "WALK" = some (.str "walk" tW)) (c_HALVES : mg "HALVES" = some (.str "halves" tH)) (c_bag : Cal P w K mg base 1 "_law_bag" ["_law_script"] (spBag K)) (c_pull : Cal P w K mg base 1 "_law_pull" ["_law_bag_here", "_law_amount"] spPull) (c_of : Cal P w K mg base 2 "_law_of" ["_law_bag_here", "_law_things"] spOf) (c_like : Cal P w K mg base 3 "_law_like" ["_law_found", "_law_due"] (spLike 2)) (c_base : Cal P w K mg base 3 "_law_base" ["_law_bag_here"] spBase) (c_stroke : Cal P w K mg base 3 "_law_stroke" ["_law_bag_here", "_law_base_here", "_law_wide"] spStroke)
    (c_some_spots : Cal P w K mg base 3 "_law_some_spots" ["_law_bag_here", "_law_stroke_here"] spSomeS) (c_bent : Cal P w K mg base 3 "_law_bent" ["_law_stroke_here", "_law_spots"] spLBent) (c_way_of : Cal P w K mg base 19 "_law_way_of" ["_law_stroke_here", "_law_spots", "_law_road"] (spWayOf [(Pt', q0)])) (d_p_bent : CalD P w K mg base 18 "bent" ["stroke", "spots", "way"] (spBentG [(Pt', q0)]) [.str "all"]) (F : Fun K "law" "law" s_law f fd) : FnOk P w K mg base CX0 20 f fd ["_law_script"] (spLawTs K [Pt']) := by
  refine F.ok sc_law (fun vs H Q E h => ?_) (fun cdv A outer s H vs Q E hr h => ?_)
  · obtain ⟨a, ns, rfl, _⟩ := h
    rfl
  obtain ⟨a, ns, rfl, hS, h63, hP, q⟩ := h
  refine ⟨_, (pss_cons (ps_set (i := 1) sc_law.nd rfl (Or.inl rfl) (pe_cal c_bag hr (pa_cons (pv 0) pa_nil)))
    (pss_cons (ps_for PassesOwn.never rfl (pi_range1 rfl B.range (pa_cons pe_int pa_nil)) (pg_name (i := 2) sc_law.nd rfl (Or.inl rfl))
    (pss_cons (ps_set (i := 3) sc_law.nd rfl (Or.inl rfl) (pe_cal c_stroke hr (pa_cons (pv 1) (pa_cons (pe_cal c_base hr (pa_cons (pv 1) pa_nil)) (pa_cons (pe_cal c_of hr (pa_cons (pv 1) (pa_cons (pe_lst (pa_cons pe_int (pa_cons pe_int (pa_cons pe_int (pa_cons pe_int pa_nil))))) pa_nil))) pa_nil)))))
    (pss_cons (ps_set (i := 4) sc_law.nd rfl (Or.inl rfl) (pe_slice sl_list (pe_cal c_some_spots hr (pa_cons (pv 1) (pa_cons (pv 3) pa_nil))) (po_some (pe_cal c_pull hr (pa_cons (pv 1) (pa_cons pe_int pa_nil)))) po_none))
    (pss_cons (ps_set (i := 5) sc_law.nd rfl (Or.inl rfl) (pe_cal c_pull hr (pa_cons (pv 1) (pa_cons (pe_op op_add (pe_callB call_len_seq rfl B.len bt_len (pa_cons (pv 4) pa_nil)) pe_int) pa_nil))))
    (pss_cons (ps_set (i := 4) sc_law.nd rfl (Or.inl rfl) (pe_cal c_of hr (pa_cons (pv 1) (pa_cons (pe_lst (pa_cons (pv 4) (pa_cons (pe_revL (pv 4)) (pa_cons (pe_op op_cat (pe_slice sl_list (pv 4) (po_some (pv 5)) po_none) (pe_slice sl_list (pv 4) po_none (po_some (pv 5)))) (pa_cons (pe_lst pa_nil) pa_nil))))) pa_nil))))
    (pss_cons (ps_par (i := 6) (j := 7) (by rfl) sc_law.nd rfl rfl (by decide) rfl rfl (pa_cons (pe_cal c_of hr (pa_cons (pv 1) (pa_cons (pe_lst (pa_cons (pe_callTy call_list_of rfl B.list bt_list (pa_cons (pv 4) pa_nil)) (pa_cons (pe_callTy call_list_of rfl B.list bt_list (pa_cons (pv 4) pa_nil)) (pa_cons (pe_callTy call_tuple_of rfl B.tuple bt_tuple (pa_cons (pv 4) pa_nil)) pa_nil)))) pa_nil))) (pa_cons (pe_cal c_bent hr (pa_cons (pv 3) (pa_cons (pv 4) pa_nil))) pa_nil)) (by rfl))
    (pss_cons (ps_for PassesOwn.never rfl (pi_list (pe_lst (pa_cons pe_str (pa_cons pe_str (pa_cons pe_str pa_nil))))) (pg_name (i := 8) sc_law.nd rfl (Or.inl rfl))
    (pss_cons (ps_set (i := 9) sc_law.nd rfl (Or.inl rfl) (pe_cal c_way_of hr (pa_cons (pv 3) (pa_cons (pv 6) (pa_cons (pv 8) pa_nil)))))
    (pss_cons (ps_if (PW.pt (pw_or (pt_not (pt_val (pe_cal c_like hr (pa_cons (pv 9) (pa_cons (pv 7) pa_nil))))) (pw_or1 (pt_cmpR (op_neD hr.units) (pe_callTy call_list_of rfl B.list bt_list (pa_cons (pv 6) pa_nil)) (pv 4) (nomark _)))))
    (pss_one (ps_ret pe_bl))
    pss_nil)
    (pss_one (ps_expr (pe_bm PySem.F.plainAttrs_list PySem.F.slot_list_append PySem.F.type_list_append mt_append (pv 9) (pa_cons (pe_tup (pa_cons pe_int (pa_cons pe_int pa_nil))) pa_nil)))))))
    (pss_cons (ps_if (pt_not (pt_val (pe_cal c_like hr (pa_cons (pe_calD d_p_bent hr (pa_cons (pv 3) (pa_cons (pv 6) pa_nil))) (pa_cons (pv 7) pa_nil)))))
    (pss_one (ps_ret pe_bl))
    pss_nil)
    (pss_cons (ps_set (i := 10) sc_law.nd rfl (Or.inl rfl) (pe_cal c_of hr (pa_cons (pv 1) (pa_cons (pe_lst (pa_cons pe_str (pa_cons pe_str (pa_cons pe_str (pa_cons pe_str pa_nil))))) pa_nil))))
    (pss_one (ps_if (pt_not (pt_val (pe_cal c_like hr (pa_cons (pe_cal c_way_of hr (pa_cons (pv 3) (pa_cons (pv 6) (pa_cons (pv 10) pa_nil)))) (pa_cons (pe_tup (pa_cons pe_str (pa_cons (pv 10) pa_nil))) pa_nil)))))
    (pss_one (ps_ret pe_bl))
    pss_nil)))))))))))
    (pss_one (ps_ret (pe_cmpR (op_eqD hr.units) (pe_lst (pa_cons (pe_glob (v := .str "all") rfl c_ALL ⟨_, rfl⟩) (pa_cons (pe_glob (v := .str "walk") rfl c_WALK ⟨_, rfl⟩) (pa_cons (pe_glob (v := .str "halves") rfl c_HALVES ⟨_, rfl⟩) pa_nil)))) (pe_lst (pa_cons pe_str (pa_cons pe_str (pa_cons pe_str pa_nil)))) (nomark _)))))), ?_⟩
  have hT0 : Tabs [(Pt', q0)] H := fun p hp => by
    cases List.mem_singleton.mp hp
    exact TabS.nil (hP _ List.mem_cons_self)
  refine ⟨_, rfl, a, ns, rfl, hS, h63, fun b l H1 sm1 nb nl hB => ?_⟩
  refine ⟨4, rfl, by decide, by decide, for_range (lo := 0) (n := (4 : Int).toNat) (fun _ σ H' => (∃ c2 c3 c4 c5 c6 c7 c8 c9 c10, σ = [some (.ref a), some (.ref b), c2, c3, c4, c5, c6, c7, c8, c9, c10]) ∧ BagAt H' b l ∧ Tabs [(Pt', q0)] H') ⟨⟨_, _, _, _, _, _, _, _, _, rfl⟩, hB, tabs_keep hT0 (.of sm1)⟩ ?_ ?_⟩
  · rintro i σ H2 hi ⟨⟨c2, c3, c4, c5, c6, c7, c8, c9, c10, rfl⟩, hB, hT⟩
    dsimp only [gName, tNext, List.set]
    -- the stroke
    refine seq_with (fun σ' J => ∃ (ps : Addr) (x1 y1 x2 y2 : Int), σ' = [some (.ref a), some (.ref b), some (.int (0 + (i : Int))), some (.ref ps), c4, c5, c6, c7, c8, c9, c10] ∧ BagAt J b l ∧ Tabs [(Pt', q0)] J ∧ Stk J ps x1 y1 x2 y2) (fun R hR => ?_) ?_
    · refine ⟨_, rfl, _, rfl, b, l, rfl, hB, fun pb J1 x y hB1 b1 hpb => ?_⟩
      refine ⟨_, rfl, sz (by decide : 4 ≤ 100000), fun pl npl => ?_⟩
      have gl := same_new npl (.lst [.int 2, .int 5, .int 12, .int 40])
      refine ⟨b, l, pl, _, rfl, hB1.same gl, upd_same, (hB1.new npl).1, by show 0 < 4; decide, by show 4 ≤ 1000; decide, fun v J2 hB2 b2 hv => ?_⟩
      obtain ⟨m, rfl, m0, m1⟩ : ∃ m : Int, v = .int m ∧ 0 < m ∧ m ≤ 1000 := by
        simp only [List.mem_cons, List.not_mem_nil, or_false] at hv
        rcases hv with rfl | rfl | rfl | rfl <;> exact ⟨_, rfl, by omega, by omega⟩
      refine ⟨b, l, pb, x, y, m, rfl, hB2, b2 _ _ (bag_tup (hB1.same gl) (gl _ _ hpb)) (gl _ _ hpb), m0, m1, fun p J3 x1 y1 x2 y2 hB3 b3 hst => ?_⟩
      exact hR _ _ ⟨p, x1, y1, x2, y2, rfl, hB3, tabs_keep hT ((KeepN.but hB b1).trans ((KeepN.of gl).trans ((KeepN.but (hB1.same gl) b2).trans (KeepN.but hB2 b3)))), hst⟩
    rintro _ J1 ⟨ps, x1, y1, x2, y2, rfl, hB1, hT1, hst1⟩
    -- the spots
    refine seq_with (fun σ' J => ∃ (sp : Addr) (xs : List V) (S : List (Int × Int)), σ' = [some (.ref a), some (.ref b), some (.int (0 + (i : Int))), some (.ref ps), some (.ref sp), c5, c6, c7, c8, c9, c10] ∧ BagAt J b l ∧ Tabs [(Pt', q0)] J ∧ Stk J ps x1 y1 x2 y2 ∧ sp ≠ b ∧ J sp = some (.lst xs) ∧ Prs J xs S ∧ Spts S ∧ S.length ≤ 24) (fun R hR => ?_) ?_
    · refine ⟨_, rfl, _, rfl, b, l, ps, x1, y1, x2, y2, rfl, hB1, hst1, fun r J2 xs S hB2 b2 nr rb hr2 hp2 sS l24 => ?_⟩
      refine ⟨_, rfl, b, l, _, rfl, hB2, by decide, by decide, fun k J3 hB3 b3 k0 k1 => ?_⟩
      have hr3 := b3 _ _ rb hr2
      have notB : ∀ zs, J2 b ≠ some (.tup zs) := fun zs z => by obtain ⟨ys, e⟩ := hB2.hasB; rw [e] at z; cases z
      have hp3 : Prs J3 xs S := hp2.but (l := b) notB (fun a' o' na z => b3 a' o' na z)
      refine ⟨k, rfl, r, xs, rfl, SqL.of hr3, fun p4 n4 => ?_⟩
      rw [cut_some xs k0]
      have g4 := same_new n4 (.lst (xs.drop (min k.toNat xs.length)))
      exact hR _ _ ⟨p4, _, _, rfl, hB3.same g4, tabs_keep hT1 ((KeepN.but hB1 b2).trans ((KeepN.but hB2 b3).trans (KeepN.of g4))), ((hst1.but hB1 b2).but hB2 b3).same g4, (hB3.new n4).1, upd_same, (hp3.drop _).same g4, sS.drop _, by rw [List.length_drop]; omega⟩
    rintro _ J2 ⟨sp, xs, S, rfl, hB2, hT2, hst2, spb, hsp, hP2, sS, l24⟩
    have lens := hP2.len
    refine seq_with (fun σ' J => ∃ k : Int, σ' = [some (.ref a), some (.ref b), some (.int (0 + (i : Int))), some (.ref ps), some (.ref sp), some (.int k), c6, c7, c8, c9, c10] ∧ BagAt J b l ∧ But b J2 J ∧ 0 ≤ k ∧ k ≤ xs.length) (fun R hR => ?_) ?_
    · refine ⟨_, rfl, _, rfl, sp, xs, rfl, .inl (SqL.of hsp), _, _, rfl, rfl, ?_⟩
      exact ⟨b, l, _, rfl, hB2, by omega, by omega, fun k J hJ bJ k0 k1 => hR _ _ ⟨k, rfl, hJ, bJ, k0, by omega⟩⟩
    rintro _ J3 ⟨k, rfl, hB3, b3, k0, k1⟩
    have hsp3 := b3 _ _ spb hsp
    have hst3 := hst2.but hB2 b3
    have hT3 := tabs_keep hT2 (.but hB2 b3)
    have notB2 : ∀ zs, J2 b ≠ some (.tup zs) := fun zs z => by obtain ⟨ys, e⟩ := hB2.hasB; rw [e] at z; cases z
    have hP3 : Prs J3 xs S := hP2.but (l := b) notB2 (fun a' o' na z => b3 a' o' na z)
    -- in a drawn order
    refine seq_with (fun σ' J => ∃ (sp : Addr) (xs : List V) (S : List (Int × Int)), σ' = [some (.ref a), some (.ref b), some (.int (0 + (i : Int))), some (.ref ps), some (.ref sp), some (.int k), c6, c7, c8, c9, c10] ∧ BagAt J b l ∧ Tabs [(Pt', q0)] J ∧ Stk J ps x1 y1 x2 y2 ∧ sp ≠ b ∧ J sp = some (.lst xs) ∧ Prs J xs S ∧ Spts S) (fun R hR => ?_) ?_
    · refine ⟨_, rfl, _, rfl, _, rfl, sp, xs, rfl, SqL.of hsp3, fun p1 n1 => ?_⟩
      have g1 := same_new n1 (.lst xs.reverse)
      refine ⟨_, rfl, _, rfl, k, rfl, sp, xs, rfl, SqL.of (g1 _ _ hsp3), fun p2 n2 => ?_⟩
      rw [cut_from xs k0 k1]
      have g2 := same_new n2 (.lst (xs.drop k.toNat))
      refine ⟨_, rfl, _, rfl, k, rfl, sp, xs, rfl, SqL.of ((g1.trans g2) _ _ hsp3), fun p3 n3 => ?_⟩
      rw [cut_to xs k0 k1]
      have g3 := same_new n3 (.lst (xs.take k.toNat))
      refine ⟨p2, p3, xs.drop k.toNat, xs.take k.toNat, rfl, rfl, g3 _ _ upd_same, upd_same, ?_, fun p4 n4 => ?_⟩
      · rw [List.length_drop, List.length_take]
        exact Nat.le_trans (by omega : xs.length - k.toNat + min k.toNat xs.length ≤ 100000) (sz (Nat.le_refl _))
      have g4 := same_new n4 (.lst (xs.drop k.toNat ++ xs.take k.toNat))
      refine ⟨sz (by decide : 0 ≤ 100000), fun p5 n5 => ⟨sz (by decide : 4 ≤ 100000), fun pl npl => ?_⟩⟩
      have g5 := same_new n5 (.lst [])
      have gl := same_new npl (.lst [.ref sp, .ref p1, .ref p4, .ref p5])
      have gA := g1.trans (g2.trans (g3.trans (g4.trans (g5.trans gl))))
      refine ⟨b, l, pl, _, rfl, hB3.same gA, upd_same, ((hB3.same (g1.trans (g2.trans (g3.trans (g4.trans g5))))).new npl).1, by show 0 < 4; decide, by show 4 ≤ 1000; decide, fun v J4 hB4 b4 hv => ?_⟩
      have kA : KeepN J3 J4 := (KeepN.of gA).trans (KeepN.but (hB3.same gA) b4)
      have hst4 := (hst3.same gA).but (hB3.same gA) b4
      have notB : ∀ zs, (upd (upd (upd (upd (upd (upd J3 p1 (.lst xs.reverse)) p2 (.lst (xs.drop k.toNat))) p3 (.lst (xs.take k.toNat))) p4 (.lst (xs.drop k.toNat ++ xs.take k.toNat))) p5 (.lst [])) pl (.lst [.ref sp, .ref p1, .ref p4, .ref p5])) b ≠ some (.tup zs) := fun zs z => by obtain ⟨ys, e⟩ := (hB3.same gA).hasB; rw [e] at z; cases z
      have hP4 : Prs J4 xs S := (hP3.same gA).but (l := b) notB (fun a' o' na z => b4 a' o' na z)
      have new1 : p1 ≠ b := (hB3.new n1).1
      have new4 : p4 ≠ b := ((hB3.same (g1.trans (g2.trans g3))).new n4).1
      have new5 : p5 ≠ b := ((hB3.same (g1.trans (g2.trans (g3.trans g4)))).new n5).1
      simp only [List.mem_cons, List.not_mem_nil, or_false] at hv
      rcases hv with rfl | rfl | rfl | rfl
      · exact hR _ _ ⟨sp, xs, S, rfl, hB4, tabs_keep hT3 kA, hst4, spb, b4 _ _ spb (gA _ _ hsp3), hP4, sS⟩
      · exact hR _ _ ⟨p1, _, _, rfl, hB4, tabs_keep hT3 kA, hst4, new1, b4 _ _ new1 ((g2.trans (g3.trans (g4.trans (g5.trans gl)))) _ _ upd_same), hP4.rev, sS.rev⟩
      · exact hR _ _ ⟨p4, _, _, rfl, hB4, tabs_keep hT3 kA, hst4, new4, b4 _ _ new4 ((g5.trans gl) _ _ upd_same), (hP4.drop _).append (hP4.take _), sS.turn _⟩
      · exact hR _ _ ⟨p5, _, _, rfl, hB4, tabs_keep hT3 kA, hst4, new5, b4 _ _ new5 (gl _ _ upd_same), .nil, .nil⟩
    clear lens l24 sS hP2 hsp spb hP3 hsp3 k1
    rintro _ J4 ⟨sp, xs, S, rfl, hB4, hT4, hst4, spb, hsp4, hP4, sS⟩
    -- handed, due
    refine seq_with (fun σ' J => ∃ (hd du : Addr) (o : HO) (ys : List V) (L : List (Int × Int)), σ' = [some (.ref a), some (.ref b), some (.int (0 + (i : Int))), some (.ref ps), some (.ref sp), some (.int k), some (.ref hd), some (.ref du), c8, c9, c10] ∧ Tabs [(Pt', q0)] J ∧ Rdy J b l ps sp hd du x1 y1 x2 y2 xs ys o S L ∧ RowOf x1 y1 x2 y2 (· ∈ S) L) (fun R hR => ?_) ?_
    · refine ⟨_, rfl, _, rfl, sp, xs, rfl, .inl (SqL.of hsp4), fun p1 n1 => ?_⟩
      have g1 := same_new n1 (.lst xs)
      refine ⟨_, rfl, sp, xs, rfl, .inl (SqL.of (g1 _ _ hsp4)), fun p2 n2 => ?_⟩
      have g2 := same_new n2 (.lst xs)
      refine ⟨_, rfl, sp, xs, rfl, .inl ⟨SqL.of ((g1.trans g2) _ _ hsp4), fun p3 n3 => ?_⟩⟩
      have g3 := same_new n3 (.tup xs)
      refine ⟨sz (by decide : 3 ≤ 100000), fun pl npl => ?_⟩
      have gl := same_new npl (.lst [.ref p1, .ref p2, .ref p3])
      have gA := g1.trans (g2.trans (g3.trans gl))
      refine ⟨b, l, pl, _, rfl, hB4.same gA, upd_same, ((hB4.same (g1.trans (g2.trans g3))).new npl).1, by show 0 < 3; decide, by show 3 ≤ 1000; decide, fun v J5 hB5 b5 hv => ?_⟩
      have kA : KeepN J4 J5 := (KeepN.of gA).trans (KeepN.but (hB4.same gA) b5)
      have hsp5 := b5 _ _ spb (gA _ _ hsp4)
      have hst5 := (hst4.same gA).but (hB4.same gA) b5
      have notB : ∀ zs, (upd (upd (upd (upd J4 p1 (.lst xs)) p2 (.lst xs)) p3 (.tup xs)) pl (.lst [.ref p1, .ref p2, .ref p3])) b ≠ some (.tup zs) := fun zs z => by obtain ⟨ys, e⟩ := (hB4.same gA).hasB; rw [e] at z; cases z
      have hP5 : Prs J5 xs S := (hP4.same gA).but (l := b) notB (fun a' o' na z => b5 a' o' na z)
      obtain ⟨hd, o, rfl, so, ho⟩ : ∃ (hd : Addr) (o : HO), v = .ref hd ∧ SeqO xs o ∧ J5 hd = some o := by
        simp only [List.mem_cons, List.not_mem_nil, or_false] at hv
        rcases hv with rfl | rfl | rfl
        · exact ⟨p1, _, rfl, .inl rfl, b5 _ _ ((hB4.new n1).1) ((g2.trans (g3.trans gl)) _ _ upd_same)⟩
        · exact ⟨p2, _, rfl, .inl rfl, b5 _ _ (((hB4.same g1).new n2).1) ((g3.trans gl) _ _ upd_same)⟩
        · exact ⟨p3, _, rfl, .inr rfl, b5 _ _ (((hB4.same (g1.trans g2)).new n3).1) (gl _ _ upd_same)⟩
      refine ⟨_, rfl, _, rfl, ps, sp, x1, y1, x2, y2, xs, S, rfl, hst5, hsp5, hP5, sS, fun r J6 ys L s6 nr hr6 hp6 row => ?_⟩
      exact ⟨_, _, rfl, hR _ _ ⟨hd, r, o, ys, L, rfl, tabs_keep hT4 (kA.trans (.of s6)), ⟨hB5.same s6, hst5.same s6, s6 _ _ hsp5, hP5.same s6, so, s6 _ _ ho, hr6, hp6⟩, row⟩⟩
    rintro _ J5 ⟨hd, du, o, ys, L, rfl, hT5, rdy5, row⟩
    have rows : ∀ {L' : List (Int × Int)}, RowOf x1 y1 x2 y2 (· ∈ S) L' → L' = L := fun {L'} h => h.one row fun p => Iff.rfl
    have lL : L.length ≤ 1000 := Nat.le_trans (row_len row hst1.2.1) (by decide)
    -- the three ways
    refine seq_with (fun σ' J => (∃ d8 d9, σ' = [some (.ref a), some (.ref b), some (.int (0 + (i : Int))), some (.ref ps), some (.ref sp), some (.int k), some (.ref hd), some (.ref du), d8, d9, c10]) ∧ Tabs [(Pt', q0)] J ∧ Rdy J b l ps sp hd du x1 y1 x2 y2 xs ys o S L) (fun R hR => ?_) ?_
    · refine ⟨sz (by decide : 3 ≤ 100000), fun rl nrl => ⟨rl, rfl, ⟨_, SqL.of upd_same⟩, ?_⟩⟩
      have grl := same_new nrl (.lst [.str "all", .str "walk", .str "halves"])
      refine for_list (K := K) (a := rl) (xs := [.str "all", .str "walk", .str "halves"]) (fun _ σ' J => (∃ d8 d9, σ' = [some (.ref a), some (.ref b), some (.int (0 + (i : Int))), some (.ref ps), some (.ref sp), some (.int k), some (.ref hd), some (.ref du), d8, d9, c10]) ∧ J rl = some (.lst [.str "all", .str "walk", .str "halves"]) ∧ Tabs [(Pt', q0)] J ∧ Rdy J b l ps sp hd du x1 y1 x2 y2 xs ys o S L) ?_ ?_ ?_ ?_
      · exact ⟨⟨_, _, rfl⟩, upd_same, hT5.ext grl, rdy5.ext (.of grl)⟩
      · rintro j σ' J _ ⟨_, e, _⟩
        exact SqL.of e
      · rintro j x σ' J hx ⟨⟨d8, d9, rfl⟩, hrl, hTJ, rdy⟩
        obtain ⟨y, rfl, iw, ry⟩ : ∃ y : Str, x = .str y ∧ isWay y ∧ (PySem.reprText y).length ≤ 1000 := by
          match j, hx with
          | 0, hx => cases hx; exact ⟨_, rfl, .inl rfl, by decide +kernel⟩
          | 1, hx => cases hx; exact ⟨_, rfl, .inr (.inl rfl), by decide +kernel⟩
          | 2, hx => cases hx; exact ⟨_, rfl, .inr (.inr rfl), by decide +kernel⟩
        dsimp only [gName, tNext, List.set]
        refine seq_with (fun σ' J' => ∃ (r : Addr) (zs : List V), σ' = [some (.ref a), some (.ref b), some (.int (0 + (i : Int))), some (.ref ps), some (.ref sp), some (.int k), some (.ref hd), some (.ref du), some (.str y), some (.ref r), c10] ∧ ExtN J J' ∧ Tabs [(Pt', q0)] J' ∧ (∀ b o, J b = some o → (∀ ps, o ≠ .tbl ps) → b ≠ r) ∧ J' r = some (.lst zs) ∧ Prs J' zs L) (fun R' hR' => ?_) ?_
        · refine ⟨_, rfl, _, rfl, _, rfl, ps, hd, x1, y1, x2, y2, xs, o, S, y, rfl, rdy.stk, rdy.seq, rdy.han, rdy.prs, sS, hTJ, ry, fun _ r J' zs L' ex hT' fr hr' hp' row' => ?_, fun nw => absurd iw nw⟩
          exact hR' _ _ ⟨r, zs, rfl, ex, hT', fr, hr', by rw [← rows row']; exact hp'⟩
        rintro _ J' ⟨r, zs, rfl, ex, hT', fr, hr', hz⟩
        have rdy' := rdy.ext ex
        refine ⟨_, rfl, _, rfl, _, _, rfl, alike_prs (n := 0) hr' rdy'.due hz rdy'.pry lL, fun J6 s6 => ⟨_, rfl, iteF ?_⟩⟩
        have rdy6 := rdy'.ext (.of s6)
        refine ⟨_, rfl, hd, xs, rfl, rdy6.seq.sq rdy6.han, fun p7 n7 => ?_⟩
        have g7 := same_new n7 (.lst xs)
        refine ⟨_, rfl, _, _, dp_prs upd_same (rdy6.prs.same g7), dp_prs (g7 _ _ rdy6.spo) (rdy6.prs.same g7), shaped_prs _, shaped_prs _, _, rfl, ?_⟩
        rw [eqv_prs, decide_eq_true rfl]
        refine iteF ?_
        dsimp only [tNext]
        have r7 := g7 _ _ (s6 _ _ hr')
        refine ⟨_, rfl, .inl ⟨rfl, _, SqL.of r7⟩, sz (by decide : 2 ≤ 100000), fun p8 n8 => ?_⟩
        have g8 := same_new n8 (.tup [.int 0, .int 0])
        have r8 := g8 _ _ r7
        have lz := hz.len
        refine ⟨r, zs, _, rfl, rfl, r8, Nat.lt_of_lt_of_le (by omega : zs.length < 100000) (sz (Nat.le_refl _)), ?_⟩
        have ex8 : ExtN J (upd J6 p7 (.lst xs)) := ex.trans (.of (s6.trans g7))
        have exA := ext_put (o := .lst (zs ++ [.ref p8])) (ex8.trans (.of g8)) fr
        exact ⟨⟨_, _, rfl⟩, ext_lst exA hrl, tabs_keep (((hT'.ext s6).ext g7).ext g8) (KeepN.put r8), rdy.ext exA⟩
      · rintro σ' J ⟨⟨d8, d9, rfl⟩, _, hTJ, rdy⟩
        exact hR _ _ ⟨⟨_, _, rfl⟩, hTJ, rdy⟩
    rintro _ J6 ⟨⟨d8, d9, rfl⟩, hT6, rdy6⟩
    -- left out
    refine ⟨_, rfl, _, rfl, ps, hd, x1, y1, x2, y2, xs, o, S, _, rfl, .inl rfl, rdy6.stk, rdy6.seq, rdy6.han, rdy6.prs, sS, hT6, by decide +kernel, fun r J7 zs L' ex7 hT7 fr hr7 hp7 row' => ?_⟩
    rw [rows row'] at hp7
    have rdy7 := rdy6.ext ex7
    refine ⟨_, rfl, _, _, rfl, alike_prs (n := 0) hr7 rdy7.due hp7 rdy7.pry lL, fun J8 s8 => ⟨_, rfl, iteF ?_⟩⟩
    dsimp only [tNext]
    have rdy8 := rdy7.ext (.of s8)
    have hT8 := hT7.ext s8
    -- another text
    refine seq_with (fun σ' J => ∃ y : Str, σ' = [some (.ref a), some (.ref b), some (.int (0 + (i : Int))), some (.ref ps), some (.ref sp), some (.int k), some (.ref hd), some (.ref du), d8, d9, some (.str y)] ∧ Tabs [(Pt', q0)] J ∧ BagAt J b l ∧ Stk J ps x1 y1 x2 y2 ∧ J hd = some o ∧ Prs J xs S ∧ ¬ isWay y ∧ (PySem.reprText y).length ≤ 1000) (fun R hR => ?_) ?_
    · refine ⟨_, rfl, sz (by decide : 4 ≤ 100000), fun pl npl => ?_⟩
      have gl := same_new npl (.lst [.str "", .str "All", .str "half", .str "walks"])
      have rdyl := rdy8.ext (.of gl)
      refine ⟨b, l, pl, _, rfl, rdyl.bag, upd_same, (rdy8.bag.new npl).1, by show 0 < 4; decide, by show 4 ≤ 1000; decide, fun v J9 hB9 b9 hv => ?_⟩
      have kA : KeepN J8 J9 := (KeepN.of gl).trans (KeepN.but rdyl.bag b9)
      have notB : ∀ zs, (upd J8 pl (.lst [.str "", .str "All", .str "half", .str "walks"])) b ≠ some (.tup zs) := fun zs z => by obtain ⟨ys, e⟩ := rdyl.bag.hasB; rw [e] at z; cases z
      have hdb : hd ≠ b := fun z => by
        obtain ⟨ns', i', g', s', e1, _⟩ := rdy8.bag
        have e2 := rdy8.han
        rw [z, e1] at e2
        have pr := rdy8.prs
        rcases rdy8.seq with eo | eo
        · rw [← Option.some.inj e2] at eo
          cases eo
          cases pr with
          | cons _ t =>
            cases t with
            | cons h _ => obtain ⟨_, h', _⟩ := h; cases h'
        · rw [← Option.some.inj e2] at eo
          cases eo
      have fin : ∀ y : Str, ¬ isWay y → (PySem.reprText y).length ≤ 1000 → v = .str y → gName 10 v [some (.ref a), some (.ref b), some (.int (0 + (i : Int))), some (.ref ps), some (.ref sp), some (.int k), some (.ref hd), some (.ref du), d8, d9, c10] J9 R := fun y ny ry e => by
        rw [e]
        exact hR _ _ ⟨y, rfl, tabs_keep hT8 kA, hB9, rdyl.stk.but rdyl.bag b9, b9 _ _ hdb rdyl.han, rdyl.prs.but (l := b) notB (fun a' o' na z => b9 a' o' na z), ny, ry⟩
      simp only [List.mem_cons, List.not_mem_nil, or_false] at hv
      rcases hv with e | e | e | e
      · exact fin _ (by decide +kernel) (by decide +kernel) e
      · exact fin _ (by decide +kernel) (by decide +kernel) e
      · exact fin _ (by decide +kernel) (by decide +kernel) e
      · exact fin _ (by decide +kernel) (by decide +kernel) e
    rintro _ J9 ⟨y, rfl, hT9, hB9, hst9, hhd9, hP9, ny, ry⟩
    refine ⟨_, rfl, _, rfl, _, rfl, ps, hd, x1, y1, x2, y2, xs, o, S, y, rfl, hst9, rdy5.seq, hhd9, hP9, sS, hT9, ry, fun iw => absurd iw ny, fun _ r J10 s10 hr10 => ?_⟩
    refine ⟨_, rfl, sz (by decide : 2 ≤ 100000), fun p11 n11 => ?_⟩
    have g11 := same_new n11 (.tup [.str "BadWay", .str y])
    refine ⟨_, _, rfl, alike_tup (n := 1) (g11 _ _ hr10) upd_same rfl (by show 2 ≤ 1000; decide) (two_of (Alike.scal rfl) (Alike.scal rfl)), fun J12 s12 => ⟨_, rfl, iteF ?_⟩⟩
    have sA := s10.trans (g11.trans s12)
    exact ⟨⟨_, _, _, _, _, _, _, _, _, rfl⟩, hB9.same sA, hT9.ext sA⟩
  · rintro σ H2 ⟨⟨c2, c3, c4, c5, c6, c7, c8, c9, c10, rfl⟩, hB, hT⟩
    refine ⟨sz (by decide : 3 ≤ 100000), fun p1 n1 => ⟨sz (by decide : 3 ≤ 100000), fun p2 n2 => ?_⟩⟩
    have g2 := same_new n2 (.lst [.str "all", .str "walk", .str "halves"])
    have d3 : ∀ {J : Hp} {p : Addr}, J p = some (.lst [.str "all", .str "walk", .str "halves"]) → Dp K J (.ref p) (.list [.str "all", .str "walk", .str "halves"]) := fun {J p} h => .lst (SqL.of h) (.cons (.str _) (.cons (.str _) (.cons (.str _) .nil)))
    refine ⟨_, _, d3 (g2 _ _ upd_same), d3 upd_same, by decide +kernel, by decide +kernel, ?_⟩
    have e : PyData.eqv (.list [.str "all", .str "walk", .str "halves"]) (.list [.str "all", .str "walk", .str "halves"]) = true := by decide +kernel
    rw [e]
    exact q _
end
end DM

namespace DM
open PySem L2 LamX
theorem all_mk {l : PySem.W.OpenLaw} {w : World} {K : PySem.W.Frag} {h : Heap} {mg : Str → Option Value} {fa f1 f2 f3 f4 f5 f6 f7 f8 f9 f10 f11 f12 f13 f14 f15 f16 f17 f18 f19 f20 f21 f22 f23 f24 f25 f26 f27 f28 f29 f30 f31 : Addr} (X : K.In h) (G : h.Ns mainGlobals mg) (hfa : mg "law" = some (.ref fa))
    {od1 an1 od2 an2 od3 an3 od4 an4 od5 an5 od6 an6 od7 an7 od8 an8 od9 an9 od10 an10 od11 an11 od12 an12 od13 an13 od14 an14 od15 an15 od16 an16 od17 an17 od18 an18 od19 an19 od20 an20 od21 an21 od22 an22 od23 an23 od24 an24 od25 an25 od26 an26 od27 an27 od28 an28 od29 an29 od30 an30 od31 an31 : Option Addr} {sl1 sl2 sl3 sl4 sl5 sl6 sl7 sl8 sl9 sl10 sl11 sl12 sl13 sl14 sl15 sl16 sl17 sl18 sl19 sl20 sl21 sl22 sl23 sl24 sl25 sl26 sl27 sl28 sl29 sl30 sl31 : Array (Option Value)} {oc1 kV1 dc1 pm1 cd1 ct1 oc2 kV2 dc2 pm2 cd2 ct2 oc3 kV3 dc3 pm3 cd3 ct3 oc4 kV4 dc4 pm4 cd4 ct4 oc5 kV5 dc5 pm5 cd5 ct5 oc6 kV6 dc6 pm6 cd6 ct6 oc7 kV7 dc7 pm7 cd7 ct7 oc8 kV8 dc8 pm8 cd8 ct8 oc9 kV9 dc9 pm9 cd9 ct9 oc10 dc10 pm10 cd10 ct10 oc11 kV11 dc11 pm11 ct11 oc12 kV12 dc12 pm12 cd12 ct12 oc13 kV13 dc13 pm13 cd13 ct13 oc14 kV14 dc14 pm14 cd14 ct14 oc15 kV15 dc15 pm15 cd15 ct15 oc16 kV16 dc16 pm16 cd16 ct16 oc17 kV17 dc17 pm17 cd17 ct17 oc18 kV18 dc18 pm18 cd18 ct18 oc19 kV19 dc19 pm19 cd19 ct19 oc20 kV20 dc20 pm20 cd20 ct20 oc21 kV21 dc21 pm21 cd21 ct21 oc22 kV22 dc22 pm22 cd22 ct22 oc23 kV23 dc23 pm23 cd23 ct23 oc24 kV24 dc24 pm24 cd24 ct24 oc25 kV25 dc25 pm25 cd25 ct25 oc26 kV26 dc26 pm26 cd26 ct26 oc27 kV27 dc27 pm27 cd27 ct27 oc28 kV28 dc28 pm28 cd28 ct28 oc29 kV29 dc29 pm29 cd29 ct29 oc30 kV30 dc30 pm30 cd30 ct30 oc31 kV31 dc31 pm31 cd31 ct31 : Value} {tk_ALL tk_WALK tk_HALVES : Tok}
    {cL_sifted PL_sifted : Addr} {eL_sifted : Value} {ddL_sifted : Option Addr} {vsL_sifted : Array Value} {slL_sifted : Array (Option Value)}
    {cD fD TD : Addr} {cW fW NW : Addr} {nmW qW : Str} {bsW sbW : List Value} {snW : List Str} {abW : Bool} {coW : Option Bool} {ddW odW anW : Option Addr} {j0W j1W j2W j3W j5W : Option Value} {ocW kVW dcW pmW cvW ctW : Value} {slW : Array (Option Value)} {odD anD odU : Option Addr} {ocD kVD dcD pmD cvD ctD ocU : Value} {slD slU : Array (Option Value)} {nTU : Nat} {tk1 tk2 : Tok}
    {KD10 : Addr} {tkK10 : Tok}
    (a1 : PySem.W.nsIn K mainGlobals "sign" = some (some (.ref f1))) (l1 : K.lookup f1 = some ⟨oc1, od1, .func (PySem.W.fnOf "sign" "sign" (defArgs s_sign) (defBody s_sign) (defScope s_sign) .none kV1 dc1 pm1 an1 cd1 ct1), sl1⟩) (c1 : PySem.W.codeIn K cd1 "sign" = true) (k1 : PySem.W.keepIn K (.ref f1) = true)
    (a2 : PySem.W.nsIn K mainGlobals "ends_of" = some (some (.ref f2))) (l2 : K.lookup f2 = some ⟨oc2, od2, .func (PySem.W.fnOf "ends_of" "ends_of" (defArgs s_ends_of) (defBody s_ends_of) (defScope s_ends_of) .none kV2 dc2 pm2 an2 cd2 ct2), sl2⟩) (c2 : PySem.W.codeIn K cd2 "ends_of" = true) (k2 : PySem.W.keepIn K (.ref f2) = true)
    (a3 : PySem.W.nsIn K mainGlobals "heading" = some (some (.ref f3))) (l3 : K.lookup f3 = some ⟨oc3, od3, .func (PySem.W.fnOf "heading" "heading" (defArgs s_heading) (defBody s_heading) (defScope s_heading) .none kV3 dc3 pm3 an3 cd3 ct3), sl3⟩) (c3 : PySem.W.codeIn K cd3 "heading" = true) (k3 : PySem.W.keepIn K (.ref f3) = true)
    (a4 : PySem.W.nsIn K mainGlobals "goes" = some (some (.ref f4))) (l4 : K.lookup f4 = some ⟨oc4, od4, .func (PySem.W.fnOf "goes" "goes" (defArgs s_p_goes) (defBody s_p_goes) (defScope s_p_goes) .none kV4 dc4 pm4 an4 cd4 ct4), sl4⟩) (c4 : PySem.W.codeIn K cd4 "goes" = true) (k4 : PySem.W.keepIn K (.ref f4) = true)
    (a5 : PySem.W.nsIn K mainGlobals "passes" = some (some (.ref f5))) (l5 : K.lookup f5 = some ⟨oc5, od5, .func (PySem.W.fnOf "passes" "passes" (defArgs s_passes) (defBody s_passes) (defScope s_passes) .none kV5 dc5 pm5 an5 cd5 ct5), sl5⟩) (c5 : PySem.W.codeIn K cd5 "passes" = true) (k5 : PySem.W.keepIn K (.ref f5) = true)
    (a6 : PySem.W.nsIn K mainGlobals "moments" = some (some (.ref f6))) (l6 : K.lookup f6 = some ⟨oc6, od6, .func (PySem.W.fnOf "moments" "moments" (defArgs s_moments) (defBody s_moments) (defScope s_moments) .none kV6 dc6 pm6 an6 cd6 ct6), sl6⟩) (c6 : PySem.W.codeIn K cd6 "moments" = true) (k6 : PySem.W.keepIn K (.ref f6) = true)
    (a7 : PySem.W.nsIn K mainGlobals "squares" = some (some (.ref f7))) (l7 : K.lookup f7 = some ⟨oc7, od7, .func (PySem.W.fnOf "squares" "squares" (defArgs s_squares) (defBody s_squares) (defScope s_squares) .none kV7 dc7 pm7 an7 cd7 ct7), sl7⟩) (c7 : PySem.W.codeIn K cd7 "squares" = true) (k7 : PySem.W.keepIn K (.ref f7) = true)
    (a8 : PySem.W.nsIn K mainGlobals "square_behind" = some (some (.ref f8))) (l8 : K.lookup f8 = some ⟨oc8, od8, .func (PySem.W.fnOf "square_behind" "square_behind" (defArgs s_square_behind) (defBody s_square_behind) (defScope s_square_behind) .none kV8 dc8 pm8 an8 cd8 ct8), sl8⟩) (c8 : PySem.W.codeIn K cd8 "square_behind" = true) (k8 : PySem.W.keepIn K (.ref f8) = true)
    (a9 : PySem.W.nsIn K mainGlobals "need_way" = some (some (.ref f9))) (l9 : K.lookup f9 = some ⟨oc9, od9, .func (PySem.W.fnOf "need_way" "need_way" (defArgs s_need_way) (defBody s_need_way) (defScope s_need_way) .none kV9 dc9 pm9 an9 cd9 ct9), sl9⟩) (c9 : PySem.W.codeIn K cd9 "need_way" = true) (k9 : PySem.W.keepIn K (.ref f9) = true)
    (a10 : PySem.W.nsIn K mainGlobals "bent" = some (some (.ref f10))) (l10 : K.lookup f10 = some ⟨oc10, od10, .func (PySem.W.fnOf "bent" "bent" (defArgs s_p_bent) (defBody s_p_bent) (defScope s_p_bent) .none (.ref KD10) dc10 pm10 an10 cd10 ct10), sl10⟩) (c10 : PySem.W.codeIn K cd10 "bent" = true) (k10 : PySem.W.keepIn K (.ref f10) = true)
    (w10 : PySem.W.nsIn K KD10 "way" = some (some (.str "all" tkK10)))
    (a11 : PySem.W.nsIn K mainGlobals "sifted" = some (some (.ref f11))) (l11 : K.lookup f11 = some ⟨oc11, od11, .func (PySem.W.fnOf "sifted" "sifted" (defArgs s_sifted) (defBody s_sifted) (defScope s_sifted) .none kV11 dc11 pm11 an11 (.ref cL_sifted) ct11), sl11⟩) (c11 : PySem.W.codeIn K (.ref cL_sifted) "sifted" = true) (k11 : PySem.W.keepIn K (.ref f11) = true)
    (a12 : PySem.W.nsIn K mainGlobals "walked" = some (some (.ref f12))) (l12 : K.lookup f12 = some ⟨oc12, od12, .func (PySem.W.fnOf "walked" "walked" (defArgs s_walked) (defBody s_walked) (defScope s_walked) .none kV12 dc12 pm12 an12 cd12 ct12), sl12⟩) (c12 : PySem.W.codeIn K cd12 "walked" = true) (k12 : PySem.W.keepIn K (.ref f12) = true)
    (a13 : PySem.W.nsIn K mainGlobals "halved" = some (some (.ref f13))) (l13 : K.lookup f13 = some ⟨oc13, od13, .func (PySem.W.fnOf "halved" "halved" (defArgs s_halved) (defBody s_halved) (defScope s_halved) .none kV13 dc13 pm13 an13 cd13 ct13), sl13⟩) (c13 : PySem.W.codeIn K cd13 "halved" = true) (k13 : PySem.W.keepIn K (.ref f13) = true)
    (a14 : PySem.W.nsIn K mainGlobals "_law_bag" = some (some (.ref f14))) (l14 : K.lookup f14 = some ⟨oc14, od14, .func (PySem.W.fnOf "_law_bag" "_law_bag" (defArgs s_bag) (defBody s_bag) (defScope s_bag) .none kV14 dc14 pm14 an14 cd14 ct14), sl14⟩) (c14 : PySem.W.codeIn K cd14 "_law_bag" = true) (k14 : PySem.W.keepIn K (.ref f14) = true)
    (a15 : PySem.W.nsIn K mainGlobals "_law_pull" = some (some (.ref f15))) (l15 : K.lookup f15 = some ⟨oc15, od15, .func (PySem.W.fnOf "_law_pull" "_law_pull" (defArgs s_pull) (defBody s_pull) (defScope s_pull) .none kV15 dc15 pm15 an15 cd15 ct15), sl15⟩) (c15 : PySem.W.codeIn K cd15 "_law_pull" = true) (k15 : PySem.W.keepIn K (.ref f15) = true)
    (a16 : PySem.W.nsIn K mainGlobals "_law_of" = some (some (.ref f16))) (l16 : K.lookup f16 = some ⟨oc16, od16, .func (PySem.W.fnOf "_law_of" "_law_of" (defArgs s_of) (defBody s_of) (defScope s_of) .none kV16 dc16 pm16 an16 cd16 ct16), sl16⟩) (c16 : PySem.W.codeIn K cd16 "_law_of" = true) (k16 : PySem.W.keepIn K (.ref f16) = true)
    (a17 : PySem.W.nsIn K mainGlobals "_law_like" = some (some (.ref f17))) (l17 : K.lookup f17 = some ⟨oc17, od17, .func (PySem.W.fnOf "_law_like" "_law_like" (defArgs s_like) (defBody s_like) (defScope s_like) .none kV17 dc17 pm17 an17 cd17 ct17), sl17⟩) (c17 : PySem.W.codeIn K cd17 "_law_like" = true) (k17 : PySem.W.keepIn K (.ref f17) = true)
    (a18 : PySem.W.nsIn K mainGlobals "_law_clipped" = some (some (.ref f18))) (l18 : K.lookup f18 = some ⟨oc18, od18, .func (PySem.W.fnOf "_law_clipped" "_law_clipped" (defArgs s_clipped) (defBody s_clipped) (defScope s_clipped) .none kV18 dc18 pm18 an18 cd18 ct18), sl18⟩) (c18 : PySem.W.codeIn K cd18 "_law_clipped" = true) (k18 : PySem.W.keepIn K (.ref f18) = true)
    (a19 : PySem.W.nsIn K mainGlobals "_law_spot" = some (some (.ref f19))) (l19 : K.lookup f19 = some ⟨oc19, od19, .func (PySem.W.fnOf "_law_spot" "_law_spot" (defArgs s_spot) (defBody s_spot) (defScope s_spot) .none kV19 dc19 pm19 an19 cd19 ct19), sl19⟩) (c19 : PySem.W.codeIn K cd19 "_law_spot" = true) (k19 : PySem.W.keepIn K (.ref f19) = true)
    (a20 : PySem.W.nsIn K mainGlobals "_law_base" = some (some (.ref f20))) (l20 : K.lookup f20 = some ⟨oc20, od20, .func (PySem.W.fnOf "_law_base" "_law_base" (defArgs s_base) (defBody s_base) (defScope s_base) .none kV20 dc20 pm20 an20 cd20 ct20), sl20⟩) (c20 : PySem.W.codeIn K cd20 "_law_base" = true) (k20 : PySem.W.keepIn K (.ref f20) = true)
    (a21 : PySem.W.nsIn K mainGlobals "_law_stroke" = some (some (.ref f21))) (l21 : K.lookup f21 = some ⟨oc21, od21, .func (PySem.W.fnOf "_law_stroke" "_law_stroke" (defArgs s_stroke) (defBody s_stroke) (defScope s_stroke) .none kV21 dc21 pm21 an21 cd21 ct21), sl21⟩) (c21 : PySem.W.codeIn K cd21 "_law_stroke" = true) (k21 : PySem.W.keepIn K (.ref f21) = true)
    (a22 : PySem.W.nsIn K mainGlobals "_law_clip" = some (some (.ref f22))) (l22 : K.lookup f22 = some ⟨oc22, od22, .func (PySem.W.fnOf "_law_clip" "_law_clip" (defArgs s_clip) (defBody s_clip) (defScope s_clip) .none kV22 dc22 pm22 an22 cd22 ct22), sl22⟩) (c22 : PySem.W.codeIn K cd22 "_law_clip" = true) (k22 : PySem.W.keepIn K (.ref f22) = true)
    (a23 : PySem.W.nsIn K mainGlobals "_law_later" = some (some (.ref f23))) (l23 : K.lookup f23 = some ⟨oc23, od23, .func (PySem.W.fnOf "_law_later" "_law_later" (defArgs s_later) (defBody s_later) (defScope s_later) .none kV23 dc23 pm23 an23 cd23 ct23), sl23⟩) (c23 : PySem.W.codeIn K cd23 "_law_later" = true) (k23 : PySem.W.keepIn K (.ref f23) = true)
    (a24 : PySem.W.nsIn K mainGlobals "_law_sooner" = some (some (.ref f24))) (l24 : K.lookup f24 = some ⟨oc24, od24, .func (PySem.W.fnOf "_law_sooner" "_law_sooner" (defArgs s_sooner) (defBody s_sooner) (defScope s_sooner) .none kV24 dc24 pm24 an24 cd24 ct24), sl24⟩) (c24 : PySem.W.codeIn K cd24 "_law_sooner" = true) (k24 : PySem.W.keepIn K (.ref f24) = true)
    (a25 : PySem.W.nsIn K mainGlobals "_law_inside" = some (some (.ref f25))) (l25 : K.lookup f25 = some ⟨oc25, od25, .func (PySem.W.fnOf "_law_inside" "_law_inside" (defArgs s_inside) (defBody s_inside) (defScope s_inside) .none kV25 dc25 pm25 an25 cd25 ct25), sl25⟩) (c25 : PySem.W.codeIn K cd25 "_law_inside" = true) (k25 : PySem.W.keepIn K (.ref f25) = true)
    (a26 : PySem.W.nsIn K mainGlobals "_law_goes" = some (some (.ref f26))) (l26 : K.lookup f26 = some ⟨oc26, od26, .func (PySem.W.fnOf "_law_goes" "_law_goes" (defArgs s_goes) (defBody s_goes) (defScope s_goes) .none kV26 dc26 pm26 an26 cd26 ct26), sl26⟩) (c26 : PySem.W.codeIn K cd26 "_law_goes" = true) (k26 : PySem.W.keepIn K (.ref f26) = true)
    (a27 : PySem.W.nsIn K mainGlobals "_law_bent" = some (some (.ref f27))) (l27 : K.lookup f27 = some ⟨oc27, od27, .func (PySem.W.fnOf "_law_bent" "_law_bent" (defArgs s_bent) (defBody s_bent) (defScope s_bent) .none kV27 dc27 pm27 an27 cd27 ct27), sl27⟩) (c27 : PySem.W.codeIn K cd27 "_law_bent" = true) (k27 : PySem.W.keepIn K (.ref f27) = true)
    (a28 : PySem.W.nsIn K mainGlobals "_law_near_spot" = some (some (.ref f28))) (l28 : K.lookup f28 = some ⟨oc28, od28, .func (PySem.W.fnOf "_law_near_spot" "_law_near_spot" (defArgs s_near_spot) (defBody s_near_spot) (defScope s_near_spot) .none kV28 dc28 pm28 an28 cd28 ct28), sl28⟩) (c28 : PySem.W.codeIn K cd28 "_law_near_spot" = true) (k28 : PySem.W.keepIn K (.ref f28) = true)
    (a29 : PySem.W.nsIn K mainGlobals "_law_some_spots" = some (some (.ref f29))) (l29 : K.lookup f29 = some ⟨oc29, od29, .func (PySem.W.fnOf "_law_some_spots" "_law_some_spots" (defArgs s_some_spots) (defBody s_some_spots) (defScope s_some_spots) .none kV29 dc29 pm29 an29 cd29 ct29), sl29⟩) (c29 : PySem.W.codeIn K cd29 "_law_some_spots" = true) (k29 : PySem.W.keepIn K (.ref f29) = true)
    (a30 : PySem.W.nsIn K mainGlobals "_law_way_of" = some (some (.ref f30))) (l30 : K.lookup f30 = some ⟨oc30, od30, .func (PySem.W.fnOf "_law_way_of" "_law_way_of" (defArgs s_way_of) (defBody s_way_of) (defScope s_way_of) .none kV30 dc30 pm30 an30 cd30 ct30), sl30⟩) (c30 : PySem.W.codeIn K cd30 "_law_way_of" = true) (k30 : PySem.W.keepIn K (.ref f30) = true)
    (a31 : PySem.W.nsIn K mainGlobals "law" = some (some (.ref f31))) (l31 : K.lookup f31 = some ⟨oc31, od31, .func (PySem.W.fnOf "law" "law" (defArgs s_law) (defBody s_law) (defScope s_law) .none kV31 dc31 pm31 an31 cd31 ct31), sl31⟩) (c31 : PySem.W.codeIn K cd31 "law" = true) (k31 : PySem.W.keepIn K (.ref f31) = true)
    (aD : PySem.W.nsIn K mainGlobals "DotError" = some (some (.ref cD)))
    (aW : PySem.W.nsIn K mainGlobals "BadWay" = some (some (.ref cW)))
    (xW : K.lookup cW = some (excClassObj nmW qW cW NW bsW [.ref cD, .type "ValueError", .type "Exception", .type "BaseException", .type "object"] true snW sbW abW coW ddW j0W j1W j2W j3W j5W "ValueError.__new__"))
    (saW : PySem.W.findIn K (.ref cW) "__setattr__" = some (some (.builtin "object.__setattr__")))
    (eW : PySem.W.subIn K (.ref cW) (.type "BaseException") = some true)
    (tyW : PySem.W.typeIn K (.ref cW) = some (.type "type"))
    (kcW : PySem.W.keepIn K (.ref cW) = true)
    (iW : PySem.W.findIn K (.ref cW) "__init__" = some (some (.ref fW)))
    (tiW : PySem.W.typeIn K (.ref fW) = some (.type "function"))
    (lfW : K.lookup fW = some ⟨ocW, odW, .func (PySem.W.fnOf "__init__" "BadWay.__init__" (defArgs s_bw) (defBody s_bw) (defScope s_bw) .none kVW dcW pmW anW cvW ctW), slW⟩)
    (cdW : PySem.W.codeIn K cvW "BadWay.__init__" = true)
    (kfW : PySem.W.keepIn K (.ref fW) = true)
    (nWW : PySem.W.findIn K (.ref cW) "word" = some none)
    (nFW : PySem.W.findIn K (.ref cW) "way" = some none)
    (gaW : PySem.W.findIn K (.ref cW) "__getattribute__" = some (some (.builtin "BaseException.__getattribute__")))
    (ggW : PySem.W.findIn K (.ref cW) "__getattr__" = some none)
    (hdW : PySem.W.hasDictIn K cW = true)
    (clW : PySem.W.isClsIn K cW = true)
    (fcD : PySem.W.findCls K (.ref cD) (.type "type") "__init__" = some (.val (.ref fD)))
    (lD : K.lookup fD = some ⟨ocD, odD, .func (PySem.W.fnOf "__init__" "DotError.__init__" (defArgs s_de) (defBody s_de) (defScope s_de) (.ref TD) kVD dcD pmD anD cvD ctD), slD⟩)
    (cdD : PySem.W.codeIn K cvD "DotError.__init__" = true)
    (kfD : PySem.W.keepIn K (.ref fD) = true)
    (tD : K.lookup TD = some ⟨ocU, odU, .seq (List.toArray [.str "DotError" tk1, .str "refused" tk2]) nTU, slU⟩)
    (rdD : PySem.W.readsIn K cD (.type "type") = true)
    (gaD : PySem.W.specialIn K (.ref cD) "__getattribute__" = some (some (.builtin "type.__getattribute__")))
    (vV : PySem.W.findCls K (.type "ValueError") (.type "type") "__init__" = some (.val (.builtin "ValueError.__init__")))
    (suWW : PySem.W.subIn K (.ref cW) (.ref cW) = some true)
    (zV : PySem.W.nsIn K mainGlobals "ValueError" = some none)
    (z_len : PySem.W.nsIn K mainGlobals "len" = some none)
    (z_isinstance : PySem.W.nsIn K mainGlobals "isinstance" = some none)
    (z_all : PySem.W.nsIn K mainGlobals "all" = some none)
    (z_list : PySem.W.nsIn K mainGlobals "list" = some none)
    (z_tuple : PySem.W.nsIn K mainGlobals "tuple" = some none)
    (z_dict : PySem.W.nsIn K mainGlobals "dict" = some none)
    (z_bool : PySem.W.nsIn K mainGlobals "bool" = some none)
    (z_range : PySem.W.nsIn K mainGlobals "range" = some none)
    (z_abs : PySem.W.nsIn K mainGlobals "abs" = some none)
    (z_any : PySem.W.nsIn K mainGlobals "any" = some none)
    (z_sorted : PySem.W.nsIn K mainGlobals "sorted" = some none)
    (z_int : PySem.W.nsIn K mainGlobals "int" = some none)
    (z_max : PySem.W.nsIn K mainGlobals "max" = some none)
    (z_min : PySem.W.nsIn K mainGlobals "min" = some none)
    (z_sum : PySem.W.nsIn K mainGlobals "sum" = some none)
    (z_zip : PySem.W.nsIn K mainGlobals "zip" = some none)
    (z_enumerate : PySem.W.nsIn K mainGlobals "enumerate" = some none)
    (n_ALL : PySem.W.nsIn K mainGlobals "ALL" = some (some (.str "all" tk_ALL)))
    (n_WALK : PySem.W.nsIn K mainGlobals "WALK" = some (some (.str "walk" tk_WALK)))
    (n_HALVES : PySem.W.nsIn K mainGlobals "HALVES" = some (some (.str "halves" tk_HALVES)))
    (tC_sifted : K.lookup cL_sifted = some ⟨eL_sifted, ddL_sifted, .fields vsL_sifted, slL_sifted⟩) (tP_sifted : vsL_sifted[11]? = some (.ref PL_sifted)) (tN_sifted : K.lookup PL_sifted = none) (tH_sifted : PySem.W.codeHdIn K cL_sifted PL_sifted = true)
    (own : ∀ nm ∈ (["sifted"] : List Str), ∀ g : Addr, mg nm = some (.ref g) → LamX.OwnTab K g h) : LamX.LawAtS l w K CX0 20 63 "_law_script" mg fa h := by
  have e := hfa.symm.trans (PySem.W.mg_of X G a31)
  cases e
  have F_sign := fun_mk (st := s_sign) l1 c1 k1
  have b_sign := F_sign.binds (ps := ["number"]) fun _ _ _ _ _ _ us hl => match us, hl with | [_], _ => rfl
  have m_sign := PySem.W.mg_of X G a1
  have F_ends_of := fun_mk (st := s_ends_of) l2 c2 k2
  have b_ends_of := F_ends_of.binds (ps := ["stroke"]) fun _ _ _ _ _ _ us hl => match us, hl with | [_], _ => rfl
  have m_ends_of := PySem.W.mg_of X G a2
  have F_heading := fun_mk (st := s_heading) l3 c3 k3
  have b_heading := F_heading.binds (ps := ["stroke"]) fun _ _ _ _ _ _ us hl => match us, hl with | [_], _ => rfl
  have m_heading := PySem.W.mg_of X G a3
  have F_p_goes := fun_mk (st := s_p_goes) l4 c4 k4
  have b_p_goes := F_p_goes.binds (ps := ["stroke", "spot"]) fun _ _ _ _ _ _ us hl => match us, hl with | [_, _], _ => rfl
  have m_p_goes := PySem.W.mg_of X G a4
  have F_passes := fun_mk (st := s_passes) l5 c5 k5
  have b_passes := F_passes.binds (ps := ["stroke", "least", "greatest"]) fun _ _ _ _ _ _ us hl => match us, hl with | [_, _, _], _ => rfl
  have m_passes := PySem.W.mg_of X G a5
  have F_moments := fun_mk (st := s_moments) l6 c6 k6
  have b_moments := F_moments.binds (ps := ["start", "end", "unit", "least", "greatest"]) fun _ _ _ _ _ _ us hl => match us, hl with | [_, _, _, _, _], _ => rfl
  have m_moments := PySem.W.mg_of X G a6
  have F_squares := fun_mk (st := s_squares) l7 c7 k7
  have b_squares := F_squares.binds (ps := ["stroke"]) fun _ _ _ _ _ _ us hl => match us, hl with | [_], _ => rfl
  have m_squares := PySem.W.mg_of X G a7
  have F_square_behind := fun_mk (st := s_square_behind) l8 c8 k8
  have b_square_behind := F_square_behind.binds (ps := ["stroke", "here"]) fun _ _ _ _ _ _ us hl => match us, hl with | [_, _], _ => rfl
  have m_square_behind := PySem.W.mg_of X G a8
  have F_need_way := fun_mk (st := s_need_way) l9 c9 k9
  have b_need_way := F_need_way.binds (ps := ["way"]) fun _ _ _ _ _ _ us hl => match us, hl with | [_], _ => rfl
  have m_need_way := PySem.W.mg_of X G a9
  have F_p_bent : FunD K "bent" "bent" (defArgs s_p_bent) (defBody s_p_bent) (defScope s_p_bent) [] [("way", .str "all")] f10 _ := ⟨⟨_, _, _, _, _, _, _, _, _, _, rfl, l10, c10, .inl ⟨rfl, rfl⟩, .inr ⟨KD10, rfl, fun q hq => by cases List.mem_singleton.mp hq; exact ⟨_, w10, ⟨_, rfl⟩⟩⟩⟩, k10⟩
  obtain ⟨ds_p_bent, vd_p_bent, bd_p_bent⟩ := F_p_bent.binds0 (ps := ["stroke", "spots", "way"]) 2 (by decide) rfl fun _ _ _ _ _ _ us ks hl hk => match us, ks, hl, hk with | [_, _], [_], _, _ => ⟨_, _, _, _, _, _, rfl, rfl, rfl⟩
  have kb_p_bent := kbn_kw (ps := ["stroke", "spots", "way"]) (n := 2) (ks := ["way"]) F_p_bent fun _ _ _ _ _ _ us ws h1 h2 => match us, ws, h1, h2 with | [_, _], [_], _, _ => rfl
  have m_p_bent := PySem.W.mg_of X G a10
  have F_sifted := fun_mk (st := s_sifted) l11 c11 k11
  have b_sifted := F_sifted.binds (ps := ["stroke", "spots"]) fun _ _ _ _ _ _ us hl => match us, hl with | [_, _], _ => rfl
  have m_sifted := PySem.W.mg_of X G a11
  have F_walked := fun_mk (st := s_walked) l12 c12 k12
  have b_walked := F_walked.binds (ps := ["stroke", "known"]) fun _ _ _ _ _ _ us hl => match us, hl with | [_, _], _ => rfl
  have m_walked := PySem.W.mg_of X G a12
  have F_halved := fun_mk (st := s_halved) l13 c13 k13
  have b_halved := F_halved.binds (ps := ["stroke", "spots"]) fun _ _ _ _ _ _ us hl => match us, hl with | [_, _], _ => rfl
  have m_halved := PySem.W.mg_of X G a13
  have F_bag := fun_mk (st := s_bag) l14 c14 k14
  have b_bag := F_bag.binds (ps := ["_law_script"]) fun _ _ _ _ _ _ us hl => match us, hl with | [_], _ => rfl
  have m_bag := PySem.W.mg_of X G a14
  have F_pull := fun_mk (st := s_pull) l15 c15 k15
  have b_pull := F_pull.binds (ps := ["_law_bag_here", "_law_amount"]) fun _ _ _ _ _ _ us hl => match us, hl with | [_, _], _ => rfl
  have m_pull := PySem.W.mg_of X G a15
  have F_of := fun_mk (st := s_of) l16 c16 k16
  have b_of := F_of.binds (ps := ["_law_bag_here", "_law_things"]) fun _ _ _ _ _ _ us hl => match us, hl with | [_, _], _ => rfl
  have m_of := PySem.W.mg_of X G a16
  have F_like := fun_mk (st := s_like) l17 c17 k17
  have b_like := F_like.binds (ps := ["_law_found", "_law_due"]) fun _ _ _ _ _ _ us hl => match us, hl with | [_, _], _ => rfl
  have m_like := PySem.W.mg_of X G a17
  have F_clipped := fun_mk (st := s_clipped) l18 c18 k18
  have b_clipped := F_clipped.binds (ps := ["_law_number"]) fun _ _ _ _ _ _ us hl => match us, hl with | [_], _ => rfl
  have m_clipped := PySem.W.mg_of X G a18
  have F_spot := fun_mk (st := s_spot) l19 c19 k19
  have b_spot := F_spot.binds (ps := ["_law_bag_here", "_law_base_here", "_law_wide"]) fun _ _ _ _ _ _ us hl => match us, hl with | [_, _, _], _ => rfl
  have m_spot := PySem.W.mg_of X G a19
  have F_base := fun_mk (st := s_base) l20 c20 k20
  have b_base := F_base.binds (ps := ["_law_bag_here"]) fun _ _ _ _ _ _ us hl => match us, hl with | [_], _ => rfl
  have m_base := PySem.W.mg_of X G a20
  have F_stroke := fun_mk (st := s_stroke) l21 c21 k21
  have b_stroke := F_stroke.binds (ps := ["_law_bag_here", "_law_base_here", "_law_wide"]) fun _ _ _ _ _ _ us hl => match us, hl with | [_, _, _], _ => rfl
  have m_stroke := PySem.W.mg_of X G a21
  have F_clip := fun_mk (st := s_clip) l22 c22 k22
  have b_clip := F_clip.binds (ps := ["_law_begin", "_law_step", "_law_low", "_law_high"]) fun _ _ _ _ _ _ us hl => match us, hl with | [_, _, _, _], _ => rfl
  have m_clip := PySem.W.mg_of X G a22
  have F_later := fun_mk (st := s_later) l23 c23 k23
  have b_later := F_later.binds (ps := ["_law_one", "_law_other"]) fun _ _ _ _ _ _ us hl => match us, hl with | [_, _], _ => rfl
  have m_later := PySem.W.mg_of X G a23
  have F_sooner := fun_mk (st := s_sooner) l24 c24 k24
  have b_sooner := F_sooner.binds (ps := ["_law_one", "_law_other"]) fun _ _ _ _ _ _ us hl => match us, hl with | [_, _], _ => rfl
  have m_sooner := PySem.W.mg_of X G a24
  have F_inside := fun_mk (st := s_inside) l25 c25 k25
  have b_inside := F_inside.binds (ps := ["_law_stroke_here", "_law_when", "_law_spot_here"]) fun _ _ _ _ _ _ us hl => match us, hl with | [_, _, _], _ => rfl
  have m_inside := PySem.W.mg_of X G a25
  have F_goes := fun_mk (st := s_goes) l26 c26 k26
  have b_goes := F_goes.binds (ps := ["_law_stroke_here", "_law_spot_here"]) fun _ _ _ _ _ _ us hl => match us, hl with | [_, _], _ => rfl
  have m_goes := PySem.W.mg_of X G a26
  have F_bent := fun_mk (st := s_bent) l27 c27 k27
  have b_bent := F_bent.binds (ps := ["_law_stroke_here", "_law_spots"]) fun _ _ _ _ _ _ us hl => match us, hl with | [_, _], _ => rfl
  have m_bent := PySem.W.mg_of X G a27
  have F_near_spot := fun_mk (st := s_near_spot) l28 c28 k28
  have b_near_spot := F_near_spot.binds (ps := ["_law_bag_here", "_law_stroke_here"]) fun _ _ _ _ _ _ us hl => match us, hl with | [_, _], _ => rfl
  have m_near_spot := PySem.W.mg_of X G a28
  have F_some_spots := fun_mk (st := s_some_spots) l29 c29 k29
  have b_some_spots := F_some_spots.binds (ps := ["_law_bag_here", "_law_stroke_here"]) fun _ _ _ _ _ _ us hl => match us, hl with | [_, _], _ => rfl
  have m_some_spots := PySem.W.mg_of X G a29
  have F_way_of := fun_mk (st := s_way_of) l30 c30 k30
  have b_way_of := F_way_of.binds (ps := ["_law_stroke_here", "_law_spots", "_law_road"]) fun _ _ _ _ _ _ us hl => match us, hl with | [_, _, _], _ => rfl
  have m_way_of := PySem.W.mg_of X G a30
  have F_law := fun_mk (st := s_law) l31 c31 k31
  have b_law := F_law.binds (ps := ["_law_script"]) fun _ _ _ _ _ _ us hl => match us, hl with | [_], _ => rfl
  have m_law := PySem.W.mg_of X G a31
  have B : Blt mg := ⟨PySem.W.mg_none_of X G z_len, PySem.W.mg_none_of X G z_isinstance, PySem.W.mg_none_of X G z_all, PySem.W.mg_none_of X G z_list, PySem.W.mg_none_of X G z_tuple, PySem.W.mg_none_of X G z_dict, PySem.W.mg_none_of X G z_bool, PySem.W.mg_none_of X G z_range, PySem.W.mg_none_of X G z_abs, PySem.W.mg_none_of X G z_any, PySem.W.mg_none_of X G z_sorted, PySem.W.mg_none_of X G z_int, PySem.W.mg_none_of X G z_max, PySem.W.mg_none_of X G z_min, PySem.W.mg_none_of X G z_sum, PySem.W.mg_none_of X G z_zip, PySem.W.mg_none_of X G z_enumerate⟩
  have c_ALL := PySem.W.mg_of X G n_ALL
  have c_WALK := PySem.W.mg_of X G n_WALK
  have c_HALVES := PySem.W.mg_of X G n_HALVES
  refine ⟨PySem.W.fnOf "law" "law" (defArgs s_law) (defBody s_law) (defScope s_law) .none kV31 dc31 pm31 an31 cd31 ct31, [(cL_sifted, PL_sifted)], spLawTs K [PL_sifted], (fun p hp => ?_), (fun p hp => ?_), (fun p hp => ?_), fun s v => .of_eq rfl, (fun H a ns hl _ hT hS => ⟨a, ns, rfl, hS, hl, fun P hP => ?_, fun _ => rfl⟩), fun base _ _ hTB => ?_⟩
  · simp only [List.mem_cons, List.not_mem_nil, or_false] at hp
    have z := hp
    · rw [z]; exact own "sifted" (by decide) _ m_sifted cL_sifted PL_sifted _ _ _ _ _ _ l11 rfl rfl tC_sifted tP_sifted
  · simp only [List.mem_cons, List.not_mem_nil, or_false] at hp
    have z := hp
    · rw [z]; exact tN_sifted
  · simp only [List.mem_cons, List.not_mem_nil, or_false] at hp
    have z := hp
    · rw [z]; exact PySem.W.codeHd_of_K X tH_sifted
  · simp only [List.mem_cons, List.not_mem_nil, or_false] at hP
    have z := hP
    · rw [z]; exact hT (cL_sifted, PL_sifted) (by simp)
  have TB_sifted := hTB (cL_sifted, PL_sifted) (by simp)
  have hWW : PySem.W.exmOne K (.ref cW) (.ref cW) = some true := by
    have z1 : (PySem.W.subIn K (.ref cW) (.type "BaseException") == some true) = true := by rw [eW]; rfl
    have z2 : ((PySem.W.clsIn K cW).isSome && PySem.W.typeIn K (.ref cW) == some (.type "type")) = true := by
      rw [show (PySem.W.clsIn K cW).isSome = true from clW, tyW]; rfl
    unfold PySem.W.exmOne
    rw [if_pos z1]
    exact (if_pos z2).trans suWW
  have TW : ErrF K mg "BadWay" "way" cW cD fW fD := { gC := PySem.W.mg_of X G aW, gD := PySem.W.mg_of X G aD, oex := ⟨⟨_, _, _, _, _, _, _, _, _, _, _, _, _, _, _, xW, by rfl⟩, saW, eW, tyW, kcW⟩, iC := iW, tI := tiW, rd := ⟨rdD, gaD⟩, fc := fcD, vV := vV, noW := nWW, noF := nFW, xf := ⟨gaW, ggW, eW, hdW⟩, nV := PySem.W.mg_none_of X G zV }
  have F_bw := fun_mk (st := s_bw) lfW cdW kfW
  have b_bw := F_bw.binds (ps := ["self", "way"]) fun _ _ _ _ _ _ us hl => match us, hl with | [_, _], _ => rfl
  have F_de : FunD K "__init__" "DotError.__init__" (defArgs s_de) (defBody s_de) (defScope s_de) [.str "DotError", .str "refused"] [] fD _ := ⟨⟨_, _, _, _, _, _, _, _, _, _, rfl, lD, cdD, .inr ⟨by decide, _, _, _, _, rfl, tD, rfl, .cons ⟨_, rfl⟩ (.cons ⟨_, rfl⟩ .nil)⟩, .inl rfl⟩, kfD⟩
  obtain ⟨dsE, vE, bbE⟩ := F_de.binds1 (ps := ["self", "word", "message"]) 3 2 (by decide) rfl fun _ _ _ _ _ _ _ us its hl hi => match us, its, hl, hi with | [_, _, _], [_, _], _, _ => ⟨_, rfl, rfl⟩
  have b_de := nil_binds vE bbE
  have G_de := ok_de (P := l.prog) (w := w) (base := base) TW F_de
  have G_bw := ok_bw TW F_bw G_de kfD b_de
  have C_like : Cal l.prog w K mg base 3 "_law_like" ["_law_found", "_law_due"] (spLike 2) := ⟨_, _, ok_like B F_like b_like m_like 2, b_like, F_like.kp, m_like⟩
  have C_bag : Cal l.prog w K mg base 1 "_law_bag" ["_law_script"] (spBag K) := ⟨_, _, ok_bag B F_bag, b_bag, F_bag.kp, m_bag⟩
  have C_pull : Cal l.prog w K mg base 1 "_law_pull" ["_law_bag_here", "_law_amount"] spPull := ⟨_, _, ok_pull B F_pull, b_pull, F_pull.kp, m_pull⟩
  have C_of : Cal l.prog w K mg base 2 "_law_of" ["_law_bag_here", "_law_things"] spOf := ⟨_, _, ok_of B C_pull F_of, b_of, F_of.kp, m_of⟩
  have C_clipped : Cal l.prog w K mg base 1 "_law_clipped" ["_law_number"] spClip := ⟨_, _, ok_clipped B F_clipped, b_clipped, F_clipped.kp, m_clipped⟩
  have C_spot : Cal l.prog w K mg base 2 "_law_spot" ["_law_bag_here", "_law_base_here", "_law_wide"] spSpot := ⟨_, _, ok_spot C_pull C_clipped F_spot, b_spot, F_spot.kp, m_spot⟩
  have C_base : Cal l.prog w K mg base 3 "_law_base" ["_law_bag_here"] spBase := ⟨_, _, ok_base C_pull C_of F_base, b_base, F_base.kp, m_base⟩
  have C_stroke : Cal l.prog w K mg base 3 "_law_stroke" ["_law_bag_here", "_law_base_here", "_law_wide"] spStroke := ⟨_, _, ok_stroke C_spot F_stroke, b_stroke, F_stroke.kp, m_stroke⟩
  have C_moments : Cal l.prog w K mg base 1 "moments" ["start", "end", "unit", "least", "greatest"] spMoments := ⟨_, _, ok_moments F_moments, b_moments, F_moments.kp, m_moments⟩
  have C_passes : Cal l.prog w K mg base 2 "passes" ["stroke", "least", "greatest"] spPasses := ⟨_, _, ok_passes B C_moments F_passes, b_passes, F_passes.kp, m_passes⟩
  have C_p_goes : Cal l.prog w K mg base 3 "goes" ["stroke", "spot"] spGoes := ⟨_, _, ok_p_goes C_passes F_p_goes, b_p_goes, F_p_goes.kp, m_p_goes⟩
  have C_sign : Cal l.prog w K mg base 1 "sign" ["number"] spSign := ⟨_, _, ok_sign F_sign, b_sign, F_sign.kp, m_sign⟩
  have C_ends_of : Cal l.prog w K mg base 1 "ends_of" ["stroke"] spEnds := ⟨_, _, ok_ends_of F_ends_of, b_ends_of, F_ends_of.kp, m_ends_of⟩
  have C_heading : Cal l.prog w K mg base 2 "heading" ["stroke"] spHeading := ⟨_, _, ok_heading C_sign F_heading, b_heading, F_heading.kp, m_heading⟩
  have C_square_behind : Cal l.prog w K mg base 4 "square_behind" ["stroke", "here"] spBehind := ⟨_, _, ok_square_behind C_heading C_p_goes F_square_behind, b_square_behind, F_square_behind.kp, m_square_behind⟩
  have C_squares : Cal l.prog w K mg base 5 "squares" ["stroke"] spSquares := ⟨_, _, ok_squares C_ends_of C_square_behind F_squares, b_squares, F_squares.kp, m_squares⟩
  have C_clip : Cal l.prog w K mg base 1 "_law_clip" ["_law_begin", "_law_step", "_law_low", "_law_high"] spClp := ⟨_, _, ok_clip F_clip, b_clip, F_clip.kp, m_clip⟩
  have C_later : Cal l.prog w K mg base 1 "_law_later" ["_law_one", "_law_other"] spLater := ⟨_, _, ok_later F_later, b_later, F_later.kp, m_later⟩
  have C_sooner : Cal l.prog w K mg base 1 "_law_sooner" ["_law_one", "_law_other"] spSooner := ⟨_, _, ok_sooner F_sooner, b_sooner, F_sooner.kp, m_sooner⟩
  have C_inside : Cal l.prog w K mg base 1 "_law_inside" ["_law_stroke_here", "_law_when", "_law_spot_here"] spInside := ⟨_, _, ok_inside F_inside, b_inside, F_inside.kp, m_inside⟩
  have C_goes : Cal l.prog w K mg base 2 "_law_goes" ["_law_stroke_here", "_law_spot_here"] spGoes := ⟨_, _, ok_goes B C_clip C_later C_sooner C_inside F_goes, b_goes, F_goes.kp, m_goes⟩
  have C_sifted : Cal l.prog w K mg base 5 "sifted" ["stroke", "spots"] (spBentT [(PL_sifted, qLamOf "sifted" (defScope s_sifted))]) := ⟨_, _, ok_sifted B C_p_goes C_heading F_sifted rfl TB_sifted, b_sifted, F_sifted.kp, m_sifted⟩
  have C_walked : Cal l.prog w K mg base 6 "walked" ["stroke", "known"] spWalked := ⟨_, _, ok_walked C_squares F_walked, b_walked, F_walked.kp, m_walked⟩
  have C_near_spot : Cal l.prog w K mg base 2 "_law_near_spot" ["_law_bag_here", "_law_stroke_here"] spNear := ⟨_, _, ok_near_spot C_pull C_clipped F_near_spot, b_near_spot, F_near_spot.kp, m_near_spot⟩
  have C_some_spots : Cal l.prog w K mg base 3 "_law_some_spots" ["_law_bag_here", "_law_stroke_here"] spSomeS := ⟨_, _, ok_some_spots B C_pull C_near_spot F_some_spots, b_some_spots, F_some_spots.kp, m_some_spots⟩
  have C_bent : Cal l.prog w K mg base 3 "_law_bent" ["_law_stroke_here", "_law_spots"] spLBent := ⟨_, _, ok_bent B C_goes F_bent, b_bent, F_bent.kp, m_bent⟩
  have C_halved : Cal l.prog w K mg base 17 "halved" ["stroke", "spots"] (spHalved 15) := ⟨_, _, ok_halved B C_passes C_heading F_halved b_halved m_halved 15, b_halved, F_halved.kp, m_halved⟩
  have G_need := ok_need_way TW G_bw b_bw c_ALL c_WALK c_HALVES F_need_way
  have G_bent := ok_bentR G_need F_need_way.kp b_need_way m_need_way c_WALK c_HALVES C_walked C_halved C_sifted F_p_bent
  have D_p_bent : CalD l.prog w K mg base 18 "bent" ["stroke", "spots", "way"] (spBentG _) [.str "all"] := ⟨_, _, ds_p_bent, calm_of G_bent bentG_of, bd_p_bent, vd_p_bent, F_p_bent.kp, m_p_bent⟩
  have C_way_of : Cal l.prog w K mg base 19 "_law_way_of" ["_law_stroke_here", "_law_spots", "_law_road"] (spWayOf _) := ⟨_, _, ok_way_of TW hWW G_bent F_p_bent.kp m_p_bent kb_p_bent F_way_of, b_way_of, F_way_of.kp, m_way_of⟩
  exact ok_law B c_ALL c_WALK c_HALVES C_bag C_pull C_of C_like C_base C_stroke C_some_spots C_bent C_way_of D_p_bent F_law
theorem walk {l : PySem.W.OpenLaw} {q : Program} {loose : List Str} {XP : (Str → Option Value) → Heap → Prop} {YP : World → Heap → Prop} {d : DefRec} {K : Params → PySem.W.Frag} (hn : l.most = some 63) (hdf : d.params.defaults = []) (hrec : ∀ nm ∈ (["sifted"] : List Str), ((PyProof.Rows.recsOf q).any fun e => e.name == nm) = true)
    (hY : ∀ (w : World) (h : Heap), YP w h → (K w.params).In h)
    (F : ∀ (w : World) (mg : Str → Option Value) (fa : Addr) (h : Heap), (K w.params).In h → h.Ns mainGlobals mg → mg d.name = some (.ref fa) → (∀ nm ∈ (["sifted"] : List Str), ∀ g : Addr, mg nm = some (.ref g) → LamX.OwnTab (K w.params) g h) → LamX.LawAtS l w (K w.params) CX0 20 63 "_law_script" mg fa h) :
    PySem.W.WalkO q loose XP YP l.row.toRowW d [] (fun f vs => PySem.call f vs) :=
  walk_ofTabs (["sifted"] : List Str) (n := 63) (k := 20) (x := "_law_script") (CX := fun _ => CX0) hn (by decide) hdf ⟨rfl, by decide, by decide⟩ hrec hY (fun w mg fa h _ KX G hm own => F w mg fa h KX G hm own) fun _ _ _ _ _ z => z
end DM
open PySem PySem.W PyProof.Rows
set_option maxRecDepth 100000 in
set_option maxHeartbeats 0 in
theorem PySem.Challenge.cw_dotmoor_k13_strokes_bent_through_spots_holds : PySem.Challenge.rw_dotmoor_k13_strokes_bent_through_spots.Holds := by
  w_on; o_law; k_head; (case hw => w_witness2)
  k_fill
  refine DM.walk (l := PySem.Challenge.rw_dotmoor_k13_strokes_bent_through_spots) rfl rfl ?hrec (fun w h Y => PySem.W.km_in_of Y) ?F
  case hrec => first | decide +kernel | (intro nm hnm; simp only [List.mem_cons, List.not_mem_nil, or_false] at hnm; rcases hnm with rfl <;> first | rfl | decide +kernel)
  case F =>
    intro w mg fa h KX G hmg own
    refine' DM.all_mk KX G hmg ?a1 ?l1 ?c1 ?k1 ?a2 ?l2 ?c2 ?k2 ?a3 ?l3 ?c3 ?k3 ?a4 ?l4 ?c4 ?k4 ?a5 ?l5 ?c5 ?k5 ?a6 ?l6 ?c6 ?k6 ?a7 ?l7 ?c7 ?k7 ?a8 ?l8 ?c8 ?k8 ?a9 ?l9 ?c9 ?k9 ?a10 ?l10 ?c10 ?k10 ?w10 ?a11 ?l11 ?c11 ?k11 ?a12 ?l12 ?c12 ?k12 ?a13 ?l13 ?c13 ?k13 ?a14 ?l14 ?c14 ?k14 ?a15 ?l15 ?c15 ?k15 ?a16 ?l16 ?c16 ?k16 ?a17 ?l17 ?c17 ?k17 ?a18 ?l18 ?c18 ?k18 ?a19 ?l19 ?c19 ?k19 ?a20 ?l20 ?c20 ?k20 ?a21 ?l21 ?c21 ?k21 ?a22 ?l22 ?c22 ?k22 ?a23 ?l23 ?c23 ?k23 ?a24 ?l24 ?c24 ?k24 ?a25 ?l25 ?c25 ?k25 ?a26 ?l26 ?c26 ?k26 ?a27 ?l27 ?c27 ?k27 ?a28 ?l28 ?c28 ?k28 ?a29 ?l29 ?c29 ?k29 ?a30 ?l30 ?c30 ?k30 ?a31 ?l31 ?c31 ?k31 ?aD ?aW ?xW ?saW ?eW ?tyW ?kcW ?iW ?tiW ?lfW ?cdW ?kfW ?nWW ?nFW ?gaW ?ggW ?hdW ?clW ?fcD ?lD ?cdD ?kfD ?tD ?rdD ?gaD ?vV ?suWW ?zV ?z_len ?z_isinstance ?z_all ?z_list ?z_tuple ?z_dict ?z_bool ?z_range ?z_abs ?z_any ?z_sorted ?z_int ?z_max ?z_min ?z_sum ?z_zip ?z_enumerate ?n_ALL ?n_WALK ?n_HALVES ?tC_sifted ?tP_sifted ?tN_sifted ?tH_sifted own
    (case a1 => k_is)
    (case l1 => k_is)
    (case c1 => k_is)
    (case k1 => k_is)
    (case a2 => k_is)
    (case l2 => k_is)
    (case c2 => k_is)
    (case k2 => k_is)
    (case a3 => k_is)
    (case l3 => k_is)
    (case c3 => k_is)
    (case k3 => k_is)
    (case a4 => k_is)
    (case l4 => k_is)
    (case c4 => k_is)
    (case k4 => k_is)
    (case a5 => k_is)
    (case l5 => k_is)
    (case c5 => k_is)
    (case k5 => k_is)
    (case a6 => k_is)
    (case l6 => k_is)
    (case c6 => k_is)
    (case k6 => k_is)
    (case a7 => k_is)
    (case l7 => k_is)
    (case c7 => k_is)
    (case k7 => k_is)
    (case a8 => k_is)
    (case l8 => k_is)
    (case c8 => k_is)
    (case k8 => k_is)
    (case a9 => k_is)
    (case l9 => k_is)
    (case c9 => k_is)
    (case k9 => k_is)
    (case a10 => k_is)
    (case l10 => k_is)
    (case c10 => k_is)
    (case k10 => k_is)
    (case w10 => k_is)
    (case a11 => k_is)
    (case l11 => k_is)
    (case c11 => k_is)
    (case k11 => k_is)
    (case a12 => k_is)
    (case l12 => k_is)
    (case c12 => k_is)
    (case k12 => k_is)
    (case a13 => k_is)
    (case l13 => k_is)
    (case c13 => k_is)
    (case k13 => k_is)
    (case a14 => k_is)
    (case l14 => k_is)
    (case c14 => k_is)
    (case k14 => k_is)
    (case a15 => k_is)
    (case l15 => k_is)
    (case c15 => k_is)
    (case k15 => k_is)
    (case a16 => k_is)
    (case l16 => k_is)
    (case c16 => k_is)
    (case k16 => k_is)
    (case a17 => k_is)
    (case l17 => k_is)
    (case c17 => k_is)
    (case k17 => k_is)
    (case a18 => k_is)
    (case l18 => k_is)
    (case c18 => k_is)
    (case k18 => k_is)
    (case a19 => k_is)
    (case l19 => k_is)
    (case c19 => k_is)
    (case k19 => k_is)
    (case a20 => k_is)
    (case l20 => k_is)
    (case c20 => k_is)
    (case k20 => k_is)
    (case a21 => k_is)
    (case l21 => k_is)
    (case c21 => k_is)
    (case k21 => k_is)
    (case a22 => k_is)
    (case l22 => k_is)
    (case c22 => k_is)
    (case k22 => k_is)
    (case a23 => k_is)
    (case l23 => k_is)
    (case c23 => k_is)
    (case k23 => k_is)
    (case a24 => k_is)
    (case l24 => k_is)
    (case c24 => k_is)
    (case k24 => k_is)
    (case a25 => k_is)
    (case l25 => k_is)
    (case c25 => k_is)
    (case k25 => k_is)
    (case a26 => k_is)
    (case l26 => k_is)
    (case c26 => k_is)
    (case k26 => k_is)
    (case a27 => k_is)
    (case l27 => k_is)
    (case c27 => k_is)
    (case k27 => k_is)
    (case a28 => k_is)
    (case l28 => k_is)
    (case c28 => k_is)
    (case k28 => k_is)
    (case a29 => k_is)
    (case l29 => k_is)
    (case c29 => k_is)
    (case k29 => k_is)
    (case a30 => k_is)
    (case l30 => k_is)
    (case c30 => k_is)
    (case k30 => k_is)
    (case a31 => k_is)
    (case l31 => k_is)
    (case c31 => k_is)
    (case k31 => k_is)
    (case aD => k_is)
    (case aW => k_is)
    (case xW => k_is)
    (case saW => k_is)
    (case eW => k_is)
    (case tyW => k_is)
    (case kcW => k_is)
    (case iW => k_is)
    (case tiW => k_is)
    (case lfW => k_is)
    (case cdW => k_is)
    (case kfW => k_is)
    (case nWW => k_is)
    (case nFW => k_is)
    (case gaW => k_is)
    (case ggW => k_is)
    (case hdW => k_is)
    (case clW => k_is)
    (case fcD => k_is)
    (case lD => k_is)
    (case cdD => k_is)
    (case kfD => k_is)
    (case tD => k_is)
    (case rdD => k_is)
    (case gaD => k_is)
    (case vV => k_is)
    (case suWW => k_is)
    (case zV => k_is)
    (case z_len => k_is)
    (case z_isinstance => k_is)
    (case z_all => k_is)
    (case z_list => k_is)
    (case z_tuple => k_is)
    (case z_dict => k_is)
    (case z_bool => k_is)
    (case z_range => k_is)
    (case z_abs => k_is)
    (case z_any => k_is)
    (case z_sorted => k_is)
    (case z_int => k_is)
    (case z_max => k_is)
    (case z_min => k_is)
    (case z_sum => k_is)
    (case z_zip => k_is)
    (case z_enumerate => k_is)
    (case n_ALL => k_is)
    (case n_WALK => k_is)
    (case n_HALVES => k_is)
    (case tC_sifted => k_is)
    (case tP_sifted => first | rfl | kernel_rfl)
    (case tN_sifted => first | rfl | kernel_rfl)
    (case tH_sifted => first | rfl | kernel_rfl)

