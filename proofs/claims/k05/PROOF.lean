import PyProof.Rows.All
import Wide.All
import OpenK.AllK
import Wide.FinOn
import HandS.ForMost
import HandS.IsInst
import HandS.Wide
import HandS.Style
import HandS.ForExc
import HandS.ExcInit
import HandS.ExcField
import HandS.ClsMeth
import HandS.CallSlots
import KE.KExcIs
import HandS.Defaults
import HandS.Lambda
import HandS.TryMany
import HandS.FStr
import HandS.FStrTup
import KE.DatumOrd
import HandS.EndOwn
import KE.KNestM
import PySem.Challenge.RW_dotmoor_k05_strokes_refused
set_option Elab.async false
set_option linter.all false
set_option maxRecDepth 100000
set_option maxHeartbeats 4000000
namespace DM
open PySem L2
/-! ### built-ins by their names -/
theorem bt_len : bootBuiltins "len" = some (.builtin "len") := by decide +kernel
theorem bt_isinstance : bootBuiltins "isinstance" = some (.builtin "isinstance") := by decide +kernel
theorem bt_all : bootBuiltins "all" = some (.builtin "all") := by decide +kernel
theorem bt_any : bootBuiltins "any" = some (.builtin "any") := by decide +kernel
theorem bt_sorted : bootBuiltins "sorted" = some (.builtin "sorted") := by decide +kernel
theorem bt_abs : bootBuiltins "abs" = some (.builtin "abs") := by decide +kernel
theorem bt_max : bootBuiltins "max" = some (.builtin "max") := by decide +kernel
theorem bt_min : bootBuiltins "min" = some (.builtin "min") := by decide +kernel
theorem bt_list : bootBuiltins "list" = some (.type "list") := by decide +kernel
theorem bt_tuple : bootBuiltins "tuple" = some (.type "tuple") := by decide +kernel
theorem bt_dict : bootBuiltins "dict" = some (.type "dict") := by decide +kernel
theorem bt_bool : bootBuiltins "bool" = some (.type "bool") := by decide +kernel
theorem bt_int : bootBuiltins "int" = some (.type "int") := by decide +kernel
structure Blt (mg : Str → Option Value) : Prop where
  len : mg "len" = none
  isinstance : mg "isinstance" = none
  all : mg "all" = none
  list : mg "list" = none
  tuple : mg "tuple" = none
  dict : mg "dict" = none
  bool : mg "bool" = none
  range : mg "range" = none
  abs : mg "abs" = none
  any : mg "any" = none
  sorted : mg "sorted" = none
  int : mg "int" = none
  max : mg "max" = none
  min : mg "min" = none
/-! ### a def that may be called by its name -/
def Cal (P : Program) (w : World) (K : PySem.W.Frag) (mg : Str → Option Value) (base : Heap) (k : Nat) (x : Str) (ps : List Str) (sp : Sp) : Prop :=
  ∃ (f : Addr) (fd : FuncData), FnOk P w K mg base CX0 k f fd ps sp ∧ Binds K fd ps [] ∧ PySem.W.keepIn K (.ref f) = true ∧ mg x = some (.ref f)
section
variable {X : Cx}
theorem pe_cal {k k' : Nat} {x : Str} {ps : List Str} {sp : Sp} {e : Expr} {es : List Expr} {t : TA} {p pos : Pos} (C : Cal X.prog X.w X.K X.mg X.base k x ps sp) (hr : Room k' X.A) (ha : PA X (e :: es) t)
    (hk : k ≤ k' := by decide) (hg : Gl X x := by rfl) (hdb : (x == ("__debug__" : Str)) = false := by decide) (he : starEach (e :: es) X.env = (false, eval e X.env) :: starEach es X.env := by rfl) (hpl : (backTo pos (starEach es X.env)).any (·.1) = false := by rfl) :
    PE X (.Call (.Name x p) (e :: es) [] pos) (tCall sp [] E0 t) := by
  obtain ⟨f, fd, F, b, kp, hm⟩ := C
  exact pe_call F (hr.mono hk) hg hm kp b .nil pass0 ha hdb he hpl
end
theorem nil_binds {K : PySem.W.Frag} {fd : FuncData} {ps : List Str} {ds : List Value} (v : Vals [] ds) (b : Binds K fd ps ds) : Binds K fd ps [] := by
  cases v
  exact b
/-! ### statements -/
theorem seq_with {t u : TS} {D : Ends} {σ : St} {H : Hp} (P : St → Hp → Prop) (h1 : ∀ R : St → Hp → Prop, (∀ σ' H', P σ' H' → R σ' H') → t { D with nx := R } σ H) (h2 : ∀ σ' H', P σ' H' → u D σ' H') : tSeq t u D σ H := h1 (u D) h2
theorem iteDF {c : Prop} [Decidable c] {A B : Prop} (hc : ¬ c) (h : B) : if decide c = true then A else B := by
  rw [decide_eq_false hc]
  exact iteF h
theorem iteDT {c : Prop} [Decidable c] {A B : Prop} (hc : c) (h : A) : if decide c = true then A else B := by
  rw [decide_eq_true hc]
  exact iteT h
theorem same_new {H : Hp} {p : Addr} (h : H p = none) (o : HO) : Same H (upd H p o) := fun b u q => by rw [upd_ne (ne_of_none q h)]; exact q
theorem new_at {H : Hp} {p : Addr} {o : HO} (_ : Same H (upd H p o)) : upd H p o p = some o := upd_same
theorem sz {n : Nat} (h : n ≤ 100000) : n ≤ sizeLine := Nat.le_trans h (by decide)
/-! ### the bag -/
/-- all but what stands at b is as it was -/
def But (b : Addr) (H H' : Hp) : Prop := ∀ a o, a ≠ b → H a = some o → H' a = some o
theorem But.refl {b : Addr} {H : Hp} : But b H H := fun _ _ _ h => h
theorem But.trans {b : Addr} {H H1 H2 : Hp} (x : But b H H1) (y : But b H1 H2) : But b H H2 := fun a o h e => y a o h (x a o h e)
theorem But.of {b : Addr} {H H1 : Hp} (x : Same H H1) : But b H H1 := fun a o _ e => x a o e
theorem But.upd {b : Addr} {H : Hp} {o : HO} : But b H (upd H b o) := fun a u h e => by rw [upd_ne h]; exact e
def BagAt (H : Hp) (b l : Addr) : Prop := ∃ (ns : List Int) (i g s : Int), H b = some (.lst [.ref l, .int i, .int g, .int s]) ∧ H l = some (.lst (ns.map V.int)) ∧ ns.length ≤ 63 ∧ 0 ≤ i ∧ 0 ≤ g ∧ 0 ≤ s ∧ s < 2147483647
theorem bag_ne {H : Hp} {b l : Addr} {ns : List Int} {i g s : Int} (h : H b = some (.lst [.ref l, .int i, .int g, .int s])) (h' : H l = some (.lst (ns.map V.int))) : l ≠ b := by
  refine ne_of h' h fun e => ?_
  have e1 := HO.lst.inj e
  cases ns with
  | nil => cases e1
  | cons a r => cases e1
theorem bag_upd {H : Hp} {b l : Addr} {ns : List Int} {i g s : Int} (hl : l ≠ b) (h' : H l = some (.lst (ns.map V.int))) (h63 : ns.length ≤ 63) (hi : 0 ≤ i) (hg : 0 ≤ g) (h0 : 0 ≤ s) (h1 : s < 2147483647) : BagAt (upd H b (.lst [.ref l, .int i, .int g, .int s])) b l :=
  ⟨ns, i, g, s, upd_same, by rw [upd_ne hl]; exact h', h63, hi, hg, h0, h1⟩
theorem BagAt.same {H H' : Hp} {b l : Addr} (h : BagAt H b l) (e : Same H H') : BagAt H' b l := by
  obtain ⟨ns, i, g, s, h1, h2, r⟩ := h
  exact ⟨ns, i, g, s, e _ _ h1, e _ _ h2, r⟩
theorem BagAt.hasB {H : Hp} {b l : Addr} (h : BagAt H b l) : ∃ xs, H b = some (.lst xs) := by
  obtain ⟨ns, i, g, s, h1, _⟩ := h
  exact ⟨_, h1⟩
theorem BagAt.hasL {H : Hp} {b l : Addr} (h : BagAt H b l) : ∃ xs, H l = some (.lst xs) := by
  obtain ⟨ns, i, g, s, h1, h2, _⟩ := h
  exact ⟨_, h2⟩
/-- a store elsewhere leaves the bag -/
theorem BagAt.put {H : Hp} {b l p : Addr} {o : HO} (h : BagAt H b l) (h1 : p ≠ b) (h2 : p ≠ l) : BagAt (upd H p o) b l := by
  obtain ⟨ns, i, g, s, e1, e2, r⟩ := h
  exact ⟨ns, i, g, s, by rw [upd_ne (Ne.symm h1)]; exact e1, by rw [upd_ne (Ne.symm h2)]; exact e2, r⟩
/-- what is new is not the bag's -/
theorem BagAt.new {H : Hp} {b l p : Addr} (h : BagAt H b l) (hp : H p = none) : p ≠ b ∧ p ≠ l := by
  obtain ⟨xs, e1⟩ := h.hasB
  obtain ⟨ys, e2⟩ := h.hasL
  exact ⟨Ne.symm (ne_of_none e1 hp), Ne.symm (ne_of_none e2 hp)⟩
theorem bag_tup {H : Hp} {b l p : Addr} {xs : List V} (hB : BagAt H b l) (h : H p = some (.tup xs)) : p ≠ b := by
  obtain ⟨ys, e⟩ := hB.hasB
  exact ne_of h e (by intro z; cases z)
/-- what the bag's makers and readers promise -/
def spBag (K : PySem.W.Frag) : Sp := fun vs H Q _ => ∃ (a : Addr) (ns : List Int), vs = [.ref a] ∧ SqL K H a (ns.map V.int) ∧ ns.length ≤ 63 ∧ ∀ (b l : Addr) (H' : Hp), Same H H' → H b = none → H l = none → BagAt H' b l → Q (.ref b) H'
def spPull : Sp := fun vs H Q _ => ∃ (b l : Addr) (m : Int), vs = [.ref b, .int m] ∧ BagAt H b l ∧ 0 < m ∧ m < 4611686018427387904 ∧ ∀ (r : Int) (H' : Hp), BagAt H' b l → But b H H' → 0 ≤ r → r < m → Q (.int r) H'
def spOf : Sp := fun vs H Q _ => ∃ (b l p : Addr) (xs : List V), vs = [.ref b, .ref p] ∧ BagAt H b l ∧ H p = some (.lst xs) ∧ p ≠ b ∧ 0 < xs.length ∧ xs.length ≤ 1000 ∧ ∀ (v : V) (H' : Hp), BagAt H' b l → But b H H' → v ∈ xs → Q v H'
def spLaw (K : PySem.W.Frag) : Sp := fun vs H Q _ => ∃ (a : Addr) (ns : List Int), vs = [.ref a] ∧ SqL K H a (ns.map V.int) ∧ ns.length ≤ 63 ∧ ∀ H', Q (.bl true) H'
end DM

namespace DM
open PySem L2
def top (i : Nat) : Stmt := PySem.Challenge.pw_dotmoor_k05_strokes_refused.main.body.getD i (.Pass ⟨0, 0, 0, 0⟩)
section
variable {P : Program} {w : World} {K : PySem.W.Frag} {mg : Str → Option Value} {base : Heap} {f : Addr} {fd : FuncData}
abbrev s_bag : Stmt := top 11
theorem sc_bag : FnScope ["_law_script", "_law_salt", "_law_cell"] ["_law_script"] (defScope s_bag) := ⟨rfl, rfl, rfl, by decide +kernel, rfl, by decide +kernel, by decide +kernel⟩
theorem cut_ints (ns : List Int) : ∃ ms : List Int, cutV (ns.map V.int) none (some 63) = ms.map V.int ∧ ms.length ≤ ns.length := by
  refine ⟨(ns.drop (HT.sIx ns.length 0 none)).take (HT.sIx ns.length ns.length (some 63) - HT.sIx ns.length 0 none), ?_, ?_⟩
  · unfold cutV
    rw [List.length_map, List.map_take, List.map_drop]
  · rw [List.length_take, List.length_drop]
    omega
theorem ok_bag (B : Blt mg) (F : Fun K "_law_bag" "_law_bag" s_bag f fd) : FnOk P w K mg base CX0 1 f fd ["_law_script"] (spBag K) := by
  refine F.ok sc_bag (fun vs H Q E h => ?_) (fun cdv A outer s H vs Q E hr h => ?_)
  · obtain ⟨a, ns, rfl, _⟩ := h
    rfl
  obtain ⟨a, ns, rfl, hS, h63, q⟩ := h
  refine ⟨_, (pss_cons (ps_set (i := 1) sc_bag.nd rfl (Or.inl rfl) pe_int)
    (pss_cons (ps_for PassesOwn.never rfl (pi_list (pe_slice sl_list (pv 0) po_none (po_some pe_int))) (pg_name (i := 2) sc_bag.nd rfl (Or.inl rfl))
    (pss_one (ps_set (i := 1) sc_bag.nd rfl (Or.inl rfl) (pe_op op_mod (pe_op op_add (pe_op op_add (pe_op op_mul (pv 1) pe_int) (pe_op op_mod (pv 2) pe_int)) pe_int) pe_int))))
    (pss_one (ps_ret (pe_lst (pa_cons (pe_callTy call_list_of rfl B.list bt_list (pa_cons (pe_slice sl_list (pv 0) po_none (po_some pe_int)) pa_nil)) (pa_cons pe_int (pa_cons pe_int (pa_cons (pv 1) pa_nil))))))))), ?_⟩
  obtain ⟨ms, em, lm⟩ := cut_ints ns
  refine ⟨_, rfl, _, rfl, a, _, rfl, hS, fun p hp => ?_⟩
  refine ⟨p, rfl, ⟨_, SqL.of upd_same⟩, ?_⟩
  have g1 : Same H (upd H p (.lst (cutV (ns.map V.int) none (some 63)))) := same_new hp _
  have hp1 : upd H p (.lst (cutV (ns.map V.int) none (some 63))) p = some (.lst (ms.map V.int)) := by rw [upd_same, em]
  refine for_list (K := K) (a := p) (xs := ms.map V.int) (fun _ σ H' => H' = upd H p (.lst (cutV (ns.map V.int) none (some 63))) ∧ ∃ (s : Int) (c : Option V), σ = [some (.ref a), some (.int s), c] ∧ 0 ≤ s ∧ s < 2147483647) ?_ ?_ ?_ ?_
  · exact ⟨rfl, 9117, none, rfl, by decide, by decide⟩
  · rintro i σ H' _ ⟨rfl, _⟩
    exact SqL.of hp1
  · rintro i x σ H' hx ⟨rfl, s, c, rfl, h0, h1⟩
    obtain ⟨n, rfl⟩ : ∃ n, x = V.int n := by
      rw [List.getElem?_map] at hx
      cases e : ms[i]? with
      | none => rw [e] at hx; cases hx
      | some n => rw [e] at hx; exact ⟨n, (Option.some.inj hx).symm⟩
    refine ⟨_, rfl, _, _, rfl, rfl, .inr ⟨by decide, by decide⟩, _, rfl, _, _, rfl, rfl, (by dsimp only; decide), _, _, rfl, rfl, _, _, rfl, rfl, _, _, rfl, rfl, (by dsimp only; decide), ?_⟩
    refine ⟨rfl, _, _, rfl, ?_, ?_⟩
    · exact Int.emod_nonneg _ (by decide)
    · exact Int.emod_lt_of_pos _ (by decide)
  · rintro σ H' ⟨rfl, s, c, rfl, h0, h1⟩
    refine ⟨_, rfl, _, rfl, a, _, rfl, g1.seq hS, fun p2 hp2 => ?_⟩
    refine ⟨p2, _, rfl, .inl (SqL.of upd_same), fun p3 hp3 => ?_⟩
    refine ⟨_, rfl, sz (by decide : 4 ≤ 100000), fun p4 hp4 => ?_⟩
    refine q p4 p3 _ (g1.trans ((same_new hp2 _).trans ((same_new hp3 _).trans (same_new hp4 _)))) ?_ (g1.free ((same_new hp2 _).free hp3)) ?_
    · exact g1.free ((same_new hp2 _).free ((same_new hp3 _).free hp4))
    · refine bag_upd (ns := ms) (Ne.symm (Ne.symm (ne_of_none (H := upd _ p3 _) upd_same hp4))) ?_ (by omega) (by decide) (by decide) h0 h1
      rw [upd_same, em]
abbrev s_pull : Stmt := top 12
theorem sc_pull : FnScope ["_law_bag_here", "_law_amount", "_law_cell", "_law_got", "_law_seed"] ["_law_bag_here", "_law_amount"] (defScope s_pull) := ⟨rfl, rfl, rfl, by decide +kernel, rfl, by decide +kernel, by decide +kernel⟩
theorem ok_pull (B : Blt mg) (F : Fun K "_law_pull" "_law_pull" s_pull f fd) : FnOk P w K mg base CX0 1 f fd ["_law_bag_here", "_law_amount"] spPull := by
  refine F.ok sc_pull (fun vs H Q E h => ?_) (fun cdv A outer s H vs Q E hr h => ?_)
  · obtain ⟨b, l, m, rfl, _⟩ := h
    rfl
  obtain ⟨b, l, m, rfl, hB, hm0, hm1, q⟩ := h
  refine ⟨_, (pss_cons (ps_if (PW.pt (pw_and (pt_cmpR op_eq (pe_ix ix_list (pv 0) pe_int (fun _ _ => rfl)) pe_int (nomark _)) (pw_and1 (pt_cmpR op_lt (pe_ix ix_list (pv 0) pe_int (fun _ _ => rfl)) (pe_callB call_len_seq rfl B.len bt_len (pa_cons (pe_ix ix_list (pv 0) pe_int (fun _ _ => rfl)) pa_nil)) (nomark _)))))
    (pss_cons (ps_set (i := 2) sc_pull.nd rfl (Or.inl rfl) (pe_ix ix_list (pe_ix ix_list (pv 0) pe_int (fun _ _ => rfl)) (pe_ix ix_list (pv 0) pe_int (fun _ _ => rfl)) (fun _ _ => rfl)))
    (pss_cons (ps_asg (pe_op op_add (pe_ix ix_list (pv 0) pe_int (fun _ _ => rfl)) pe_int) (pg_sub (pv 0) pe_int set_list))
    (pss_one (ps_if (pt_cmpR op_ge (pv 2) (pe_op op_pow pe_int pe_int) (nomark _))
    (pss_one (ps_asg (pv 2) (pg_sub (pv 0) pe_int set_list)))
    (pss_one (ps_asg (pe_op op_mod (pe_op op_add (pe_op op_add (pe_op op_mul (pe_ix ix_list (pv 0) pe_int (fun _ _ => rfl)) pe_int) (pe_op op_mul (pe_op op_mod (pv 2) pe_int) pe_int)) pe_int) pe_int) (pg_sub (pv 0) pe_int set_list)))))))
    pss_nil)
    (pss_cons (ps_if (pt_cmpR op_gt (pe_ix ix_list (pv 0) pe_int (fun _ _ => rfl)) pe_int (nomark _))
    (pss_cons (ps_set (i := 3) sc_pull.nd rfl (Or.inl rfl) (pe_op op_mod (pe_ix ix_list (pv 0) pe_int (fun _ _ => rfl)) (pv 1)))
    (pss_cons (ps_asg (pe_op op_fdivW (pe_ix ix_list (pv 0) pe_int (fun _ _ => rfl)) (pv 1)) (pg_sub (pv 0) pe_int set_list))
    (pss_one (ps_ret (pv 3)))))
    pss_nil)
    (pss_cons (ps_set (i := 4) sc_pull.nd rfl (Or.inl rfl) (pe_ix ix_list (pv 0) pe_int (fun _ _ => rfl)))
    (pss_cons (ps_asg (pe_op op_mod (pe_op op_add (pe_op op_add (pe_op op_mul (pv 4) pe_int) (pe_op op_mul (pe_op op_fdiv (pv 4) pe_int) pe_int)) pe_int) pe_int) (pg_sub (pv 0) pe_int set_list))
    (pss_one (ps_ret (pe_op op_mod (pe_op op_add (pe_op op_fdiv (pe_ix ix_list (pv 0) pe_int (fun _ _ => rfl)) pe_int) (pe_op op_mul (pe_op op_mod (pe_ix ix_list (pv 0) pe_int (fun _ _ => rfl)) pe_int) pe_int)) (pv 1)))))))), ?_⟩
  obtain ⟨ns, i, g, z, hb, hl, h63, hi, hg, hz0, hz1⟩ := hB
  have hlb := bag_ne hb hl
  refine seq_with (fun σ' H' => (∃ c, σ' = [some (.ref b), some (.int m), c, none, none]) ∧ BagAt H' b l ∧ But b H H') (fun R hR => ?_) ?_
  · refine ⟨_, rfl, b, _, _, _, rfl, rfl, SqL.of hb, rfl, rfl, _, rfl, ?_⟩
    refine ite2 (fun c => ?_) (fun c => ?_)
    · refine ⟨_, rfl, b, _, _, _, rfl, rfl, SqL.of hb, rfl, _, rfl, b, _, _, _, rfl, rfl, SqL.of hb, rfl, l, _, rfl, .inl (SqL.of hl), _, _, rfl, rfl, _, rfl, ?_⟩
      refine ite2 (fun c2 => ?_) (fun c2 => ?_)
      · have c3 : i < ((ns.map V.int).length : Int) := of_decide_eq_true c2
        rw [List.length_map] at c3
        have hit : i.toNat < ns.length := by omega
        have ei : i = ((i.toNat : Nat) : Int) := by omega
        have hat : atI (ns.map V.int) i = some (.int ns[i.toNat]) := by
          exact at_of ei (by rw [List.getElem?_map, List.getElem?_eq_getElem hit] <;> rfl)
        refine ⟨_, rfl, b, _, _, _, rfl, rfl, SqL.of hb, rfl, _, rfl, b, _, _, _, rfl, rfl, SqL.of hb, rfl, l, _, _, _, rfl, rfl, SqL.of hl, hat, ?_⟩
        refine ⟨_, rfl, b, _, _, _, rfl, rfl, SqL.of hb, rfl, _, _, rfl, rfl, _, rfl, b, _, _, _, rfl, rfl, hb, rfl, ?_⟩
        refine ⟨_, rfl, _, _, rfl, rfl, ⟨by decide, by decide, by decide⟩, _, _, rfl, rfl, _, rfl, ?_⟩
        refine ite2 (fun c4 => ?_) (fun c4 => ?_)
        · have c5 : ns[i.toNat] ≥ (10 : Int) ^ (18 : Int).toNat := of_decide_eq_true c4
          have c6 : (0 : Int) ≤ (10 : Int) ^ (18 : Int).toNat := by decide
          refine ⟨_, rfl, _, rfl, b, _, _, _, rfl, rfl, upd_same, rfl, hR _ _ ⟨⟨_, rfl⟩, ?_, ?_⟩⟩
          · rw [upd_upd]
            exact bag_upd (ns := ns) hlb hl h63 (by omega) (by omega) hz0 hz1
          · rw [upd_upd]
            exact But.upd
        · refine ⟨_, rfl, b, _, _, _, rfl, rfl, SqL.of upd_same, rfl, _, _, rfl, rfl, .inr ⟨by decide, by decide⟩, _, rfl, _, _, rfl, rfl, (by dsimp only; decide), _, _, rfl, rfl, .inr ⟨by decide, by decide⟩, _, _, rfl, rfl, _, _, rfl, rfl, _, _, rfl, rfl, (by dsimp only; decide), ?_⟩
          refine ⟨_, rfl, b, _, _, _, rfl, rfl, upd_same, rfl, hR _ _ ⟨⟨_, rfl⟩, ?_, ?_⟩⟩
          · rw [upd_upd]
            exact bag_upd (ns := ns) hlb hl h63 (by omega) hg (Int.emod_nonneg _ (by decide)) (Int.emod_lt_of_pos _ (by decide))
          · rw [upd_upd]
            exact But.upd
      · refine hR _ _ ⟨⟨_, rfl⟩, ⟨ns, i, g, z, hb, hl, h63, hi, hg, hz0, hz1⟩, But.refl⟩
    · refine iteF ?_
      exact hR _ _ ⟨⟨_, rfl⟩, ⟨ns, i, g, z, hb, hl, h63, hi, hg, hz0, hz1⟩, But.refl⟩
  · rintro σ' H' ⟨⟨c, rfl⟩, hB', hBut⟩
    obtain ⟨ns, i, g, z, hb, hl, h63, hi, hg, hz0, hz1⟩ := hB'
    have hlb := bag_ne hb hl
    refine ⟨_, rfl, b, _, _, _, rfl, rfl, SqL.of hb, rfl, _, _, rfl, rfl, _, rfl, ?_⟩
    refine ite2 (fun c => ?_) (fun c => ?_)
    · refine ⟨_, rfl, b, _, _, _, rfl, rfl, SqL.of hb, rfl, _, rfl, _, _, rfl, rfl, hm0, ?_⟩
      refine ⟨_, rfl, b, _, _, _, rfl, rfl, SqL.of hb, rfl, _, rfl, _, _, rfl, rfl, wide_div (b := 62) hm0 (by omega) (by decide) (by decide), ?_⟩
      refine ⟨_, rfl, b, _, _, _, rfl, rfl, hb, rfl, _, rfl, ?_⟩
      refine q _ _ ?_ (hBut.trans But.upd) (Int.emod_nonneg _ (by omega)) (Int.emod_lt_of_pos _ hm0)
      exact bag_upd (ns := ns) hlb hl h63 hi (Int.ediv_nonneg hg (by omega)) hz0 hz1
    · refine ⟨_, rfl, b, _, _, _, rfl, rfl, SqL.of hb, rfl, ?_⟩
      refine ⟨_, rfl, _, _, rfl, rfl, .inr ⟨by decide, by decide⟩, _, rfl, _, _, rfl, rfl, ⟨by decide, by decide⟩, _, _, rfl, rfl, .inr ⟨by decide, by decide⟩, _, _, rfl, rfl, _, _, rfl, rfl, _, _, rfl, rfl, (by dsimp only; decide), ?_⟩
      refine ⟨_, rfl, b, _, _, _, rfl, rfl, hb, rfl, ?_⟩
      refine ⟨_, rfl, b, _, _, _, rfl, rfl, SqL.of upd_same, rfl, _, _, rfl, rfl, ⟨by decide, by decide⟩, _, rfl, b, _, _, _, rfl, rfl, SqL.of upd_same, rfl, _, _, rfl, rfl, (by dsimp only; decide), _, _, rfl, rfl, .inr ⟨by decide, by decide⟩, _, _, rfl, rfl, _, rfl, _, _, rfl, rfl, hm0, ?_⟩
      refine q _ _ ?_ (hBut.trans But.upd) (Int.emod_nonneg _ (by omega)) (Int.emod_lt_of_pos _ hm0)
      exact bag_upd (ns := ns) hlb hl h63 hi hg (Int.emod_nonneg _ (by decide)) (Int.emod_lt_of_pos _ (by decide))
abbrev s_of : Stmt := top 13
theorem sc_of : FnScope ["_law_bag_here", "_law_things"] ["_law_bag_here", "_law_things"] (defScope s_of) := ⟨rfl, rfl, rfl, by decide +kernel, rfl, by decide +kernel, by decide +kernel⟩
theorem ok_of (B : Blt mg) (c_pull : Cal P w K mg base 1 "_law_pull" ["_law_bag_here", "_law_amount"] spPull) (F : Fun K "_law_of" "_law_of" s_of f fd) : FnOk P w K mg base CX0 2 f fd ["_law_bag_here", "_law_things"] spOf := by
  refine F.ok sc_of (fun vs H Q E h => ?_) (fun cdv A outer s H vs Q E hr h => ?_)
  · obtain ⟨b, l, p, xs, rfl, _⟩ := h
    rfl
  obtain ⟨b, l, p, xs, rfl, hB, hp, hpb, h0, h1, q⟩ := h
  refine ⟨_, (pss_one (ps_ret (pe_ix ix_list (pv 1) (pe_cal c_pull hr (pa_cons (pv 0) (pa_cons (pe_callB call_len_seq rfl B.len bt_len (pa_cons (pv 1) pa_nil)) pa_nil))) (fun _ _ => rfl)))), ?_⟩
  refine ⟨_, rfl, _, rfl, _, rfl, p, xs, rfl, .inl (SqL.of hp), b, _, _, rfl, hB, by omega, by omega, fun r H' hB' hbut r0 r1 => ?_⟩
  have hr' : r.toNat < xs.length := by omega
  have er : r = ((r.toNat : Nat) : Int) := by omega
  have hat : atI xs r = some xs[r.toNat] := by
    exact at_of er (List.getElem?_eq_getElem hr')
  exact ⟨p, xs, r, _, rfl, rfl, SqL.of (hbut _ _ hpb hp), hat, q _ _ hB' hbut (List.getElem_mem hr')⟩
end
end DM

namespace DM
open PySem L2
/-! ### what is like what -/
def scl : V → Bool
  | .non => true | .bl _ => true | .int _ => true | .str _ => true
  | _ => false
def Alike : Nat → Hp → V → V → Prop
  | 0, _, x, y => x = y ∧ scl x = true
  | n + 1, H, x, y => (x = y ∧ scl x = true) ∨
    (∃ p q xs ys, x = .ref p ∧ y = .ref q ∧ H p = some (.tup xs) ∧ H q = some (.tup ys) ∧ xs.length = ys.length ∧ xs.length ≤ 1000 ∧ ∀ (i : Nat) (x y : V), xs[i]? = some x → ys[i]? = some y → Alike n H x y) ∨
    (∃ p q xs ys, x = .ref p ∧ y = .ref q ∧ H p = some (.lst xs) ∧ H q = some (.lst ys) ∧ xs.length = ys.length ∧ xs.length ≤ 1000 ∧ ∀ (i : Nat) (x y : V), xs[i]? = some x → ys[i]? = some y → Alike n H x y)
theorem Alike.same : ∀ {n : Nat} {H H' : Hp} {x y : V}, Alike n H x y → Same H H' → Alike n H' x y
  | 0, _, _, _, _, h, _ => h
  | n + 1, _, _, _, _, h, e => by
    rcases h with h | ⟨p, q, xs, ys, a, b, c, d, l, m, r⟩ | ⟨p, q, xs, ys, a, b, c, d, l, m, r⟩
    · exact .inl h
    · exact .inr (.inl ⟨p, q, xs, ys, a, b, e _ _ c, e _ _ d, l, m, fun i x y hx hy => (r i x y hx hy).same e⟩)
    · exact .inr (.inr ⟨p, q, xs, ys, a, b, e _ _ c, e _ _ d, l, m, fun i x y hx hy => (r i x y hx hy).same e⟩)
theorem Alike.scal {n : Nat} {H : Hp} {x : V} (h : scl x = true) : Alike n H x x := by
  cases n with
  | zero => exact ⟨rfl, h⟩
  | succ n => exact .inl ⟨rfl, h⟩
theorem Alike.of_eq {n : Nat} {H : Hp} {x y : V} (e : x = y) (h : scl x = true) : Alike n H x y := by
  subst e
  exact Alike.scal h
theorem Alike.up : ∀ {n : Nat} {H : Hp} {x y : V}, Alike n H x y → Alike (n + 1) H x y
  | 0, _, _, _, h => .inl h
  | _ + 1, _, _, _, .inl h => .inl h
  | _ + 1, _, _, _, .inr (.inl ⟨p, q, xs, ys, a, b, c, d, e, f, g⟩) => .inr (.inl ⟨p, q, xs, ys, a, b, c, d, e, f, fun i x y hx hy => (g i x y hx hy).up⟩)
  | _ + 1, _, _, _, .inr (.inr ⟨p, q, xs, ys, a, b, c, d, e, f, g⟩) => .inr (.inr ⟨p, q, xs, ys, a, b, c, d, e, f, fun i x y hx hy => (g i x y hx hy).up⟩)
theorem alike_pair {n : Nat} {H : Hp} {u v : Int} : ∀ (i : Nat) (x y : V), ([.int u, .int v] : List V)[i]? = some x → ([.int u, .int v] : List V)[i]? = some y → Alike n H x y
  | 0, _, _, hx, hy => by cases hx; cases hy; exact Alike.scal rfl
  | 1, _, _, hx, hy => by cases hx; cases hy; exact Alike.scal rfl
def spLike (n : Nat) : Sp := fun vs H Q _ => ∃ x y, vs = [x, y] ∧ Alike n H x y ∧ ∀ H', Same H H' → Q (.bl true) H'
theorem if_pos' {c A B : Prop} [Decidable c] (h : c) (a : A) : if c then A else B := by
  rw [if_pos h]
  exact a
theorem lc_yes {σ : St} {H : Hp} {A B : Hp → Prop} (h : A H) : tYes σ H (fun b H3 => if b = true then A H3 else B H3) := by
  show (if true = true then A H else B H)
  rw [if_pos rfl]
  exact h
def tyn : V → String
  | .non => "NoneType" | .bl _ => "bool" | .int _ => "int" | .str _ => "str"
  | _ => ""
theorem tyn_x {K : PySem.W.Frag} {H : Hp} : ∀ {x : V}, scl x = true → TyX K H x (.type (tyn x))
  | .non, _ => .base .non
  | .bl b, _ => .base (.bl b)
  | .int i, _ => .base (.int i)
  | .str s, _ => .base (.str s)
theorem tyn_no {K : PySem.W.Frag} : ∀ {x : V}, scl x = true → PySem.W.kitOne K (.type (tyn x)) (.type "dict") = some false ∧ PySem.W.kitOne K (.type (tyn x)) (.type "tuple") = some false ∧ PySem.W.kitOne K (.type (tyn x)) (.type "list") = some false ∧ ∃ b, PySem.W.kitOne K (.type (tyn x)) (.type "bool") = some b
  | .non, _ => ⟨kit_ty (by decide +kernel : kitB "NoneType" "dict" = some false), kit_ty (by decide +kernel : kitB "NoneType" "tuple" = some false), kit_ty (by decide +kernel : kitB "NoneType" "list" = some false), _, kit_ty (by decide +kernel : kitB "NoneType" "bool" = some false)⟩
  | .bl _, _ => ⟨kit_ty (by decide +kernel : kitB "bool" "dict" = some false), kit_ty (by decide +kernel : kitB "bool" "tuple" = some false), kit_ty (by decide +kernel : kitB "bool" "list" = some false), _, kit_ty (by decide +kernel : kitB "bool" "bool" = some true)⟩
  | .int _, _ => ⟨kit_ty (by decide +kernel : kitB "int" "dict" = some false), kit_ty (by decide +kernel : kitB "int" "tuple" = some false), kit_ty (by decide +kernel : kitB "int" "list" = some false), _, kit_ty (by decide +kernel : kitB "int" "bool" = some false)⟩
  | .str _, _ => ⟨kit_ty (by decide +kernel : kitB "str" "dict" = some false), kit_ty (by decide +kernel : kitB "str" "tuple" = some false), kit_ty (by decide +kernel : kitB "str" "list" = some false), _, kit_ty (by decide +kernel : kitB "str" "bool" = some false)⟩
theorem scl_eq : ∀ {x : V}, scl x = true → L2.scal x x = true
  | .non, _ => rfl
  | .bl _, _ => rfl
  | .int _, _ => rfl
  | .str _, _ => rfl
section
variable {P : Program} {w : World} {K : PySem.W.Frag} {mg : Str → Option Value} {base : Heap} {f : Addr} {fd : FuncData}
abbrev s_like : Stmt := top 14
theorem sc_like : FnScope ["_law_found", "_law_due", "_law_k"] ["_law_found", "_law_due"] (defScope s_like) := ⟨rfl, rfl, rfl, by decide +kernel, rfl, by decide +kernel, by decide +kernel⟩
theorem like_leaf {k n : Nat} (B : Blt mg) (F : Fun K "_law_like" "_law_like" s_like f fd) (x : V) (hx : scl x = true) (cdv : Value) (A : Around) (outer : List Env) (s : Shared) (H : Hp) (Q : VK) (E : XK) (hr : Room k (A.deeper (PyProof.Rows.envOfC "_law_like" (defScope s_like) s.heap.objs.size f cdv))) (q : ∀ H', Same H H' → Q (.bl true) H') :
    ∃ t, PSs (cxOf CX0 P w K mg base ["_law_found", "_law_due", "_law_k"] "_law_like" (defScope s_like) f cdv A outer s H E).nox (defBody s_like) t ∧ t { nx := fun _ H' => Q .non H', rt := Q } (start ["_law_found", "_law_due", "_law_k"] [x, x]) H := by
  refine ⟨_, (pss_cons (ps_if (pt_val (pe_callB call_isi rfl B.isinstance bt_isinstance (pa_cons (pv 1) (pa_cons (pe_bltn (v := .ty "dict") rfl B.dict bt_dict rfl) pa_nil)))) pss_never pss_nil) (pss_cons (ps_if (PW.pt (pw_or (pt_cmpR op_ne (pe_callB call_isi rfl B.isinstance bt_isinstance (pa_cons (pv 1) (pa_cons (pe_bltn (v := .ty "tuple") rfl B.tuple bt_tuple rfl) pa_nil))) (pe_callB call_isi rfl B.isinstance bt_isinstance (pa_cons (pv 0) (pa_cons (pe_bltn (v := .ty "tuple") rfl B.tuple bt_tuple rfl) pa_nil))) (nomark _)) (pw_or1 (pt_cmpR op_ne (pe_callB call_isi rfl B.isinstance bt_isinstance (pa_cons (pv 1) (pa_cons (pe_bltn (v := .ty "list") rfl B.list bt_list rfl) pa_nil))) (pe_callB call_isi rfl B.isinstance bt_isinstance (pa_cons (pv 0) (pa_cons (pe_bltn (v := .ty "list") rfl B.list bt_list rfl) pa_nil))) (nomark _))))) pss_never pss_nil) (pss_cons (ps_if (pt_not (pt_val (pe_callB call_isiT rfl B.isinstance bt_isinstance (pa_cons (pv 1) (pa_cons (pe_tup (pa_cons (pe_bltn (v := .ty "tuple") rfl B.tuple bt_tuple rfl) (pa_cons (pe_bltn (v := .ty "list") rfl B.list bt_list rfl) pa_nil))) pa_nil))))) (pss_one (ps_ret (pe_and (pe_cmpR op_eq (pe_callB call_isi rfl B.isinstance bt_isinstance (pa_cons (pv 0) (pa_cons (pe_bltn (v := .ty "bool") rfl B.bool bt_bool rfl) pa_nil))) (pe_callB call_isi rfl B.isinstance bt_isinstance (pa_cons (pv 1) (pa_cons (pe_bltn (v := .ty "bool") rfl B.bool bt_bool rfl) pa_nil))) (nomark _)) (pe_one (pe_cmpR op_eq (pv 0) (pv 1) (nomark _)))))) pss_nil) pss_never))), ?_⟩
  have ty : ∀ H', TyX K H' x (.type (tyn x)) := fun H' => tyn_x hx
  obtain ⟨kd, kt, kl, b, kb⟩ := tyn_no (K := K) hx
  refine ⟨_, rfl, _, _, _, _, _, rfl, .ty _, ty _, kd, _, rfl, iteF ?_⟩
  refine ⟨_, rfl, _, _, _, _, _, rfl, .ty _, ty _, kt, _, rfl, _, _, _, _, _, rfl, .ty _, ty _, kt, rfl, _, rfl, iteF ?_⟩
  refine ⟨_, rfl, _, _, _, _, _, rfl, .ty _, ty _, kl, _, rfl, _, _, _, _, _, rfl, .ty _, ty _, kl, rfl, _, rfl, iteF ?_⟩
  refine ⟨_, rfl, sz (by decide : 2 ≤ 100000), fun p1 hp1 => ?_⟩
  refine ⟨_, p1, _, _, _, false, rfl, upd_same, .cons (.ty _) (.cons (.ty _) .nil), ty _, kitAny_cons kt (fun _ => kitAny_cons kl (fun _ => kitAny_nil) (fun z => nomatch z)) (fun z => nomatch z), _, rfl, iteT ?_⟩
  refine ⟨_, rfl, _, _, _, _, _, rfl, .ty _, ty _, kb, _, rfl, _, _, _, _, _, rfl, .ty _, ty _, kb, rfl, _, rfl, ?_⟩
  refine if_pos' (decide_eq_true rfl) ?_
  refine ⟨_, rfl, _, rfl, scl_eq hx, ?_⟩
  have e : decide (x = x) = true := decide_eq_true rfl
  rw [e]
  exact q _ (same_new hp1 _)
theorem ok_like0 (B : Blt mg) (F : Fun K "_law_like" "_law_like" s_like f fd) : FnOk P w K mg base CX0 1 f fd ["_law_found", "_law_due"] (spLike 0) := by
  refine F.ok sc_like (fun vs H Q E h => ?_) (fun cdv A outer s H vs Q E hr h => ?_)
  · obtain ⟨x, y, rfl, _⟩ := h
    rfl
  obtain ⟨x, y, rfl, ⟨rfl, hx⟩, q⟩ := h
  exact like_leaf (n := 0) B F x hx cdv A outer s H Q E hr q
theorem ok_likeS {n : Nat} (B : Blt mg) (F : Fun K "_law_like" "_law_like" s_like f fd) (c_like : Cal P w K mg base (n + 1) "_law_like" ["_law_found", "_law_due"] (spLike n)) : FnOk P w K mg base CX0 (n + 2) f fd ["_law_found", "_law_due"] (spLike (n + 1)) := by
  refine F.ok sc_like (fun vs H Q E h => ?_) (fun cdv A outer s H vs Q E hr h => ?_)
  · obtain ⟨x, y, rfl, _⟩ := h
    rfl
  obtain ⟨x, y, rfl, hA, q⟩ := h
  rcases hA with ⟨rfl, hx⟩ | ⟨p, q0, xs, ys, rfl, rfl, hp, hq, hlen, h1000, hall⟩ | ⟨p, q0, xs, ys, rfl, rfl, hp, hq, hlen, h1000, hall⟩
  · exact like_leaf (n := n) B F x hx cdv A outer s H Q E hr q
  ·
    refine ⟨_, (pss_cons (ps_if (pt_val (pe_callB call_isi rfl B.isinstance bt_isinstance (pa_cons (pv 1) (pa_cons (pe_bltn (v := .ty "dict") rfl B.dict bt_dict rfl) pa_nil)))) pss_never pss_nil) (pss_cons (ps_if (PW.pt (pw_or (pt_cmpR op_ne (pe_callB call_isi rfl B.isinstance bt_isinstance (pa_cons (pv 1) (pa_cons (pe_bltn (v := .ty "tuple") rfl B.tuple bt_tuple rfl) pa_nil))) (pe_callB call_isi rfl B.isinstance bt_isinstance (pa_cons (pv 0) (pa_cons (pe_bltn (v := .ty "tuple") rfl B.tuple bt_tuple rfl) pa_nil))) (nomark _)) (pw_or1 (pt_cmpR op_ne (pe_callB call_isi rfl B.isinstance bt_isinstance (pa_cons (pv 1) (pa_cons (pe_bltn (v := .ty "list") rfl B.list bt_list rfl) pa_nil))) (pe_callB call_isi rfl B.isinstance bt_isinstance (pa_cons (pv 0) (pa_cons (pe_bltn (v := .ty "list") rfl B.list bt_list rfl) pa_nil))) (nomark _))))) pss_never pss_nil) (pss_cons (ps_if (pt_not (pt_val (pe_callB call_isiT rfl B.isinstance bt_isinstance (pa_cons (pv 1) (pa_cons (pe_tup (pa_cons (pe_bltn (v := .ty "tuple") rfl B.tuple bt_tuple rfl) (pa_cons (pe_bltn (v := .ty "list") rfl B.list bt_list rfl) pa_nil))) pa_nil))))) pss_never pss_nil) (pss_one (ps_ret (pe_and (pe_cmpR op_eq (pe_callB call_len_seq rfl B.len bt_len (pa_cons (pv 0) pa_nil)) (pe_callB call_len_seq rfl B.len bt_len (pa_cons (pv 1) pa_nil)) (nomark _)) (pe_one (pe_callB (cr_all rfl) rfl B.all bt_all (pa_cons (pe_lc (own := [("_law_k", 2)]) (g := gName 2) (tt := tYes) rfl sc_like.nd (pi_range1 rfl B.range (pa_cons (pe_callB call_len_seq rfl B.len bt_len (pa_cons (pv 1) pa_nil)) pa_nil)) (blkOk_by (own := [("_law_k", 2)]) (N := ["_law_found", "_law_due", "_law_k"]) (sc := defScope s_like) (by decide +kernel)) (fun _ _ _ _ _ => pg_name (i := 2) sc_like.nd rfl (Or.inl rfl)) (fun _ _ _ _ _ => pts_nil) (fun _ _ _ _ _ => (pe_cal c_like hr (pa_cons (pe_ix (r := rIxT K) ix_tup (pv 0) (pv 2) (fun _ _ => rfl)) (pa_cons (pe_ix (r := rIxT K) ix_tup (pv 1) (pv 2) (fun _ _ => rfl)) pa_nil)) (Nat.le_refl _)))) pa_nil))))))))), ?_⟩
    refine ⟨_, rfl, _, _, _, _, _, rfl, .ty _, .base (TyOf.tup hq), kit_ty (by decide +kernel : kitB "tuple" "dict" = some false), _, rfl, iteF ?_⟩
    refine ⟨_, rfl, _, _, _, _, _, rfl, .ty _, .base (TyOf.tup hq), kit_ty (by decide +kernel : kitB "tuple" "tuple" = some true), _, rfl, _, _, _, _, _, rfl, .ty _, .base (TyOf.tup hp), kit_ty (by decide +kernel : kitB "tuple" "tuple" = some true), rfl, _, rfl, iteF ?_⟩
    refine ⟨_, rfl, _, _, _, _, _, rfl, .ty _, .base (TyOf.tup hq), kit_ty (by decide +kernel : kitB "tuple" "list" = some false), _, rfl, _, _, _, _, _, rfl, .ty _, .base (TyOf.tup hp), kit_ty (by decide +kernel : kitB "tuple" "list" = some false), rfl, _, rfl, iteF ?_⟩
    refine ⟨_, rfl, sz (by decide : 2 ≤ 100000), fun p1 hp1 => ?_⟩
    have g1 := same_new hp1 (.tup [.ty "tuple", .ty "list"])
    have hp' := g1 _ _ hp
    have hq' := g1 _ _ hq
    refine ⟨_, p1, _, _, _, true, rfl, upd_same, .cons (.ty _) (.cons (.ty _) .nil), .base (TyOf.tup hq'), kitAny_cons (kit_ty (by decide +kernel : kitB "tuple" "tuple" = some true)) (fun z => nomatch z) (fun _ => rfl), _, rfl, iteF ?_⟩
    refine ⟨_, rfl, p, xs, rfl, .inr (SqT.of hp'), _, rfl, q0, ys, rfl, .inr (SqT.of hq'), rfl, _, rfl, ?_⟩
    have el : V.int (xs.length : Int) = V.int (ys.length : Int) := by rw [hlen]
    refine if_pos' (decide_eq_true el) ?_
    refine ⟨_, rfl, q0, ys, rfl, .inr (SqT.of hq'), _, rfl, by omega, by omega, fun D hD => ?_⟩
    have en : ((ys.length : Int)).toNat = ys.length := by omega
    refine lc_range (lo := 0) (n := ((ys.length : Int)).toNat) (fun i H' => Same (upd H p1 (.tup [.ty "tuple", .ty "list"])) H' ∧ H' D = some (.lst ((List.replicate i true).map V.bl))) ?_ ?_ ?_
    · exact ⟨same_new hD _, upd_same⟩
    · rintro i H' hi ⟨sm, hd'⟩
      refine ⟨rfl, lc_yes ?_⟩
      have hi1 : i < xs.length := by omega
      have hi2 : i < ys.length := by omega
      refine ⟨_, rfl, _, rfl, p, xs, _, _, rfl, rfl, SqT.of (sm _ _ hp'), at_of (by omega) (List.getElem?_eq_getElem hi1), _, rfl, _, rfl, q0, ys, _, _, rfl, rfl, SqT.of (sm _ _ hq'), at_of (by omega) (List.getElem?_eq_getElem hi2), ?_⟩
      refine ⟨_, _, rfl, (hall i _ _ (List.getElem?_eq_getElem hi1) (List.getElem?_eq_getElem hi2)).same (g1.trans sm), fun H2 s2 => ?_⟩
      refine ⟨_, s2 _ _ hd', ?_, ?_, ?_⟩
      · rw [List.length_map, List.length_replicate]
        exact Nat.lt_of_lt_of_le (by omega : i < 100000) (sz (Nat.le_refl _))
      · exact fun a o e => by rw [upd_ne (ne_of_none e hD)]; exact s2 _ _ (sm _ _ e)
      · rw [upd_same, List.replicate_succ', List.map_append]
        rfl
    · rintro H' ⟨sm, hd'⟩
      refine ⟨D, _, rfl, SqL.of hd', ?_⟩
      have ea : (List.replicate ((ys.length : Int)).toNat true).all id = true := by simp
      rw [ea]
      exact q _ (g1.trans sm)
  ·
    refine ⟨_, (pss_cons (ps_if (pt_val (pe_callB call_isi rfl B.isinstance bt_isinstance (pa_cons (pv 1) (pa_cons (pe_bltn (v := .ty "dict") rfl B.dict bt_dict rfl) pa_nil)))) pss_never pss_nil) (pss_cons (ps_if (PW.pt (pw_or (pt_cmpR op_ne (pe_callB call_isi rfl B.isinstance bt_isinstance (pa_cons (pv 1) (pa_cons (pe_bltn (v := .ty "tuple") rfl B.tuple bt_tuple rfl) pa_nil))) (pe_callB call_isi rfl B.isinstance bt_isinstance (pa_cons (pv 0) (pa_cons (pe_bltn (v := .ty "tuple") rfl B.tuple bt_tuple rfl) pa_nil))) (nomark _)) (pw_or1 (pt_cmpR op_ne (pe_callB call_isi rfl B.isinstance bt_isinstance (pa_cons (pv 1) (pa_cons (pe_bltn (v := .ty "list") rfl B.list bt_list rfl) pa_nil))) (pe_callB call_isi rfl B.isinstance bt_isinstance (pa_cons (pv 0) (pa_cons (pe_bltn (v := .ty "list") rfl B.list bt_list rfl) pa_nil))) (nomark _))))) pss_never pss_nil) (pss_cons (ps_if (pt_not (pt_val (pe_callB call_isiT rfl B.isinstance bt_isinstance (pa_cons (pv 1) (pa_cons (pe_tup (pa_cons (pe_bltn (v := .ty "tuple") rfl B.tuple bt_tuple rfl) (pa_cons (pe_bltn (v := .ty "list") rfl B.list bt_list rfl) pa_nil))) pa_nil))))) pss_never pss_nil) (pss_one (ps_ret (pe_and (pe_cmpR op_eq (pe_callB call_len_seq rfl B.len bt_len (pa_cons (pv 0) pa_nil)) (pe_callB call_len_seq rfl B.len bt_len (pa_cons (pv 1) pa_nil)) (nomark _)) (pe_one (pe_callB (cr_all rfl) rfl B.all bt_all (pa_cons (pe_lc (own := [("_law_k", 2)]) (g := gName 2) (tt := tYes) rfl sc_like.nd (pi_range1 rfl B.range (pa_cons (pe_callB call_len_seq rfl B.len bt_len (pa_cons (pv 1) pa_nil)) pa_nil)) (blkOk_by (own := [("_law_k", 2)]) (N := ["_law_found", "_law_due", "_law_k"]) (sc := defScope s_like) (by decide +kernel)) (fun _ _ _ _ _ => pg_name (i := 2) sc_like.nd rfl (Or.inl rfl)) (fun _ _ _ _ _ => pts_nil) (fun _ _ _ _ _ => (pe_cal c_like hr (pa_cons (pe_ix (r := rIxL K) ix_list (pv 0) (pv 2) (fun _ _ => rfl)) (pa_cons (pe_ix (r := rIxL K) ix_list (pv 1) (pv 2) (fun _ _ => rfl)) pa_nil)) (Nat.le_refl _)))) pa_nil))))))))), ?_⟩
    refine ⟨_, rfl, _, _, _, _, _, rfl, .ty _, .base (TyOf.lst hq), kit_ty (by decide +kernel : kitB "list" "dict" = some false), _, rfl, iteF ?_⟩
    refine ⟨_, rfl, _, _, _, _, _, rfl, .ty _, .base (TyOf.lst hq), kit_ty (by decide +kernel : kitB "list" "tuple" = some false), _, rfl, _, _, _, _, _, rfl, .ty _, .base (TyOf.lst hp), kit_ty (by decide +kernel : kitB "list" "tuple" = some false), rfl, _, rfl, iteF ?_⟩
    refine ⟨_, rfl, _, _, _, _, _, rfl, .ty _, .base (TyOf.lst hq), kit_ty (by decide +kernel : kitB "list" "list" = some true), _, rfl, _, _, _, _, _, rfl, .ty _, .base (TyOf.lst hp), kit_ty (by decide +kernel : kitB "list" "list" = some true), rfl, _, rfl, iteF ?_⟩
    refine ⟨_, rfl, sz (by decide : 2 ≤ 100000), fun p1 hp1 => ?_⟩
    have g1 := same_new hp1 (.tup [.ty "tuple", .ty "list"])
    have hp' := g1 _ _ hp
    have hq' := g1 _ _ hq
    refine ⟨_, p1, _, _, _, true, rfl, upd_same, .cons (.ty _) (.cons (.ty _) .nil), .base (TyOf.lst hq'), kitAny_cons (kit_ty (by decide +kernel : kitB "list" "tuple" = some false)) (fun _ => kitAny_cons (kit_ty (by decide +kernel : kitB "list" "list" = some true)) (fun z => nomatch z) (fun _ => rfl)) (fun z => nomatch z), _, rfl, iteF ?_⟩
    refine ⟨_, rfl, p, xs, rfl, .inl (SqL.of hp'), _, rfl, q0, ys, rfl, .inl (SqL.of hq'), rfl, _, rfl, ?_⟩
    have el : V.int (xs.length : Int) = V.int (ys.length : Int) := by rw [hlen]
    refine if_pos' (decide_eq_true el) ?_
    refine ⟨_, rfl, q0, ys, rfl, .inl (SqL.of hq'), _, rfl, by omega, by omega, fun D hD => ?_⟩
    have en : ((ys.length : Int)).toNat = ys.length := by omega
    refine lc_range (lo := 0) (n := ((ys.length : Int)).toNat) (fun i H' => Same (upd H p1 (.tup [.ty "tuple", .ty "list"])) H' ∧ H' D = some (.lst ((List.replicate i true).map V.bl))) ?_ ?_ ?_
    · exact ⟨same_new hD _, upd_same⟩
    · rintro i H' hi ⟨sm, hd'⟩
      refine ⟨rfl, lc_yes ?_⟩
      have hi1 : i < xs.length := by omega
      have hi2 : i < ys.length := by omega
      refine ⟨_, rfl, _, rfl, p, xs, _, _, rfl, rfl, SqL.of (sm _ _ hp'), at_of (by omega) (List.getElem?_eq_getElem hi1), _, rfl, _, rfl, q0, ys, _, _, rfl, rfl, SqL.of (sm _ _ hq'), at_of (by omega) (List.getElem?_eq_getElem hi2), ?_⟩
      refine ⟨_, _, rfl, (hall i _ _ (List.getElem?_eq_getElem hi1) (List.getElem?_eq_getElem hi2)).same (g1.trans sm), fun H2 s2 => ?_⟩
      refine ⟨_, s2 _ _ hd', ?_, ?_, ?_⟩
      · rw [List.length_map, List.length_replicate]
        exact Nat.lt_of_lt_of_le (by omega : i < 100000) (sz (Nat.le_refl _))
      · exact fun a o e => by rw [upd_ne (ne_of_none e hD)]; exact s2 _ _ (sm _ _ e)
      · rw [upd_same, List.replicate_succ', List.map_append]
        rfl
    · rintro H' ⟨sm, hd'⟩
      refine ⟨D, _, rfl, SqL.of hd', ?_⟩
      have ea : (List.replicate ((ys.length : Int)).toNat true).all id = true := by simp
      rw [ea]
      exact q _ (g1.trans sm)

theorem ok_like (B : Blt mg) (F : Fun K "_law_like" "_law_like" s_like f fd) (b : Binds K fd ["_law_found", "_law_due"] []) (m : mg "_law_like" = some (.ref f)) : ∀ n : Nat, FnOk P w K mg base CX0 (n + 1) f fd ["_law_found", "_law_due"] (spLike n)
  | 0 => ok_like0 B F
  | n + 1 => ok_likeS B F ⟨f, fd, ok_like B F b m n, b, F.kp, m⟩
end
end DM

namespace DM
open PySem L2
section
variable {X : Cx}
/-! ### C.m(e, ..), m a plain def of the class at C -/
theorem pe_clsfn {CX : CXT} {k k' : Nat} {x m : Str} {C g : Addr} {mc : Value} {fd : FuncData} {ps : List Str} {sp : Sp} {ds : List Value} {dvs : List V} {E : XK} {e : Expr} {es : List Expr} {t : TA} {np apos pos : Pos} {pl : Sem Bool}
    (r : ClX.CRead X.K C mc) (fc : PySem.W.findCls X.K (.ref C) mc m = some (.val (.ref g))) (hm : X.mg x = some (.ref C)) (F : FnOk X.prog X.w X.K X.mg X.base CX k g fd ps sp) (hr : Room k' X.A) (kg : PySem.W.keepIn X.K (.ref g) = true) (hb : Binds X.K fd ps ds) (hd : Vals dvs ds) (hx : Passes CX X E) (ha : PA X (e :: es) t)
    (hkk : k ≤ k' := by decide) (hg : Gl X x := by rfl) (hdb : (x == ("__debug__" : Str)) = false := by decide) (hst : starEach (e :: es) X.env = (false, eval e X.env) :: starEach es X.env := by rfl) (hno : (backTo pos (starEach es X.env)).any (·.1) = false := by rfl)
    (hev : eval (.Call (.Attribute (.Name x np) m apos) (e :: es) [] pos) X.env = (do let c0 ← eval (.Name x np) X.env; standAt apos.atName; let (f0, at0) ← holding [c0] (getMethod c0 m pl); callWith pos f0 at0 (backTo pos (starEach (e :: es) X.env)) (backToKw pos (keywordEach [] X.env))) := by rfl) :
    PE X (.Call (.Attribute (.Name x np) m apos) (e :: es) [] pos) (tCall sp dvs E t) := by
  refine ⟨fun pins s0 σ0 H0 Q0 I0 want => PySem.W.methodCall_KW (pl := pl) (ld_glob I0 hg hm ?_ hdb) hev⟩
  refine PySem.W.method_cls I0.kIn r.ga (PySem.W.cls_value I0.kIn r.rd fc rfl ?_)
  refine PySem.W.callWith_K (first := []) (h₀ := X.base) I0.ok.mod.kin kg (thn (ha.run pos pins _ σ0 H0 _ (I0.tok _) want) fun us s2 got => ?_) hst hno
  obtain ⟨vs, H2, I2, rv, next⟩ := got
  exact ⟨I2.kIn, run_fn F (hr.mono hkk) hb hd hx I2 rv next⟩
/-! ### C(), C an own error class whose __init__ takes nothing else -/
theorem pmk_oex0 {CX : CXT} {x : Str} {C fI : Addr} {k k' : Nat} {fd : FuncData} {ps : List Str} {sp : Sp} {p pos : Pos} (T : OexC X.K C) (iC : PySem.W.findIn X.K (.ref C) "__init__" = some (some (.ref fI))) (tI : PySem.W.typeIn X.K (.ref fI) = some (.type "function"))
    (Fi : FnOk X.prog X.w X.K X.mg X.base CX k fI fd ps sp) (hr : Room k' X.A) (hb : Binds X.K fd ps []) (hx : Passes CX X E0) (hm : X.mg x = some (.ref C)) (hkk : k + 1 ≤ k' := by decide) (hg : Gl X x := by rfl) (hdb : (x == ("__debug__" : Str)) = false := by decide) :
    PMk X (.Call (.Name x p) [] [] pos) (tMkO C sp [] tNil) := by
  intro pins s0 σ0 H0 Q0 I0 want
  obtain ⟨hz, want⟩ := want
  have T' := T
  obtain ⟨nm, q0, N0, bs, bm, sn, sb, ab, co, dd, j0, j1, j2, j3, j5, lookC, okm⟩ := T'.cls
  refine wpAny_Call_Name_kw (ld_glob I0 hg hm ?_ hdb)
  refine PySem.W.callWith_K0 (first := []) I0.kIn T.kC ?_
  show wpAny _ _ (call (.ref C) []) _ _ _
  obtain ⟨hp, gn, dr, tk, os⟩ := s0
  -- the empty tuple of its arguments, then the error itself
  let h1 : Heap := (hp.push (PySem.W.kdv_tup [])).push (PySem.HandSPX.excO C hp.objs.size)
  let at1 : Addr := hp.objs.size + 1
  have big : hp.objs.size ≤ at1 := Nat.le_succ _
  have new1 : H0 at1 = none := I0.hok.fresh big
  have stay : ∀ b o, hp.get? b = some o → h1.get? b = some o := fun b o z => Heap.get?_push_of_some _ (Heap.get?_push_of_some _ z)
  have here : h1.get? at1 = some (PySem.HandSPX.excO C hp.objs.size) := by
    show ((hp.push (PySem.W.kdv_tup [])).push (PySem.HandSPX.excO C hp.objs.size)).get? (hp.objs.size + 1) = _
    heap_get
  have I1 : Inv X pins σ0 (upd H0 at1 (exo at1 C none)) ⟨h1, gn, dr, tk, os⟩ := I0.laid (t' := tk) (a := at1) (o := exo at1 C none) (h' := h1) stay big (exo_ok here)
  have args : Vals [V.ref at1] [Value.ref at1] := .cons rfl .nil
  have want1 := want at1 new1
  have many : ([Value.ref at1] ++ ([] : List Value)).length = ps.length := by
    have z : ([V.ref at1] : List V).length = ps.length := Fi.len _ _ _ _ want1
    exact z
  have bound := hb ⟨h1, gn, dr, tk, os⟩ [Value.ref at1] I1.kIn many
  rw [List.append_nil] at bound
  refine wpAny_call (PySem.HandSPX.call_own F.excBase_ValueError (fun Y => PySem.HandSPX.refsVE_contains Y bm okm) (I0.kIn _ _ lookC) (PySem.W.looks_findIn I0.kIn iC) (fun self => PySem.W.bind_fn I0.kIn self tI) (by show 0 ≤ sizeLine; decide) ?_)
  refine codeAny_mono (Fi.run _ X.stack _ _ ⟨[Value.ref at1], []⟩ [Value.ref at1] _ _ E0 ((hr.mono hkk).make C [] []) (I1.env0.make C [] []) bound args want1) fun res s2 got => ?_
  cases res with
  | error er => exact hx pins σ0 _ _ er s2 I1 got
  | ok fl =>
    cases fl with
    | ret u =>
      obtain ⟨v, H2, os2, bare2, un2, hok2, rv, ev, d, fs, ea, ed, nd, last⟩ := got
      subst ev
      obtain ⟨hp2, gn2, dr2, tk2, os3⟩ := s2
      exact ⟨rv, mk_end (raises_own T.exC T.tyC) I0 big stay un2 hok2 os2 bare2 ea ed nd last⟩
    | next => exact False.elim got
    | brk => exact False.elim got
    | cont => exact False.elim got
/-! ### isinstance(e, c), e the caught error with its dict -/
structure IsEC (K : PySem.W.Frag) (D : Addr) : Prop where
  cl : (PySem.W.clsIn K D).isSome = true
  ga : PySem.W.findIn K (.ref D) "__getattribute__" = some (some (.builtin "BaseException.__getattribute__"))
  gg : PySem.W.findIn K (.ref D) "__getattr__" = some none
  su : PySem.W.subIn K (.ref D) (.type "BaseException") = some true
  cs : PySem.W.findIn K (.ref D) "__class__" = some (some (.builtin "object.__class__"))
  sp : PySem.W.specialIn K (.builtin "object.__class__") "__get__" = some (some (.builtin "getset_descriptor.__get__"))
  tk : PySem.W.takesIn K (.builtin "object.__class__") = some true
  mr : PySem.W.mroIn K D (.type "object") = some true
def rIsED (K : PySem.W.Frag) (a : Addr) (cls : Value) (d : Option Addr) (D : Addr) : List V → Hp → VK → Prop := fun xs H Q => ∃ (c : V) (cv : Value) (b : Bool) (dd : Addr) (fs : List (Str × V)), cls = .ref D ∧ d = some dd ∧ H dd = some (.xd fs) ∧ xs = [.ref a, c] ∧ ClsV c cv ∧ PySem.W.kitOne K (.ref D) cv = some b ∧ Q (.bl b) H
theorem call_isED {a D : Addr} {oe : Obj} {cls : Value} {d : Option Addr} {pn : List (Addr × Obj)} (T : IsEC X.K D) (hz : Zc cls d oe) (hf : ∃ vs, oe.data = .fields vs) : CallR (X.suite a ((a, oe) :: pn)) (.builtin "isinstance") (rIsED X.K a cls d D) := by
  intro pins s0 σ0 H0 xs us Q0 I0 rel want
  obtain ⟨c, cv, b, dd, fs, rfl, rfl, hdd, rfl, kc, kit, last⟩ := want
  obtain ⟨u1, u2, rfl, r1, r2⟩ := vals2 rel
  cases (show u1 = Value.ref a from r1)
  cases kc.eq r2
  have pinned := (I0.pin (a, oe) (List.mem_append_left _ List.mem_cons_self)).1
  obtain ⟨vs, dat⟩ := hf
  obtain ⟨mA, hns, _⟩ := (show ObjOk X.prog X.w H0 s0.heap dd (.xd fs) from I0.hok dd _ hdd)
  obtain ⟨od, hod, _⟩ := lookIn_ns hns
  have J : PySem.W.InstAt s0.heap a oe D (some od) := ⟨pinned, hz.1, by unfold PySem.W.notCls; rw [dat], by rw [hz.2]; exact hod⟩
  exact PySem.W.kia_one (PySem.W.kitx_exc T.cl T.ga T.gg T.su T.cs T.sp T.tk T.mr) I0.kIn J kit (fun z => nomatch z) fun tk => ⟨.bl b, H0, I0.tok tk, rfl, last⟩
end
theorem kit_own {K : PySem.W.Frag} {t : Value} {C : Addr} {b : Bool} (hc : PySem.W.isClsIn K C = true) (ht : PySem.W.typeIn K (.ref C) = some (.type "type")) (hs : PySem.W.subIn K t (.ref C) = some b) : PySem.W.kitCls K t (.ref C) = some b := by
  have z : ((PySem.W.clsIn K C).isSome && PySem.W.typeIn K (.ref C) == some (.type "type")) = true := by
    rw [show (PySem.W.clsIn K C).isSome = true from hc, ht]; rfl
  exact (if_pos z).trans hs
theorem kit_blt {K : PySem.W.Frag} {t : Value} {T : String} {b : Bool} (hm : PySem.W.kitMeta T = true) (hs : PySem.W.subIn K t (.type T) = some b) : PySem.W.kitCls K t (.type T) = some b := (if_pos hm).trans hs
end DM

namespace DM
open PySem PySem.Spec PyProof.Rows L2
section
variable {X : Cx}
theorem ints_shown {prog : Program} {w : World} : ∀ {l : List Int} {its : List Value}, Vals (l.map V.int) its → (∀ i ∈ l, i.natAbs.log2 < 1920) → ReprAll prog w its (l.map fun i => (Str.ofString (toString i)))
  | [], _, r, _ => by
    cases r
    exact .nil
  | i :: l, _, r, h => by
    cases r with
    | cons r1 r2 =>
      obtain ⟨t, rfl⟩ := r1
      exact .cons (ReprIs.int t (h i List.mem_cons_self)) (ints_shown r2 fun z hz => h z (List.mem_cons_of_mem _ hz))
theorem ints_piled : ∀ l : List Int, (∀ i ∈ l, i.natAbs.log2 < 1920) → piled (l.map fun i => (Str.ofString (toString i))) ≤ 1923 * l.length
  | [], _ => Nat.zero_le _
  | i :: l, h => by
    have h1 := int_text_length_le (a := i) (k := 1920) (by decide) (h i List.mem_cons_self)
    have h2 := ints_piled l fun z hz => h z (List.mem_cons_of_mem _ hz)
    rw [List.map_cons, piled_cons, PySem.ofString_length, List.length_cons]
    omega
/-- {t}, t a tuple of numbers: some text -/
def tFmtI (K : PySem.W.Frag) (te : TE) : TE := fun σ H Q => te σ H fun x H1 => ∃ (a : Addr) (l : List Int), x = .ref a ∧ SqT K H1 a (l.map V.int) ∧ (∀ i ∈ l, i.natAbs.log2 < 1920) ∧ l.length ≤ 100 ∧ ∀ m : Str, m.length ≤ 200000 → Q (.str m) H1
theorem pe_fmtI {e : Expr} {te : TE} {pos : Pos} {k : Nat} (hr : Room k X.A) (he : PE X e te) : PE X (.FormattedValue e (-1) none pos) (tFmtI X.K te) := by
  refine ⟨fun pz sz tz Jz Qz Iz want => wpAny_FormattedValue_plain (thn (he.run pz sz tz Jz _ Iz want) fun u s2 got => ?_)⟩
  obtain ⟨x, J2, I2, rx, a, l, rfl, isT, small, h100, last⟩ := got
  cases rx
  obtain ⟨its, rv, ⟨ob, at1, cl1, n, dat1⟩, _⟩ := I2.tuple isT
  have hp := ints_piled l small
  have htx := fmt_text (l.map fun i => (Str.ofString (toString i)))
  have hu := hr.units
  have hz : (200000 : Nat) ≤ sizeLine := by decide
  exact fmt_tuple (ts := l.map fun i => (Str.ofString (toString i))) (by omega) at1 cl1 dat1 (ints_shown rv small) (by omega) fun m u tk hm => ⟨.str m, J2, I2.tok _, ⟨u, rfl⟩, last m (by omega)⟩
end
/-! ### errors with one field -/
structure ErrF (K : PySem.W.Frag) (mg : Str → Option Value) (nm fld : Str) (C D fB fD : Addr) : Prop where
  gC : mg nm = some (.ref C)
  gD : mg "DotError" = some (.ref D)
  oex : OexC K C
  iC : PySem.W.findIn K (.ref C) "__init__" = some (some (.ref fB))
  tI : PySem.W.typeIn K (.ref fB) = some (.type "function")
  rd : ClX.CRead K D (.type "type")
  fc : PySem.W.findCls K (.ref D) (.type "type") "__init__" = some (.val (.ref fD))
  vV : PySem.W.findCls K (.type "ValueError") (.type "type") "__init__" = some (.val (.builtin "ValueError.__init__"))
  noW : PySem.W.findIn K (.ref C) "word" = some none
  noF : PySem.W.findIn K (.ref C) fld = some none
  xf : XfC K C
  nV : mg "ValueError" = none
def spDeF (C : Addr) : Sp := fun vs H Q _ => ∃ (a : Addr) (w m : Str), vs = [.ref a, .str w, .str m] ∧ H a = some (exo a C none) ∧ ∀ dx, H dx = none → dx ≠ a → Q .non (upd (upd H dx (exd dx [("word", .str w)])) a (exo a C (some dx)))
/-- __init__(self, x): the dict holds the word and x -/
def spIn (C : Addr) (nm fld : Str) : Sp := fun vs H Q _ => ∃ (a p : Addr) (l : List Int), vs = [.ref a, .ref p] ∧ H a = some (exo a C none) ∧ H p = some (.tup (l.map V.int)) ∧ (∀ i ∈ l, i.natAbs.log2 < 1920) ∧ l.length ≤ 100 ∧ ∀ dx, H dx = none → dx ≠ a → Q .non (upd (upd (upd H dx (exd dx [("word", .str nm)])) a (exo a C (some dx))) dx (exd dx [(fld, .ref p), ("word", .str nm)]))
end DM

namespace DM
open PySem L2
/-! ### least and greatest of a tuple of numbers -/
section
variable {X : Cx}
def rMinT (K : PySem.W.Frag) : List V → Hp → VK → Prop := fun vs H Q => ∃ (a : Addr) (n : Int) (ns : List Int), vs = [.ref a] ∧ SqT K H a ((n :: ns).map V.int) ∧ Q (.int (PySem.W.minOf n ns)) H
def rMaxT (K : PySem.W.Frag) : List V → Hp → VK → Prop := fun vs H Q => ∃ (a : Addr) (n : Int) (ns : List Int), vs = [.ref a] ∧ SqT K H a ((n :: ns).map V.int) ∧ Q (.int (PySem.W.maxOf n ns)) H
theorem cr_minT (hc : X.calm = true) (hu : X.A.units + 1 < cLine) : CallR X (.builtin "min") (rMinT X.K) := by
  intro pins s σ H vs us Q I r h
  obtain ⟨a, n, ns, rfl, hs, q⟩ := h
  obtain ⟨its, rv, ht, _⟩ := I.tuple hs
  rw [Vals.ref1 r]
  refine PySem.W.min_tuple_datum (α := Int) (x := n) (xs := ns) (I.ok.hd hc) (show s.heap.IsTuple a its.toArray from ht) (PySem.W.HoldAll.of_ints (Vals.ints (ns := n :: ns) rv)) hu fun i v h' tk hv hh hk => ?_
  obtain ⟨as, rr⟩ := hh
  obtain ⟨t, rfl, _⟩ := PyProof.Rows.reads_int_inv rr
  exact ⟨.int _, H, I.kept hk, ⟨t, rfl⟩, q⟩
theorem cr_maxT (hc : X.calm = true) (hu : X.A.units + 1 < cLine) : CallR X (.builtin "max") (rMaxT X.K) := by
  intro pins s σ H vs us Q I r h
  obtain ⟨a, n, ns, rfl, hs, q⟩ := h
  obtain ⟨its, rv, ht, _⟩ := I.tuple hs
  rw [Vals.ref1 r]
  refine PySem.W.max_tuple_datum (α := Int) (x := n) (xs := ns) (I.ok.hd hc) (show s.heap.IsTuple a its.toArray from ht) (PySem.W.HoldAll.of_ints (Vals.ints (ns := n :: ns) rv)) hu fun i v h' tk hv hh hk => ?_
  obtain ⟨as, rr⟩ := hh
  obtain ⟨t, rfl, _⟩ := PyProof.Rows.reads_int_inv rr
  exact ⟨.int _, H, I.kept hk, ⟨t, rfl⟩, q⟩
end
theorem min_pair (i j : Int) : PySem.W.minOf i [j] = if j < i then j else i := by
  show (if decide (j < i) = true then j else i) = _
  by_cases h : j < i
  · rw [if_pos (decide_eq_true h), if_pos h]
  · rw [if_neg (by simpa using h), if_neg h]
theorem max_pair (i j : Int) : PySem.W.maxOf i [j] = if i < j then j else i := by
  show (if decide (i < j) = true then j else i) = _
  by_cases h : i < j
  · rw [if_pos (decide_eq_true h), if_pos h]
  · rw [if_neg (by simpa using h), if_neg h]
end DM

namespace DM
open PySem L2
/-! ### promises -/
def inside (i j : Int) : Bool := decide (-40 ≤ i ∧ i ≤ 40 ∧ -40 ≤ j ∧ j ≤ 40)
def spIs (K : PySem.W.Frag) : Sp := fun vs H Q _ => ∃ (p : Addr) (i j : Int), vs = [.ref p] ∧ SqT K H p [.int i, .int j] ∧ Q (.bl (inside i j)) H
section
variable {P : Program} {w : World} {K : PySem.W.Frag} {mg : Str → Option Value} {base : Heap} {f : Addr} {fd : FuncData}
abbrev s_is_spot : Stmt := top 6
theorem sc_is_spot : FnScope ["spot", "x", "y"] ["spot"] (defScope s_is_spot) := ⟨rfl, rfl, rfl, by decide +kernel, rfl, by decide +kernel, by decide +kernel⟩
theorem ok_is_spot (B : Blt mg) {tk : Tok} (c_FAR : mg "FAR" = some (.int 40 tk)) (F : Fun K "is_spot" "is_spot" s_is_spot f fd) : FnOk P w K mg base CX0 1 f fd ["spot"] (spIs K) := by
  refine F.ok sc_is_spot (fun vs H Q E h => ?_) (fun cdv A outer s H vs Q E hr h => ?_)
  · obtain ⟨p, i, j, rfl, _⟩ := h
    rfl
  obtain ⟨p, i, j, rfl, hp, q⟩ := h
  refine ⟨_, (pss_cons (ps_asg (pv 0) (pg_tup rfl (pgs_cons (pg_name (i := 1) sc_is_spot.nd rfl (Or.inl rfl)) (pgs_cons (pg_name (i := 2) sc_is_spot.nd rfl (Or.inl rfl)) pgs_nil))))
    (pss_one (ps_ret (pe_and (pe_cmpR op_le (pe_callB call_abs rfl B.abs bt_abs (pa_cons (pv 1) pa_nil)) (pe_glob (v := .int 40) rfl c_FAR ⟨_, rfl⟩) (nomark _)) (pe_one (pe_cmpR op_le (pe_callB call_abs rfl B.abs bt_abs (pa_cons (pv 2) pa_nil)) (pe_glob (v := .int 40) rfl c_FAR ⟨_, rfl⟩) (nomark _))))))), ?_⟩
  refine ⟨_, rfl, p, _, rfl, hp, rfl, _, _, rfl, _, _, rfl, rfl, ?_⟩
  refine ⟨_, rfl, i, rfl, _, _, rfl, rfl, _, rfl, ?_⟩
  have key : inside i j = (decide ((if i < 0 then -i else i) ≤ 40) && decide ((if j < 0 then -j else j) ≤ 40)) := by
    unfold inside
    rw [← Bool.decide_and]
    apply decide_eq_decide.mpr
    constructor
    · intro h
      constructor <;> split <;> omega
    · intro ⟨h1, h2⟩
      split at h1 <;> split at h2 <;> omega
  rw [key] at q
  by_cases c : (if i < 0 then -i else i) ≤ 40
  · refine if_pos' (decide_eq_true c) ?_
    refine ⟨_, rfl, j, rfl, _, _, rfl, rfl, ?_⟩
    rw [decide_eq_true c, Bool.true_and] at q
    exact q
  · rw [if_neg (by simpa using c)]
    rw [decide_eq_false c, Bool.false_and] at q
    exact q
end
end DM

namespace DM
open PySem L2
abbrev s_de : Stmt := inClass (top 1) 0
abbrev s_bs : Stmt := inClass (top 2) 0
abbrev s_bt : Stmt := inClass (top 3) 0
theorem sc_de : FnScope ["self", "word", "message"] ["self", "word", "message"] (defScope s_de) := ⟨rfl, rfl, rfl, by decide +kernel, rfl, by decide +kernel, by decide +kernel⟩
theorem sc_bs : FnScope ["self", "spot"] ["self", "spot"] (defScope s_bs) := ⟨rfl, rfl, rfl, by decide +kernel, rfl, by decide +kernel, by decide +kernel⟩
theorem sc_bt : FnScope ["self", "stroke"] ["self", "stroke"] (defScope s_bt) := ⟨rfl, rfl, rfl, by decide +kernel, rfl, by decide +kernel, by decide +kernel⟩
theorem bt_ValueError : bootBuiltins "ValueError" = some (.type "ValueError") := by decide +kernel
section
variable {P : Program} {w : World} {K : PySem.W.Frag} {mg : Str → Option Value} {base : Heap} {f : Addr} {fd : FuncData} {C D fB fD : Addr} {nm fld : Str}
theorem ok_de (T : ErrF K mg nm fld C D fB fD) {dvs : List V} {kws : List (Str × V)} (F : FunD K "__init__" "DotError.__init__" (defArgs s_de) (defBody s_de) (defScope s_de) dvs kws f fd) : FnOk P w K mg base CX0 1 f fd ["self", "word", "message"] (spDeF C) := by
  refine F.ok sc_de (fun vs H Q E h => ?_) (fun cdv A outer s H vs Q E hr h => ?_)
  · obtain ⟨a, w, m, rfl, _⟩ := h
    rfl
  obtain ⟨a, w', m, rfl, ha, q⟩ := h
  suffices z : ∃ t, PSs (cxOf CX0 P w K mg base ["self", "word", "message"] "DotError.__init__" (defScope s_de) f cdv A outer s H E).nox (defBody s_de) t ∧ t { nx := fun _ H' => Q .non H', rt := Q } (start ["self", "word", "message"] [.ref a, .str w', .str m]) H by
    obtain ⟨t, z1, z2⟩ := z
    exact ⟨t, z1.nox, z2⟩
  refine ⟨_, pss_cons (ps_expr (pe_veinit rfl T.nV T.vV (pa_cons (pv 0) (pa_cons (pv 2) pa_nil)))) (pss_one (ps_ost (pv 0) (pv 1))), ?_⟩
  refine ⟨_, rfl, _, rfl, a, C, _, rfl, by show 1 ≤ 1000; decide, T.oex, ha, ?_⟩
  exact ⟨_, rfl, _, rfl, a, C, rfl, T.oex, T.noW, .inl ⟨ha, q⟩⟩
theorem ok_bs (T : ErrF K mg "BadSpot" "spot" C D fB fD) (F : Fun K "__init__" "BadSpot.__init__" s_bs f fd) {gd : FuncData} (GD : FnOk P w K mg base CX0 1 fD gd ["self", "word", "message"] (spDeF C)) (kD : PySem.W.keepIn K (.ref fD) = true) (bD : Binds K gd ["self", "word", "message"] []) : FnOk P w K mg base CX0 2 f fd ["self", "spot"] (spIn C "BadSpot" "spot") := by
  refine F.ok sc_bs (fun vs H Q E h => ?_) (fun cdv A outer s H vs Q E hr h => ?_)
  · obtain ⟨a, p, l, rfl, _⟩ := h
    rfl
  obtain ⟨a, p, l, rfl, ha, hp, hl, h100, q⟩ := h
  refine ⟨_, pss_cons (ps_expr (pe_clsfn T.rd T.fc T.gD GD hr kD bD .nil pass0 (pa_cons (pv 0) (pa_cons pe_str (pa_cons (pe_joined (.cons (pe_fmtI hr (pv 1)) (.cons pe_str .nil))) pa_nil))))) (pss_one (ps_ost (pv 0) (pv 1))), ?_⟩
  refine ⟨_, rfl, _, rfl, p, l, rfl, SqT.of hp, hl, h100, fun m hm => ?_⟩
  have e0 : (Str.empty ++ m).length ≤ 200000 := by rw [strLen_append]; exact Nat.le_trans (Nat.le_of_eq (Nat.zero_add _)) hm
  refine ⟨m, rfl, Nat.le_trans e0 (by decide), _, rfl, ?_, ?_⟩
  · rw [strLen_append]
    exact Nat.le_trans (Nat.add_le_add_right e0 _) (by decide +kernel)
  refine ⟨a, _, _, rfl, ha, fun dx nd hda => ?_⟩
  refine ⟨_, rfl, _, rfl, a, C, rfl, T.oex, T.noF, .inr ⟨dx, _, upd_same, ?_, by show 1 ≤ 900; decide, q dx nd hda⟩⟩
  rw [upd_ne hda]
  exact upd_same
theorem ok_bt (T : ErrF K mg "BadStroke" "stroke" C D fB fD) (F : Fun K "__init__" "BadStroke.__init__" s_bt f fd) {gd : FuncData} (GD : FnOk P w K mg base CX0 1 fD gd ["self", "word", "message"] (spDeF C)) (kD : PySem.W.keepIn K (.ref fD) = true) (bD : Binds K gd ["self", "word", "message"] []) : FnOk P w K mg base CX0 2 f fd ["self", "stroke"] (spIn C "BadStroke" "stroke") := by
  refine F.ok sc_bt (fun vs H Q E h => ?_) (fun cdv A outer s H vs Q E hr h => ?_)
  · obtain ⟨a, p, l, rfl, _⟩ := h
    rfl
  obtain ⟨a, p, l, rfl, ha, hp, hl, h100, q⟩ := h
  refine ⟨_, pss_cons (ps_expr (pe_clsfn T.rd T.fc T.gD GD hr kD bD .nil pass0 (pa_cons (pv 0) (pa_cons pe_str (pa_cons (pe_joined (.cons pe_str (.cons (pe_fmtI hr (pv 1)) (.cons pe_str .nil)))) pa_nil))))) (pss_one (ps_ost (pv 0) (pv 1))), ?_⟩
  refine ⟨_, rfl, _, rfl, by decide +kernel, _, rfl, p, l, rfl, SqT.of hp, hl, h100, fun m hm => ?_⟩
  have e0 : ((Str.empty ++ Str.ofString "both ends of ") ++ m).length ≤ 200100 := by
    rw [strLen_append]
    exact Nat.le_trans (Nat.add_le_add_left hm _) (by decide +kernel)
  refine ⟨m, rfl, Nat.le_trans e0 (by decide), _, rfl, ?_, ?_⟩
  · rw [strLen_append]
    exact Nat.le_trans (Nat.add_le_add_right e0 _) (by decide +kernel)
  refine ⟨a, _, _, rfl, ha, fun dx nd hda => ?_⟩
  refine ⟨_, rfl, _, rfl, a, C, rfl, T.oex, T.noF, .inr ⟨dx, _, upd_same, ?_, by show 1 ≤ 900; decide, q dx nd hda⟩⟩
  rw [upd_ne hda]
  exact upd_same
end
end DM

namespace DM
open PySem PySem.Spec PyProof.Rows L2
/-! ### try: .. except X as n: .. except Y as n: .. (one name for all) -/
/-- behind a suite the name is gone -/
def endsAt (i : Nat) (D : Ends) : Ends := { nx := fun t J => D.nx (t.set i none) J, rt := D.rt, bk := fun t J => D.bk (t.set i none) J, ct := fun t J => D.ct (t.set i none) J }
def wEach (K : PySem.W.Frag) (i : Nat) (Wo : WX) (D : Ends) : List (Value × (Addr → Value → Option Addr → TS)) → WX
  | [] => Wo
  | (c, ts) :: more => fun cl dd t J => ∃ yes, PySem.W.exmOne K cl c = some yes ∧ (yes = true → ∀ x, J x = none → ts x cl dd (endsAt i D) (t.set i (some (.ref x))) J) ∧ (yes = false → wEach K i Wo D more cl dd t J)
inductive ClOk (X : Cx) (n : Str) : List ExceptHandler → List (Value × (Addr → Value → Option Addr → TS)) → Prop
  | none : ClOk X n [] []
  | one {y : Str} {c : Value} {ts : Addr → Value → Option Addr → TS} {st : Stmt} {sts : List Stmt} {p p' : Pos} {cls : List ExceptHandler} {more : List (Value × (Addr → Value → Option Addr → TS))} (named : Names X y c)
      (suite : ∀ (x : Addr) (ob : Obj) (cl : Value) (dd : Option Addr) (pn : List (Addr × Obj)), Zc cl dd ob → (∃ fv, ob.data = .fields fv) → PSs (X.suite x ((x, ob) :: pn)) (st :: sts) (ts x cl dd)) (rest : ClOk X n cls more) :
      ClOk X n (.ExceptHandler (some (.Name y p)) (some n) (st :: sts) p' :: cls) ((c, ts) :: more)
section
variable {X : Cx} {n : Str} {i : Nat} {body : List Stmt} {c₀ : ExceptHandler} {cls : List ExceptHandler} {more : List (Value × (Addr → Value → Option Addr → TS))} {pos : Pos} {tb : WX → TS} {Wo : WX}
theorem ps_try_each (sta : X.stack = X.env :: X.outer) (fra : X.env.frame = some X.env.locals) (nd : X.N.Nodup) (slot : X.N[i]? = some n) (loc : X.env.kindOf n = some .local) (out : Takes X Wo)
    (run : ∀ (W : WX) (pn : List (Addr × Obj)) (xe : Value → Shared → Prop), Takes (X.tr pn xe) W → PassesOwn (model X.prog X.w) X.A X.env xe → PSs (X.tr pn xe) body (tb W)) (all : ClOk X n (c₀ :: cls) more) :
    PS X (.Try body (c₀ :: cls) [] [] pos) (fun D t J => tb (wEach X.K i Wo D more) D t J) := by
  refine ⟨fun pins s0 t0 J0 D I0 want => ?_⟩
  have ok0 := I0.ok
  have frames : X.A.frames = some (X.env :: X.outer) := by rw [ok0.frames, sta]
  have local_ : Loc X.env.scope n := .inl loc
  refine wpAny_Try_except (wpAny_mono ((run (wEach X.K i Wo D more) (X.pn ++ pins) (fun er sA => wpAny (model X.prog X.w) X.A (noteFrame er X.env) (fun _ sB => wpAny (model X.prog X.w) X.A (setFlight er none) (fun _ sC => wpAny (model X.prog X.w) X.A (handleBy er X.env (c₀ :: cls)) (SP X pins D) X.xe sC) X.xe sB) X.xe sA) (fun er sX caught => ?_) PassesOwn.looking).run [] s0 t0 J0 D (I0.toTry _) want) (fun fl sE got => ?_) (fun er sE bad => bad))
  · obtain ⟨x, Bx, sI, pinsI, tI, JI, cl, dd, rfl, invI, nbI, upI, skyI, newI, osI, agI, wish⟩ := caught
    have inv1 : Inv X pins tI JI sI := invI.ofTry ok0
    have sky1 : Sky Bx (X.env :: X.outer) x (Zc cl dd) X.env.locals sX.heap := by rw [← sta]; exact skyI
    show wpAny (model X.prog X.w) X.A (noteFrame (.ref x) X.env) _ _ _
    refine Sky.land Zc.steady frames fra sky1 fun hA flA upA => ?_
    have inv2 : Inv X pins tI JI { sX with heap := hA } := inv1.landed nbI flA.1 (upI.trans upA) osI agI
    obtain ⟨obA, fvA, atA, zA, datA⟩ := flA.there
    have away : x ∉ frs (X.env :: X.outer) := fun m => by
      obtain ⟨_, ob', at', no⟩ := flA.2.2.1.mem m
      rw [atA] at at'
      cases at'
      exact no _ datA
    have notL : x ≠ X.env.locals := fun z => away (List.mem_filterMap.mpr ⟨X.env, List.mem_cons_self, by rw [fra, z]⟩)
    have notF : x ∉ X.fs := fun m => by
      obtain ⟨en, hen, z⟩ := List.mem_filterMap.mp m
      exact away (List.mem_filterMap.mpr ⟨en, List.mem_cons_of_mem _ hen, z⟩)
    have suiteA := inv2.suite atA datA newI notL notF
    have each : ∀ {cs : List ExceptHandler} {ws : List (Value × (Addr → Value → Option Addr → TS))}, ClOk X n cs ws → wEach X.K i Wo D ws cl dd tI JI → wpAny (model X.prog X.w) X.A (handleBy (.ref x) X.env cs) (SP X pins D) X.xe { sX with heap := hA } := by
      intro cs ws hk
      induction hk with
      | none =>
        intro w0
        refine wpAny_handleBy_nil ?_
        obtain ⟨_, _, _, ob, fv, T, oT, ts', at1, _, dat1, f1, _⟩ := id flA
        unfold PySem.passOn
        refine wpAny_bind (wpAny_field at1 dat1 f1 ?_)
        rw [if_neg (by simp : ¬ ((Value.ref T == Value.none) = true))]
        have fly : wpAny (model X.prog X.w) X.A (setFlight (.ref x) X.env.frame) (fun _ sF => wpAny (model X.prog X.w) X.A (throw (.ref x) : Sem Flow) (SP X pins D) X.xe sF) X.xe { sX with heap := hA } := by
          rw [fra]
          refine HandSPX.setFlight_upZ flA fun hB skyB upB => wpAny_throw (out _ _ ?_)
          exact ⟨x, Bx, sI, pins, tI, JI, cl, dd, rfl, inv1, nbI, (upI.trans upA).trans upB, .inr (.inr (by rw [sta]; exact skyB)), newI, osI, agI, w0⟩
        first | exact wpAny_bind (wpAny_pure (wpAny_bind fly)) | exact wpAny_bind fly
      | @one y c ts st sts p p' cs2 ws2 named suite rest again =>
        intro w0
        obtain ⟨yes, is, took, left⟩ := w0
        refine wpAny_handleBy_cons (codeAny_handlers_test ?_) (by intro z; cases z)
        have kind : PySem.W.Looks (model X.prog X.w) hA (typeOf (.ref x)) cl := fun A Q E s k z => wpAny_typeOf_ref (k _ _ atA) (by rw [zA.1]; exact z)
        have match_ := PySem.W.exm_one (M := model X.prog X.w) inv2.kIn kind is
        have read : ∀ {Q E : Value → Shared → Prop}, Q c { sX with heap := hA } → wpAny (model X.prog X.w) (X.A.mark (some (.ref x))) (eval (.Name y p) X.env) Q E { sX with heap := hA } := fun {Q E} z => by
          obtain ⟨g1, g2, g3 | ⟨g3, g4, g5⟩⟩ := named
          · exact ld_glob (X := X.suite x ((x, obA) :: (X.pn ++ pins))) suiteA g1 g3 z g2
          · exact ld_blt (X := X.suite x ((x, obA) :: (X.pn ++ pins))) suiteA g1 g3 g4 z g5 g2
        refine read (match_.here ?_)
        cases yes with
        | false => exact again (left rfl)
        | true =>
          refine codeAny_handlers_suite_as (HandSPX.lands_againZ flA fun hB flB upB => ?_)
          have inv3 : Inv X pins tI JI { sX with heap := hB } := inv1.landed nbI flB.1 ((upI.trans upA).trans upB) osI agI
          obtain ⟨obB, fvB, atB, zB, datB⟩ := flB.there
          have suiteB := inv3.suite atB datB newI notL notF
          refine store_ok (X := X.suite x ((x, obB) :: (X.pn ++ pins))) (v := .ref x) suiteB nd slot local_ rfl (fun sG suiteG => ?_) (.inr loc)
          refine wpAny_mono ((suite x obB cl dd (X.pn ++ pins) zB ⟨_, datB⟩).run [] sG _ JI _ suiteG (took rfl x newI)) (fun fl sH got => ?_) (fun _ _ z => False.elim z)
          have over : ∀ {tH : L2.St} {JH : Hp} {Q : Shared → Prop}, Inv (X.suite x ((x, obB) :: (X.pn ++ pins))) [] tH JH sH → (∀ sK, Inv X pins (tH.set i none) JH sK → Q sK) → wpAny (model X.prog X.w) X.A (do bindName X.env n .none; unbindBehindTheSuite X.env n p') (fun _ sK => Q sK) X.xe sH := fun {tH JH Q} z q => gone_ok (z.unsuite ok0) nd slot loc q
          cases fl with
          | next =>
            obtain ⟨_, _, z, q⟩ := got
            exact over z fun sK invK => ⟨_, _, invK, q⟩
          | brk =>
            obtain ⟨_, _, z, q⟩ := got
            exact over z fun sK invK => ⟨_, _, invK, q⟩
          | cont =>
            obtain ⟨_, _, z, q⟩ := got
            exact over z fun sK invK => ⟨_, _, invK, q⟩
          | ret u =>
            obtain ⟨_, _, _, z, r, q⟩ := got
            exact over z fun sK invK => ⟨_, _, _, invK, r, q⟩
    exact each all wish
  · cases fl with
    | next =>
      obtain ⟨tE, JE, z, q⟩ := got
      exact wpAny_execs_nil ⟨tE, JE, z.ofTry ok0, q⟩
    | brk =>
      obtain ⟨tE, JE, z, q⟩ := got
      exact ⟨tE, JE, z.ofTry ok0, q⟩
    | cont =>
      obtain ⟨tE, JE, z, q⟩ := got
      exact ⟨tE, JE, z.ofTry ok0, q⟩
    | ret u =>
      obtain ⟨v, tE, JE, z, r, q⟩ := got
      exact ⟨v, tE, JE, z.ofTry ok0, r, q⟩
end
end DM

namespace DM
open PySem PySem.Spec PyProof.Rows L2 LamX
section
variable {X : Cx} {pins : List (Addr × Obj)} {σ : L2.St} {H : Hp} {s : Shared}
/-- a(), where the lambda that a names was handed in: what it raises is told of the very state -/
theorem pe_actS {CG : CXT} {EG : XK} {NG : List Str} {qG : Str} {sG : Scope} {g f cc : Addr} {cdG pm ctv : Value} {params : Arguments} {body : Expr} {scope : Scope} {k i : Nat} {a : Str} {pn : List (Addr × Obj)} {xe : Value → Shared → Prop} {W : WX} {tb : XK → TE} {p1 p2 : Pos}
    (I : Inv X pins σ H s) (L : LamS X.env.scope scope) (lam : s.heap.get? f = some (PySem.W.kla_obj "<lambda>" (X.env.qual ++ "<lambda>") params body scope (cloFrom X.env.cells scope.names []) pm cc ctv)) (noH : H f = none) (noF : f ∉ frs X.stack)
    (bound : bindArgs (PySem.W.kla_fn "<lambda>" (X.env.qual ++ "<lambda>") params body scope (cloFrom X.env.cells scope.names []) pm (.ref cc) ctv) ⟨[], []⟩ = pure [])
    (out : L2.Takes ((cxOf CG X.prog X.w X.K X.mg X.base NG qG sG g cdG X.A X.stack s H EG).tr pn xe) W) (room : Room (k + 1) (X.A.deeper (envOfC qG sG s.heap.objs.size g cdG)))
    (inner : ∀ (A : Around) (outer : List Env) (s : Shared) (H : Hp) (E : XK), Room k (A.deeper (lamEnv X scope s.heap.objs.size f cc)) → PE (lamCx X A outer s H E scope f cc) body (tb E))
    (slot : NG[i]? = some a) (seen : Vis sG a) (nd : (a == ("__debug__" : Str)) = false := by decide) (nc : (a == ("__classdict__" : Str)) = false := by decide) :
    PE ((cxOf CG X.prog X.w X.K X.mg X.base NG qG sG g cdG X.A X.stack s H EG).tr pn xe) (.Call (.Name a p1) [] [] p2)
      (fun t J Q => t[i]? = some (some (.ref f)) ∧ J cc = some (CodeO cc (X.env.qual ++ "<lambda>")) ∧ tb (fun cl dd J' => W cl dd t J') σ J Q) := by
  refine ⟨fun pz sz tz Jz Qz Iz want => ?_⟩
  obtain ⟨w1, w2, w3⟩ := want
  refine wpAny_Call_Name_kw (thn ((pe_var (pos := p1) (i := i) slot seen nd nc).run pz sz tz Jz (fun v J1 => v = .ref f ∧ J1 = Jz) Iz ⟨.ref f, w1, rfl, rfl⟩) fun u s2 ⟨v, J1, I2, rv, q2⟩ => ?_)
  obtain ⟨rfl, eJ⟩ := q2
  rw [eJ] at I2
  obtain rfl : u = Value.ref f := rv
  have lam2 : s2.heap.get? f = some (PySem.W.kla_obj "<lambda>" (X.env.qual ++ "<lambda>") params body scope (cloFrom X.env.cells scope.names []) pm cc ctv) := I2.base.keep f _ lam noH noF (fun z => nomatch (show f ∈ ([] : List Addr) from z))
  refine PySem.W.callWith_F0 ⟨_, _, _, _, lam2⟩ ?_
  have moved : Un (frs X.stack) [] H Jz s.heap s2.heap := I2.base
  obtain ⟨⟨oc, vs, tok, at1, dat1, nam1⟩, _, _⟩ := I2.hok cc _ w2
  have ran : codeAny (model X.prog X.w) (X.A.deeper (envOfC qG sG s.heap.objs.size g cdG)) (.call (.ref f) ⟨[], []⟩) (CR (L2.CX X.prog X.w) (envOfC qG sG s.heap.objs.size g cdG :: X.stack) X.prog X.w Jz s2 Qz (fun cl dd J' => W cl dd tz J')) s2 := by
    refine PySem.W.kla_callFunE room.depth lam2 rfl L.co L.gen rfl ⟨cc, oc, vs, tok, rfl, at1, dat1, nam1⟩ ?_
    rw [bound]
    refine wpAny_pure (wpAny_newFunctionEnv (fun y hy => (L.own y hy).2) (fun y hy => absurd hy (by simp)) (fun hN ns same => ⟨I2.nolimit.fresh _ same, ?_⟩) L.kind)
    show codeAny _ _ (.expr body (lamEnv X scope s2.heap.objs.size f cc)) _ _
    have kept : ∀ b o, s2.heap.get? b = some o → hN.get? b = some o := fun b o z => same.extBut b o (Nat.ne_of_lt (Heap.lt_size z)) (Heap.get?_push_of_some _ z)
    have begun : Inv (lamCx X (X.A.deeper (envOfC qG sG s.heap.objs.size g cdG)) (envOfC qG sG s.heap.objs.size g cdG :: X.stack) s2 Jz (fun cl dd J' => W cl dd tz J') scope f cc) [] σ Jz { s2 with heap := hN, toks := s2.toks + ([] : List (Str × Value)).length } := lam_start2 I L I2.env0 room.hd moved ns kept
    refine PySem.W.kla_codeExpr (wpAny_mono ((inner _ _ s2 Jz _ (room.deeper _)).run [] _ _ Jz Qz begun w3) (fun v s3 got => ?_) fun er s3 bad => bad)
    obtain ⟨v', J3, I3, r3, q3⟩ := got
    exact ⟨v', J3, I3.os, I3.bare, I3.base, I3.hok, r3, q3⟩
  refine wpAny_call (codeAny_mono ran fun res s3 got => ?_)
  cases res with
  | error er => exact out er s3 (XE.of_call I2 (fun cl dd J' z => z) got)
  | ok fl =>
    cases fl with
    | ret u => exact I2.after got
    | next => exact False.elim got
    | brk => exact False.elim got
    | cont => exact False.elim got
end
/-- as GivesTo, told of the very state -/
def GivesS (X : Cx) (NG : List Str) (x : Str) (sG : Scope) (g : Addr) (cdG : Value) (bG : List Stmt) (a q : Str) (TT : (XK → Hp → VK → Prop) → Hp → VK → Prop) : Prop :=
  ∀ (f cc : Addr) (s : Shared) (H : Hp) (Q : VK) (tl : XK → Hp → VK → Prop),
    (∀ (W : WX) (pn : List (Addr × Obj)) (xe : Value → Shared → Prop) (p1 p2 : Pos), L2.Takes ((cxOf C8.CX0 X.prog X.w X.K X.mg X.base NG x sG g cdG X.A X.stack s H C8.E0).tr pn xe) W →
      PE ((cxOf C8.CX0 X.prog X.w X.K X.mg X.base NG x sG g cdG X.A X.stack s H C8.E0).tr pn xe) (.Call (.Name a p1) [] [] p2) (fun t J Q => t[0]? = some (some (.ref f)) ∧ J cc = some (CodeO cc q) ∧ tl (fun cl dd J' => W cl dd t J') J Q)) →
    H cc = some (CodeO cc q) → TT tl H Q →
    ∃ t, PSs (cxOf C8.CX0 X.prog X.w X.K X.mg X.base NG x sG g cdG X.A X.stack s H C8.E0).nox bG t ∧ t { nx := fun _ H' => Q .non H', rt := Q } (L2.start NG [.ref f]) H
section
variable {X : Cx}
/-- x(lambda: body) -/
theorem pe_lamS {T : List (Addr × Str)} {TT : (XK → Hp → VK → Prop) → Hp → VK → Prop} {x a : Str} {g c P : Addr} {k : Nat} {pG : Arguments} {bG : List Stmt} {sG : Scope} {dV kV doc pm cdv ct oc : Value} {an od : Option Addr} {osl : Array (Option Value)} {NG : List Str}
    {params : Arguments} {body : Expr} {scope : Scope} {t : XK → TE} {p lp pos : Pos} (gl : Gl X x) (at0 : X.mg x = some (.ref g)) (kp : PySem.W.keepIn X.K (.ref g) = true)
    (lk : X.K.lookup g = some ⟨oc, od, .func (PySem.W.fnOf x x pG bG sG dV kV doc pm an cdv ct), osl⟩) (code : PySem.W.codeIn X.K cdv x = true) (takes : L2.Binds X.K (PySem.W.fnOf x x pG bG sG dV kV doc pm an cdv ct) [a] []) (SG : FnScope NG [a] sG) (slot : NG[0]? = some a) (seen : Vis sG a)
    (gives : GivesS X NG x sG g cdv bG a (X.env.qual ++ "<lambda>") TT)
    (TB : TabB X.base X.mg c P) (mine : X.env.code = .ref c) (inT : (P, X.env.qual ++ "<lambda>") ∈ T) (oneT : ∀ p ∈ T, p.1 = P → p.2 = X.env.qual ++ "<lambda>") (room : Room (k + 2) X.A) (L : LamS X.env.scope scope) (nodef : defaultsOf params X.env = ([], []))
    (bound : ∀ (q : Str) (cl : List (Str × Addr)) (pm cv ctv : Value), bindArgs (PySem.W.kla_fn "<lambda>" q params body scope cl pm cv ctv) ⟨[], []⟩ = pure [])
    (inner : ∀ (A : Around) (outer : List Env) (s : Shared) (H : Hp) (E : XK) (f cc : Addr), Room k (A.deeper (lamEnv X scope s.heap.objs.size f cc)) → PE (lamCx X A outer s H E scope f cc) body (t E))
    (n1 : (x == ("__debug__" : Str)) = false := by decide) (n2 : (a == ("__debug__" : Str)) = false := by decide) (n3 : (a == ("__classdict__" : Str)) = false := by decide) :
    PE X (.Call (.Name x p) [.Lambda params body scope lp] [] pos) (tLam T TT t) := by
  refine ⟨fun pz sz tz Jz Qz Iz want => ?_⟩
  obtain ⟨hT, want⟩ := want
  refine wpAny_Call_Name_kw (ld_glob Iz gl at0 ?_ n1)
  refine PySem.W.callWith_K (h₀ := X.base) Iz.ok.mod.kin kp ?_ (by rfl) (by rfl)
  show wpAny _ _ (spliced ((false, eval (.Lambda params body scope lp) X.env) :: backTo pos (starEach [] X.env))) _ _ sz
  refine Calls.spliced_cons (lam_make2 Iz TB mine inT oneT hT nodef (L.has Iz.ok) fun f cc pm' ctv J1 s1 I1 more T1 lam noH noF isC => Calls.spliced_nil ⟨I1.kIn, ?_⟩)
  have ran : codeAny (model X.prog X.w) X.A (.call (.ref g) ⟨[.ref f], []⟩) (CR C8.CX0 X.stack X.prog X.w J1 s1 Qz C8.E0) s1 := by
    refine run_ofS (N := NG) (ps := [a]) (us := [.ref f]) (vs := [.ref f]) lk code SG room I1.env0 (takes s1 [.ref f] I1.kIn rfl) (.cons rfl .nil) rfl fun room' => ?_
    obtain ⟨t', z1, z2⟩ := gives f cc s1 J1 Qz (fun E J Q => t E tz J Q) (fun W pn xe p1 p2 out => pe_actS (i := 0) I1 L lam noH noF (bound _ _ _ _ _) out room' (fun A outer s H E hr2 => inner A outer s H E f cc hr2) slot seen n2 n3) isC (want J1 more T1)
    exact ⟨t', z1.nox, z2⟩
  refine wpAny_call (codeAny_mono ran fun res s2 got => ?_)
  cases res with
  | error er => exact (show False from got).elim
  | ok fl =>
    cases fl with
    | ret u => exact I1.after got
    | next => exact False.elim got
    | brk => exact False.elim got
    | cont => exact False.elim got
end
end DM

namespace DM
open PySem L2 LamX
/-- what _law_refused makes of what the lambda does -/
def RefE (CS CT : Addr) (Q : VK) : XK := fun cl dd J => ∃ (d p : Addr), dd = some d ∧ ((cl = .ref CS ∧ J d = some (.xd [("spot", .ref p), ("word", .str "BadSpot")]) ∧ ∀ r, J r = none → Q (.ref r) (upd J r (.tup [.str "BadSpot", .ref p]))) ∨
    (cl = .ref CT ∧ J d = some (.xd [("stroke", .ref p), ("word", .str "BadStroke")]) ∧ ∀ r, J r = none → Q (.ref r) (upd J r (.tup [.str "BadStroke", .ref p]))))
def TRef (CS CT : Addr) : (XK → Hp → VK → Prop) → Hp → VK → Prop := fun tl H Q => ∀ (E' : XK) (Q' : VK), (∀ cl dd J, RefE CS CT Q cl dd J → E' cl dd J) → (∀ v J, Q .non J → Q' v J) → tl E' H Q'
section
variable {X : Cx} {CS CT D fS fT fD : Addr}
abbrev s_refused : Stmt := top 15
theorem sc_refused : FnScope ["_law_act", "_law_found", "e"] ["_law_act"] (defScope s_refused) := ⟨rfl, rfl, rfl, by decide +kernel, rfl, by decide +kernel, by decide +kernel⟩
theorem refused_gives (TS : ErrF X.K X.mg "BadSpot" "spot" CS D fS fD) (TT : ErrF X.K X.mg "BadStroke" "stroke" CT D fT fD) (ss : PySem.W.exmOne X.K (.ref CS) (.ref CS) = some true) (ts : PySem.W.exmOne X.K (.ref CT) (.ref CS) = some false) (tt : PySem.W.exmOne X.K (.ref CT) (.ref CT) = some true)
    {g : Addr} {cdG : Value} {q : Str} : GivesS X ["_law_act", "_law_found", "e"] "_law_refused" (defScope s_refused) g cdG (defBody s_refused) "_law_act" q (TRef CS CT) := by
  intro f cc s H Q tl act isC want
  refine ⟨_, pss_cons (ps_set (i := 1) sc_refused.nd rfl (Or.inl rfl) pe_non) (pss_cons
    (ps_try_each (i := 2) (Wo := fun _ _ _ _ => False) rfl rfl sc_refused.nd rfl rfl L2.takes0
      (fun W pn xe tk _ => pss_one (ps_expr (act W pn xe _ _ tk)))
      (.one ⟨rfl, by decide, Or.inl TS.gC⟩ (fun x ob cl dd pn hz hf => pss_one (ps_set (i := 1) sc_refused.nd rfl (Or.inl rfl) (pe_tup (pa_cons (pe_xf TS.xf TS.noW hz hf (pv 2)) (pa_cons (pe_xf TS.xf TS.noF hz hf (pv 2)) pa_nil)))))
        (.one ⟨rfl, by decide, Or.inl TT.gC⟩ (fun x ob cl dd pn hz hf => pss_one (ps_set (i := 1) sc_refused.nd rfl (Or.inl rfl) (pe_tup (pa_cons (pe_xf TT.xf TT.noW hz hf (pv 2)) (pa_cons (pe_xf TT.xf TT.noF hz hf (pv 2)) pa_nil))))) .none)))
    (pss_one (ps_ret (pv 1)))), ?_⟩
  refine ⟨rfl, isC, want _ _ (fun cl dd J h => ?_) (fun v J h => ⟨_, rfl, h⟩)⟩
  obtain ⟨d, p, rfl, ⟨rfl, hd, fin⟩ | ⟨rfl, hd, fin⟩⟩ := h
  · refine ⟨true, ss, fun _ e ne => ?_, fun z => nomatch z⟩
    refine ⟨_, rfl, rfl, rfl, d, _, _, rfl, hd, rfl, ?_⟩
    refine ⟨_, rfl, rfl, rfl, d, _, _, rfl, hd, rfl, sz (by decide : 2 ≤ 100000), fun r nr => ?_⟩
    exact ⟨_, rfl, fin r nr⟩
  · refine ⟨false, ts, (fun z => Bool.noConfusion z), fun _ => ⟨true, tt, fun _ e ne => ?_, fun z => nomatch z⟩⟩
    refine ⟨_, rfl, rfl, rfl, d, _, _, rfl, hd, rfl, ?_⟩
    refine ⟨_, rfl, rfl, rfl, d, _, _, rfl, hd, rfl, sz (by decide : 2 ≤ 100000), fun r nr => ?_⟩
    exact ⟨_, rfl, fin r nr⟩
end
end DM

namespace DM
open PySem L2
/-- a pair of numbers as data -/
theorem dp_pair {K : PySem.W.Frag} {H : Hp} {p : Addr} {x y : Int} (h : H p = some (.tup [.int x, .int y])) : Dp K H (.ref p) (.tuple [.int x, .int y]) := .tup (SqT.of h) (.cons (.int x) (.cons (.int y) .nil))
theorem dp_four {K : PySem.W.Frag} {H : Hp} {p : Addr} {x y z w : Int} (h : H p = some (.tup [.int x, .int y, .int z, .int w])) : Dp K H (.ref p) (.tuple [.int x, .int y, .int z, .int w]) := .tup (SqT.of h) (.cons (.int x) (.cons (.int y) (.cons (.int z) (.cons (.int w) .nil))))
theorem eqv_pair (a b c d : Int) : PyData.eqv (.tuple [.int a, .int b]) (.tuple [.int c, .int d]) = decide (a = c ∧ b = d) := by
  simp only [PyData.eqv, PyData.eqvAll, Bool.and_true, Bool.decide_and]
  rfl
theorem shaped_pair (a b : Int) : SeqAt.shaped (.tuple [.int a, .int b]) = true := by
  first | rfl | simp [SeqAt.shaped, PyData.canLay0, PyData.depth]
end DM

namespace DM
open PySem L2
/-- what the law says of four numbers -/
inductive Wrd where
  | spot (a b : Int)
  | stroke
  | fine
def word5 (x1 y1 x2 y2 : Int) : Wrd := if inside x1 y1 = true then (if inside x2 y2 = true then (if x1 = x2 ∧ y1 = y2 then .stroke else .fine) else .spot x2 y2) else .spot x1 y1
def WrdAt (H : Hp) (x1 y1 x2 y2 : Int) (v : V) : Wrd → Prop
  | .spot a b => ∃ p q : Addr, v = .ref p ∧ H p = some (.tup [.str "BadSpot", .ref q]) ∧ H q = some (.tup [.int a, .int b])
  | .stroke => ∃ p q : Addr, v = .ref p ∧ H p = some (.tup [.str "BadStroke", .ref q]) ∧ H q = some (.tup [.int x1, .int y1, .int x2, .int y2])
  | .fine => v = .non
theorem WrdAt.same {H H' : Hp} {x1 y1 x2 y2 : Int} {v : V} : ∀ {m : Wrd}, WrdAt H x1 y1 x2 y2 v m → Same H H' → WrdAt H' x1 y1 x2 y2 v m
  | .spot .., ⟨p, q, a, b, c⟩, s => ⟨p, q, a, s _ _ b, s _ _ c⟩
  | .stroke, ⟨p, q, a, b, c⟩, s => ⟨p, q, a, s _ _ b, s _ _ c⟩
  | .fine, h, _ => h
theorem two_is {Pr : V → V → Prop} {a b c d : V} (h0 : Pr a c) (h1 : Pr b d) : ∀ (i : Nat) (x y : V), ([a, b] : List V)[i]? = some x → ([c, d] : List V)[i]? = some y → Pr x y
  | 0, _, _, hx, hy => by cases hx; cases hy; exact h0
  | 1, _, _, hx, hy => by cases hx; cases hy; exact h1
theorem four_is {n : Nat} {H : Hp} {a b c d : Int} : ∀ (i : Nat) (x y : V), ([.int a, .int b, .int c, .int d] : List V)[i]? = some x → ([.int a, .int b, .int c, .int d] : List V)[i]? = some y → Alike n H x y
  | 0, _, _, hx, hy => by cases hx; cases hy; exact Alike.scal rfl
  | 1, _, _, hx, hy => by cases hx; cases hy; exact Alike.scal rfl
  | 2, _, _, hx, hy => by cases hx; cases hy; exact Alike.scal rfl
  | 3, _, _, hx, hy => by cases hx; cases hy; exact Alike.scal rfl
theorem WrdAt.alike {H : Hp} {x1 y1 x2 y2 : Int} : ∀ {m : Wrd} {v u : V}, WrdAt H x1 y1 x2 y2 v m → WrdAt H x1 y1 x2 y2 u m → Alike 2 H v u
  | .fine, _, _, h, h' => by cases h; cases h'; exact Alike.scal rfl
  | .spot .., _, _, ⟨p, q, rfl, b, c⟩, ⟨p', q', rfl, b', c'⟩ => .inr (.inl ⟨p, p', _, _, rfl, rfl, b, b', rfl, by show 2 ≤ 1000; decide, two_is (Pr := Alike 1 H) (Alike.scal rfl) (.inr (.inl ⟨q, q', _, _, rfl, rfl, c, c', rfl, by show 2 ≤ 1000; decide, alike_pair⟩))⟩)
  | .stroke, _, _, ⟨p, q, rfl, b, c⟩, ⟨p', q', rfl, b', c'⟩ => .inr (.inl ⟨p, p', _, _, rfl, rfl, b, b', rfl, by show 2 ≤ 1000; decide, two_is (Pr := Alike 1 H) (Alike.scal rfl) (.inr (.inl ⟨q, q', _, _, rfl, rfl, c, c', rfl, by show 4 ≤ 1000; decide, four_is⟩))⟩)
def spWord : Sp := fun vs H Q _ => ∃ (p : Addr) (x1 y1 x2 y2 : Int), vs = [.ref p] ∧ H p = some (.tup [.int x1, .int y1, .int x2, .int y2]) ∧ ∀ (r : V) (H' : Hp), Same H H' → WrdAt H' x1 y1 x2 y2 r (word5 x1 y1 x2 y2) → Q r H'
section
variable {P : Program} {w : World} {K : PySem.W.Frag} {mg : Str → Option Value} {base : Heap} {f : Addr} {fd : FuncData}
abbrev s_stroke_word : Stmt := top 16
theorem sc_stroke_word : FnScope ["_law_stroke", "_law_spot"] ["_law_stroke"] (defScope s_stroke_word) := ⟨rfl, rfl, rfl, by decide +kernel, rfl, by decide +kernel, by decide +kernel⟩
theorem ok_stroke_word (B : Blt mg) (F : Fun K "_law_stroke_word" "_law_stroke_word" s_stroke_word f fd) : FnOk P w K mg base CX0 1 f fd ["_law_stroke"] spWord := by
  refine F.ok sc_stroke_word (fun vs H Q E h => ?_) (fun cdv A outer s H vs Q E hr h => ?_)
  · obtain ⟨p, x1, y1, x2, y2, rfl, _⟩ := h
    rfl
  obtain ⟨p, x1, y1, x2, y2, rfl, hp, q⟩ := h
  refine ⟨_, (pss_cons (ps_for PassesOwn.never rfl (pi_list (pe_lst (pa_cons (pe_slice sl_tup (pv 0) po_none (po_some pe_int)) (pa_cons (pe_slice sl_tup (pv 0) (po_some pe_int) po_none) pa_nil)))) (pg_name (i := 1) sc_stroke_word.nd rfl (Or.inl rfl))
    (pss_one (ps_if (PW.pt (pw_or (pt_cmpR op_lt (pe_callB (cr_minT rfl (hu_of hr)) rfl B.min bt_min (pa_cons (pv 1) pa_nil)) (pe_un un_neg pe_int) (nomark _)) (pw_or1 (pt_cmpR op_gt (pe_callB (cr_maxT rfl (hu_of hr)) rfl B.max bt_max (pa_cons (pv 1) pa_nil)) pe_int (nomark _)))))
    (pss_one (ps_ret (pe_tup (pa_cons pe_str (pa_cons (pv 1) pa_nil)))))
    pss_nil)))
    (pss_one (ps_ret (pe_ifExp (pt_cmpR (op_eqD hr.units) (pe_slice sl_tup (pv 0) po_none (po_some pe_int)) (pe_slice sl_tup (pv 0) (po_some pe_int) po_none) (nomark _)) (pe_tup (pa_cons pe_str (pa_cons (pv 0) pa_nil))) pe_non)))), ?_⟩
  refine ⟨_, rfl, _, rfl, p, _, rfl, SqT.of hp, (fun z => absurd z.2 (by show ¬ (2 = 4); decide)), fun e0 n0 => ?_⟩
  have g0 := same_new n0 (.tup [.int x1, .int y1])
  refine ⟨_, rfl, _, rfl, p, _, rfl, SqT.of (g0 _ _ hp), (fun z => absurd z.1 (by show ¬ (2 = 0); decide)), fun e1 n1 => ?_⟩
  have g1 := same_new n1 (.tup [.int x2, .int y2])
  refine ⟨sz (by decide : 2 ≤ 100000), fun el nl => ?_⟩
  have gl := same_new nl (.lst [.ref e0, .ref e1])
  have k0 := gl _ _ (g1 _ _ (new_at g0))
  have k1 := gl _ _ (new_at g1)
  have kl := new_at gl
  have kp := gl _ _ (g1 _ _ (g0 _ _ hp))
  have gA := g0.trans (g1.trans gl)
  unfold word5 at q
  refine ⟨el, rfl, ⟨_, SqL.of kl⟩, ?_⟩
  refine for_list (K := K) (a := el) (xs := [.ref e0, .ref e1]) (fun i σ H' => H' = _ ∧ (∃ c1, σ = [some (.ref p), c1]) ∧ (1 ≤ i → inside x1 y1 = true) ∧ (2 ≤ i → inside x2 y2 = true)) ⟨rfl, ⟨_, rfl⟩, (fun z => absurd z (by decide)), fun z => absurd z (by decide)⟩ ?_ ?_ ?_
  · rintro i σ H' _ ⟨rfl, _⟩
    exact SqL.of kl
  · rintro i x σ H' hx ⟨rfl, ⟨c1, rfl⟩, i1, i2⟩
    obtain ⟨px, a, b, rfl, ex, hix⟩ : ∃ px a b, x = .ref px ∧ upd (upd (upd H e0 (.tup [.int x1, .int y1])) e1 (.tup [.int x2, .int y2])) el (.lst [.ref e0, .ref e1]) px = some (.tup [.int a, .int b]) ∧ ((i = 0 ∧ a = x1 ∧ b = y1) ∨ (i = 1 ∧ a = x2 ∧ b = y2)) := by
      match i, hx with
      | 0, hx => cases hx; exact ⟨e0, x1, y1, rfl, k0, .inl ⟨rfl, rfl, rfl⟩⟩
      | 1, hx => cases hx; exact ⟨e1, x2, y2, rfl, k1, .inr ⟨rfl, rfl, rfl⟩⟩
    have bad : ¬ inside a b = true → ∀ r, upd (upd (upd H e0 (.tup [.int x1, .int y1])) e1 (.tup [.int x2, .int y2])) el (.lst [.ref e0, .ref e1]) r = none → Q (.ref r) (upd (upd (upd (upd H e0 (.tup [.int x1, .int y1])) e1 (.tup [.int x2, .int y2])) el (.lst [.ref e0, .ref e1])) r (.tup [.str "BadSpot", .ref px])) := fun h r nr => by
      have gr := same_new nr (.tup [.str "BadSpot", .ref px])
      refine q _ _ (gA.trans gr) ?_
      rcases hix with ⟨rfl, rfl, rfl⟩ | ⟨rfl, rfl, rfl⟩
      · rw [if_neg h]
        exact ⟨r, px, rfl, new_at gr, gr _ _ ex⟩
      · rw [if_pos (i1 (Nat.le_refl _)), if_neg h]
        exact ⟨r, px, rfl, new_at gr, gr _ _ ex⟩
    have lo := min_pair a b
    have hi := max_pair a b
    refine ⟨_, rfl, px, a, [b], rfl, SqT.of ex, _, rfl, _, _, rfl, rfl, _, rfl, ?_⟩
    by_cases c : PySem.W.minOf a [b] < -40
    · refine iteDT c (iteT ?_)
      refine ⟨_, rfl, sz (by decide : 2 ≤ 100000), fun r nr => bad (fun z => ?_) r nr⟩
      unfold inside at z
      have z := of_decide_eq_true z
      rw [lo] at c
      split at c <;> omega
    · refine iteDF c ?_
      refine ⟨_, rfl, px, a, [b], rfl, SqT.of ex, _, _, rfl, rfl, _, rfl, ?_⟩
      by_cases d : PySem.W.maxOf a [b] > 40
      · refine iteDT d ?_
        refine ⟨_, rfl, sz (by decide : 2 ≤ 100000), fun r nr => bad (fun z => ?_) r nr⟩
        unfold inside at z
        have z := of_decide_eq_true z
        rw [hi] at d
        split at d <;> omega
      · refine iteDF d ?_
        have ins : inside a b = true := by
          unfold inside
          apply decide_eq_true
          rw [lo] at c
          rw [hi] at d
          split at c <;> split at d <;> omega
        refine ⟨rfl, ⟨_, rfl⟩, fun _ => ?_, fun h => ?_⟩
        · rcases hix with ⟨rfl, rfl, rfl⟩ | ⟨rfl, rfl, rfl⟩
          · exact ins
          · exact i1 (Nat.le_refl _)
        · rcases hix with ⟨rfl, rfl, rfl⟩ | ⟨rfl, rfl, rfl⟩
          · omega
          · exact ins
  · rintro σ H' ⟨rfl, ⟨c1, rfl⟩, i1, i2⟩
    rw [if_pos (i1 (by show 1 ≤ 2; decide)), if_pos (i2 (Nat.le_refl _))] at q
    refine ⟨_, rfl, _, rfl, p, _, rfl, SqT.of kp, (fun z => absurd z.2 (by show ¬ (2 = 4); decide)), fun w0 m0 => ?_⟩
    have h0 := same_new m0 (.tup [.int x1, .int y1])
    refine ⟨_, rfl, _, rfl, p, _, rfl, SqT.of (h0 _ _ kp), (fun z => absurd z.1 (by show ¬ (2 = 0); decide)), fun w1 m1 => ?_⟩
    have h1 := same_new m1 (.tup [.int x2, .int y2])
    refine ⟨.tuple [.int x1, .int y1], .tuple [.int x2, .int y2], dp_pair (h1 _ _ (new_at h0)), dp_pair (new_at h1), shaped_pair _ _, shaped_pair _ _, _, rfl, ?_⟩
    rw [eqv_pair]
    have gB := gA.trans (h0.trans h1)
    by_cases c : x1 = x2 ∧ y1 = y2
    · refine iteDT c ?_
      rw [if_pos c] at q
      refine ⟨_, rfl, sz (by decide : 2 ≤ 100000), fun r nr => ?_⟩
      have gr := same_new nr (.tup [.str "BadStroke", .ref p])
      exact q _ _ (gB.trans gr) ⟨r, p, rfl, new_at gr, gr _ _ (h1 _ _ (h0 _ _ kp))⟩
    · refine iteDF c ?_
      rw [if_neg c] at q
      exact q _ _ gB rfl
end
end DM

namespace DM
open PySem L2 LamX
/-! ### tables of code stay where only lists change -/
def KeepN (H H' : Hp) : Prop := ∀ b o, H b = some o → (∀ xs, o ≠ .lst xs) → H' b = some o
theorem KeepN.of {H H' : Hp} (e : Same H H') : KeepN H H' := fun b o h _ => e b o h
theorem KeepN.trans {H H1 H2 : Hp} (a : KeepN H H1) (b : KeepN H1 H2) : KeepN H H2 := fun c o h n => b c o (a c o h n) n
theorem KeepN.but {H H' : Hp} {b l : Addr} (hB : BagAt H b l) (e : But b H H') : KeepN H H' := fun c o h n => e c o (fun z => by
  obtain ⟨xs, hb⟩ := hB.hasB
  rw [z, hb] at h
  exact n xs (Option.some.inj h).symm) h
theorem KeepN.put {H : Hp} {D : Addr} {xs : List V} {o : HO} (h : H D = some (.lst xs)) : KeepN H (upd H D o) := fun c u hc n => by
  rw [upd_ne (fun z => by rw [z, h] at hc; exact n xs (Option.some.inj hc).symm)]
  exact hc
theorem tabs_keep {T : List (Addr × Str)} {H H' : Hp} (t : Tabs T H) (e : KeepN H H') : Tabs T H' := fun p hp => by
  obtain ⟨ps, h1, h2, h3⟩ := t p hp
  refine ⟨ps, e _ _ h1 (fun xs z => by cases z), h2, fun pos cv hc => ?_⟩
  obtain ⟨cc, z1, z2⟩ := h3 pos cv hc
  exact ⟨cc, z1, e _ _ z2 (fun xs z => by unfold CodeO at z; cases z)⟩
theorem BagAt.extN {H H' : Hp} {b l : Addr} (h : BagAt H b l) (e : ExtN H H') : BagAt H' b l := by
  obtain ⟨ns, i, g, s, h1, h2, r⟩ := h
  exact ⟨ns, i, g, s, e _ _ h1 (fun ps z => by cases z), e _ _ h2 (fun ps z => by cases z), r⟩
def spNeed (CS CT : Addr) : Sp := fun vs H Q E => ∃ (p : Addr) (x1 y1 x2 y2 : Int), vs = [.ref p] ∧ H p = some (.tup [.int x1, .int y1, .int x2, .int y2]) ∧ (-1000 ≤ x1 ∧ x1 ≤ 1000 ∧ -1000 ≤ y1 ∧ y1 ≤ 1000 ∧ -1000 ≤ x2 ∧ x2 ≤ 1000 ∧ -1000 ≤ y2 ∧ y2 ≤ 1000) ∧
  (∀ a b, word5 x1 y1 x2 y2 = .spot a b → ∀ (d q : Addr) (H' : Hp), Same H H' → H' d = some (.xd [("spot", .ref q), ("word", .str "BadSpot")]) → H' q = some (.tup [.int a, .int b]) → E (.ref CS) (some d) H') ∧
  (word5 x1 y1 x2 y2 = .stroke → ∀ (d q : Addr) (H' : Hp), Same H H' → H' d = some (.xd [("stroke", .ref q), ("word", .str "BadStroke")]) → H' q = some (.tup [.int x1, .int y1, .int x2, .int y2]) → E (.ref CT) (some d) H') ∧
  (word5 x1 y1 x2 y2 = .fine → ∀ H', Same H H' → Q .non H')
theorem tref_need {CS CT p : Addr} {x1 y1 x2 y2 : Int} {σ : St} {H : Hp} {Q : VK} (hσ : σ[5]? = some (some (.ref p))) (hp : H p = some (.tup [.int x1, .int y1, .int x2, .int y2])) (bx : -1000 ≤ x1 ∧ x1 ≤ 1000 ∧ -1000 ≤ y1 ∧ y1 ≤ 1000 ∧ -1000 ≤ x2 ∧ x2 ≤ 1000 ∧ -1000 ≤ y2 ∧ y2 ≤ 1000)
    (rest : ∀ (v : V) (J : Hp), Same H J → WrdAt J x1 y1 x2 y2 v (word5 x1 y1 x2 y2) → Q v J) : TRef CS CT (fun E H' Q' => (fun E => tCall (spNeed CS CT) [] E (tCons (tVar 5) tNil)) E σ H' Q') H Q := by
  intro E' Q' hE hQ
  refine ⟨_, hσ, p, x1, y1, x2, y2, rfl, hp, bx, fun a' b' hw d q' J sJ hd hq' => hE _ _ _ ⟨d, q', rfl, .inl ⟨rfl, hd, fun r nr => ?_⟩⟩, fun hw d q' J sJ hd hq' => hE _ _ _ ⟨d, q', rfl, .inr ⟨rfl, hd, fun r nr => ?_⟩⟩, fun hw J sJ => hQ _ _ ?_⟩
  · have gr := same_new nr (.tup [.str "BadSpot", .ref q'])
    exact rest _ _ (sJ.trans gr) (by rw [hw]; exact ⟨r, q', rfl, new_at gr, gr _ _ hq'⟩)
  · have gr := same_new nr (.tup [.str "BadStroke", .ref q'])
    exact rest _ _ (sJ.trans gr) (by rw [hw]; exact ⟨r, q', rfl, new_at gr, gr _ _ hq'⟩)
  · exact rest _ _ sJ (by rw [hw]; rfl)
def spLawT (K : PySem.W.Frag) (P : Addr) : Sp := fun vs H Q _ => ∃ (a : Addr) (ns : List Int), vs = [.ref a] ∧ SqL K H a (ns.map V.int) ∧ ns.length ≤ 63 ∧ H P = some (.tbl #[]) ∧ ∀ H', Q (.bl true) H'
section
variable {P : Program} {w : World} {K : PySem.W.Frag} {mg : Str → Option Value} {base : Heap} {f : Addr} {fd : FuncData} {CS CT D fS fT fD : Addr}
abbrev s_law : Stmt := top 17
theorem sc_law : FnScope ["_law_script", "_law_bag_here", "_law_turn", "_law_some", "_law_k", "_law_stroke"] ["_law_script"] (defScope s_law) := ⟨rfl, rfl, rfl, by decide +kernel, rfl, by decide +kernel, by decide +kernel⟩
abbrev qLam : Str := (PyProof.Rows.envOfC "law" (defScope s_law) 0 0 .none).qual ++ "<lambda>"
theorem ok_law (B : Blt mg) {c Pt : Addr} {oc kV doc pm ct : Value} {od an : Option Addr} {osl : Array (Option Value)} (lkL : K.lookup f = some ⟨oc, od, .func (PySem.W.fnOf "law" "law" (defArgs s_law) (defBody s_law) (defScope s_law) .none kV doc pm an (.ref c) ct), osl⟩) (hcL : PySem.W.codeIn K (.ref c) "law" = true) (TB : TabB base mg c Pt)
    (c_bag : Cal P w K mg base 1 "_law_bag" ["_law_script"] (spBag K)) (c_pull : Cal P w K mg base 1 "_law_pull" ["_law_bag_here", "_law_amount"] spPull) (c_of : Cal P w K mg base 2 "_law_of" ["_law_bag_here", "_law_things"] spOf) (c_like : Cal P w K mg base 3 "_law_like" ["_law_found", "_law_due"] (spLike 2)) (c_stroke_word : Cal P w K mg base 1 "_law_stroke_word" ["_law_stroke"] spWord)
    (TS : ErrF K mg "BadSpot" "spot" CS D fS fD) (TT : ErrF K mg "BadStroke" "stroke" CT D fT fD) (ss : PySem.W.exmOne K (.ref CS) (.ref CS) = some true) (ts : PySem.W.exmOne K (.ref CT) (.ref CS) = some false) (tt : PySem.W.exmOne K (.ref CT) (.ref CT) = some true)
    {g : Addr} {gd : FuncData} (GR : Fun K "_law_refused" "_law_refused" s_refused g gd) (mR : mg "_law_refused" = some (.ref g)) (bR : Binds K gd ["_law_act"] [])
    {n : Addr} {nd : FuncData} (GN : FnOk P w K mg base (L2.CX P w) 6 n nd ["stroke"] (spNeed CS CT)) (kN : PySem.W.keepIn K (.ref n) = true) (bN : Binds K nd ["stroke"] []) (mN : mg "need_stroke" = some (.ref n)) :
    FnOk P w K mg base CX0 10 f (PySem.W.fnOf "law" "law" (defArgs s_law) (defBody s_law) (defScope s_law) .none kV doc pm an (.ref c) ct) ["_law_script"] (spLawT K Pt) := by
  obtain ⟨oc', od', kV', doc', pm', an', cdv', ct', osl', rfl, lkR, hcR⟩ := GR.ex
  refine fn_of (k := 9) lkL hcL sc_law (fun vs H Q E h => ?_) (fun A outer s H vs Q E hr h => ?_)
  · obtain ⟨a, ns, rfl, _⟩ := h
    rfl
  obtain ⟨a, ns, rfl, hS, h63, hP, q⟩ := h
  suffices z : ∃ t, PSs (cxOf CX0 P w K mg base ["_law_script", "_law_bag_here", "_law_turn", "_law_some", "_law_k", "_law_stroke"] "law" (defScope s_law) f (.ref c) A outer s H E).nox (defBody s_law) t ∧ t { nx := fun _ H' => Q .non H', rt := Q } (L2.start ["_law_script", "_law_bag_here", "_law_turn", "_law_some", "_law_k", "_law_stroke"] [.ref a]) H by
    obtain ⟨t, z1, z2⟩ := z
    exact ⟨t, z1.nox, z2⟩
  refine ⟨_, (pss_cons (ps_set (i := 1) sc_law.nd rfl (Or.inr rfl) (pe_cal c_bag hr (pa_cons (pv 0) pa_nil)))
    (pss_cons (ps_for PassesOwn.never rfl (pi_range1 rfl B.range (pa_cons pe_int pa_nil)) (pg_name (i := 2) sc_law.nd rfl (Or.inl rfl))
    (pss_cons (ps_setLc (i := 3) (own := [("_law_k", 4)]) (g := gName 4) (tt := tYes) rfl sc_law.nd rfl rfl (sw_true rfl rfl rfl (by decide +kernel)) (pi_range1 rfl B.range (pa_cons pe_int pa_nil)) (blkOk_by (own := [("_law_k", 4)]) (N := ["_law_script", "_law_bag_here", "_law_turn", "_law_some", "_law_k", "_law_stroke"]) (sc := defScope s_law) (by decide +kernel)) (fun _ _ _ _ _ => pg_name (i := 4) sc_law.nd rfl (Or.inl rfl)) (fun _ _ _ _ _ => pts_nil) (fun _ _ _ _ _ => (pe_cal c_of hr (pa_cons (pv 1) (pa_cons (pe_lst (pa_cons (pe_un un_neg pe_int) (pa_cons (pe_un un_neg pe_int) (pa_cons pe_int (pa_cons pe_int (pa_cons (pe_op op_sub (pe_cal c_pull hr (pa_cons (pv 1) (pa_cons pe_int pa_nil))) pe_int) (pa_cons pe_int pa_nil))))))) pa_nil)))))
    (pss_cons (ps_set (i := 5) sc_law.nd rfl (Or.inr rfl) (pe_callTy call_tuple_of rfl B.tuple bt_tuple (pa_cons (pe_cal c_of hr (pa_cons (pv 1) (pa_cons (pe_lst (pa_cons (pv 3) (pa_cons (pv 3) (pa_cons (pe_op op_cat (pe_slice sl_list (pv 3) po_none (po_some pe_int)) (pe_slice sl_list (pv 3) po_none (po_some pe_int))) pa_nil)))) pa_nil))) pa_nil)))
    (pss_one (ps_if (pt_not (pt_val (pe_cal c_like hr (pa_cons (pe_lamS (T := [(Pt, qLam)]) (k := 6) (t := fun E => tCall (spNeed CS CT) [] E (tCons (tVar 5) tNil)) rfl mR GR.kp lkR hcR bR sc_refused rfl (Or.inl rfl) (refused_gives TS TT ss ts tt) TB rfl List.mem_cons_self (fun p hp _ => by cases List.mem_singleton.mp hp; rfl) (hr.mono (by decide)) (show LamS (defScope s_law) _ from lamS_by (by decide +kernel)) rfl (fun _ _ _ _ _ => rfl) (fun A' o' s' H' E' f' c' hr2 => pe_call GN hr2 rfl mN kN bN .nil (passes_call (takes_of rfl rfl rfl rfl) (fun _ _ _ _ h => h)) (pa_cons (pv 5) pa_nil))) (pa_cons (pe_cal c_stroke_word hr (pa_cons (pv 5) pa_nil)) pa_nil)))))
    (pss_one (ps_ret pe_bl))
    pss_nil)))))
    (pss_one (ps_ret (pe_cmpR op_isN (pe_call GN (hr.mono (by decide)) rfl mN kN bN .nil passL (pa_cons (pe_tup (pa_cons pe_int (pa_cons pe_int (pa_cons pe_int (pa_cons pe_int pa_nil))))) pa_nil)) pe_non (nomark _)))))), ?_⟩
  have hT0 : Tabs [(Pt, qLam)] H := fun p hp => by
    cases List.mem_singleton.mp hp
    exact TabS.nil hP
  refine ⟨_, rfl, a, ns, rfl, hS, h63, fun b l H1 sm1 nb nl hB => ?_⟩
  refine ⟨9, rfl, by decide, by decide, for_range (lo := 0) (n := (9 : Int).toNat) (fun _ σ H' => (∃ c2 c3 c4 c5, σ = [some (.ref a), some (.ref b), c2, c3, c4, c5]) ∧ BagAt H' b l ∧ Tabs [(Pt, qLam)] H') ⟨⟨_, _, _, _, rfl⟩, hB, tabs_keep hT0 (.of sm1)⟩ ?_ ?_⟩
  · rintro i σ H2 hi ⟨⟨c2, c3, c4, c5, rfl⟩, hB, hT⟩
    -- four numbers
    refine ⟨4, rfl, by decide, by decide, fun D hD => ?_⟩
    have hDn := hB.new hD
    have hDb : D ≠ b := hDn.1
    refine lc_range (lo := 0) (n := (4 : Int).toNat) (fun i H' => BagAt H' b l ∧ Tabs [(Pt, qLam)] H' ∧ ∃ ms : List Int, ms.length = i ∧ H' D = some (.lst (ms.map V.int)) ∧ ∀ m ∈ ms, -100 ≤ m ∧ m ≤ 100) ?_ ?_ ?_
    · exact ⟨hB.same (same_new hD _), tabs_keep hT (.of (same_new hD _)), [], rfl, upd_same, fun m hm => absurd hm (by simp)⟩
    · rintro i H3 hi ⟨hB3, hT3, ms, hms, hD3, hb3⟩
      refine ⟨rfl, lc_yes ?_⟩
      refine ⟨_, rfl, _, rfl, _, rfl, _, rfl, b, _, _, rfl, hB3, by decide, by decide, fun r H4 hB4 bt4 r0 r1 => ?_⟩
      refine ⟨_, _, rfl, rfl, ?_⟩
      refine ⟨sz (by decide : 6 ≤ 100000), fun p hp => ?_⟩
      have gp := same_new hp (.lst [.int (-41), .int (-40), .int 40, .int 41, .int (r - 40), .int 0])
      have hB5 := hB4.same gp
      refine ⟨b, _, p, _, rfl, hB5, upd_same, (hB4.new hp).1, by show 0 < 6; decide, by show 6 ≤ 1000; decide, fun v H6 hB6 bt6 hv => ?_⟩
      obtain ⟨n, rfl, n0, n1⟩ : ∃ n : Int, v = .int n ∧ -100 ≤ n ∧ n ≤ 100 := by
        simp only [List.mem_cons, List.not_mem_nil, or_false] at hv
        rcases hv with rfl | rfl | rfl | rfl | rfl | rfl <;> exact ⟨_, rfl, by omega, by omega⟩
      have hD6 : H6 D = some (.lst (ms.map V.int)) := bt6 _ _ hDb (gp _ _ (bt4 _ _ hDb hD3))
      have hT6 := tabs_keep hT3 ((KeepN.but hB3 bt4).trans ((KeepN.of gp).trans (KeepN.but hB5 bt6)))
      refine ⟨_, hD6, ?_, ?_, tabs_keep hT6 (KeepN.put hD6), ms ++ [n], ?_, ?_, ?_⟩
      · rw [List.length_map, hms]
        exact Nat.lt_of_lt_of_le (Nat.lt_trans hi (by decide : 4 < 100000)) (sz (Nat.le_refl _))
      · exact hB6.put hDn.1 hDn.2
      · rw [List.length_append, hms]; rfl
      · rw [upd_same, List.map_append]; rfl
      · intro m hm
        rcases List.mem_append.mp hm with z | z
        · exact hb3 m z
        · rw [List.mem_singleton.mp z]; exact ⟨n0, n1⟩
    · rintro H3 ⟨hB3, hT3, ms, hms, hD3, hb3⟩
      obtain ⟨m1, m2, m3, m4, rfl⟩ : ∃ m1 m2 m3 m4, ms = [m1, m2, m3, m4] := by
        match ms, hms with
        | [m1, m2, m3, m4], _ => exact ⟨m1, m2, m3, m4, rfl⟩
      have b1 := hb3 m1 (by simp)
      have b2 := hb3 m2 (by simp)
      have b3 := hb3 m3 (by simp)
      have b4 := hb3 m4 (by simp)
      refine ⟨_, rfl, _, rfl, _, rfl, _, rfl, _, rfl, D, _, rfl, SqL.of hD3, fun q1 n1 => ?_⟩
      have g1 := same_new n1 (.lst [.int m1, .int m2])
      refine ⟨_, rfl, _, rfl, D, _, rfl, SqL.of (g1 _ _ hD3), fun q2 n2 => ?_⟩
      have g2 := same_new n2 (.lst [.int m1, .int m2])
      refine ⟨q1, q2, [.int m1, .int m2], [.int m1, .int m2], rfl, rfl, g2 _ _ (new_at g1), new_at g2, sz (by decide : 4 ≤ 100000), fun q3 n3 => ?_⟩
      have g3 := same_new n3 (.lst [.int m1, .int m2, .int m1, .int m2])
      refine ⟨sz (by decide : 3 ≤ 100000), fun pl nl => ?_⟩
      have g4 := same_new nl (.lst [.ref D, .ref D, .ref q3])
      have gA := g1.trans (g2.trans (g3.trans g4))
      have hB4 := hB3.same gA
      refine ⟨b, _, pl, _, rfl, hB4, upd_same, ((hB3.same (g1.trans (g2.trans g3))).new nl).1, by show 0 < 3; decide, by show 3 ≤ 1000; decide, fun v H7 hB7 bt7 hv => ?_⟩
      have hT7 := tabs_keep hT3 ((KeepN.of gA).trans (KeepN.but hB4 bt7))
      have hq3 : q3 ≠ b := ((hB3.same (g1.trans g2)).new n3).1
      obtain ⟨pv, x1, y1, x2, y2, rfl, hv, bx⟩ : ∃ (pv : Addr) (x1 y1 x2 y2 : Int), v = .ref pv ∧ H7 pv = some (.lst [.int x1, .int y1, .int x2, .int y2]) ∧ (-1000 ≤ x1 ∧ x1 ≤ 1000 ∧ -1000 ≤ y1 ∧ y1 ≤ 1000 ∧ -1000 ≤ x2 ∧ x2 ≤ 1000 ∧ -1000 ≤ y2 ∧ y2 ≤ 1000) := by
        simp only [List.mem_cons, List.not_mem_nil, or_false] at hv
        rcases hv with rfl | rfl | rfl
        · exact ⟨_, m1, m2, m3, m4, rfl, bt7 _ _ hDb (gA _ _ hD3), by omega⟩
        · exact ⟨_, m1, m2, m3, m4, rfl, bt7 _ _ hDb (gA _ _ hD3), by omega⟩
        · exact ⟨_, m1, m2, m1, m2, rfl, bt7 _ _ hq3 (g4 _ _ (new_at g3)), by omega⟩
      refine ⟨pv, _, rfl, .inl ⟨SqL.of hv, fun ps nps => ?_⟩⟩
      have gs := same_new nps (.tup [.int x1, .int y1, .int x2, .int y2])
      have hps := new_at gs
      have hB8 := hB7.same gs
      have hT8 := tabs_keep hT7 (.of gs)
      dsimp only [gName]
      refine ⟨hT8, fun H9 ex9 hT9 => ?_⟩
      have hB9 := hB8.extN ex9
      have hp9 : H9 ps = some (.tup [.int x1, .int y1, .int x2, .int y2]) := ex9 _ _ hps (fun _ z => by cases z)
      refine tref_need rfl hp9 bx (fun v J sJ wJ => ?_)
      refine ⟨_, rfl, ps, x1, y1, x2, y2, rfl, sJ _ _ hp9, fun r J1 s1 w1 => ?_⟩
      refine ⟨_, _, rfl, (wJ.same s1).alike w1, fun J2 s2 => ⟨_, rfl, iteF ?_⟩⟩
      have sA := sJ.trans (s1.trans s2)
      exact ⟨⟨_, _, _, _, rfl⟩, hB9.same sA, tabs_keep hT9 (.of sA)⟩
  · rintro σ H2 ⟨⟨c2, c3, c4, c5, rfl⟩, hB, hT⟩
    refine ⟨sz (by decide : 4 ≤ 100000), fun p1 n1 => ?_⟩
    have w0 : word5 0 0 0 1 = .fine := by rfl
    refine ⟨p1, 0, 0, 0, 1, rfl, upd_same, by decide, fun a' b' hw => absurd (w0.symm.trans hw) (by intro z; cases z), fun hw => absurd (w0.symm.trans hw) (by intro z; cases z), fun _ J sJ => ⟨rfl, q _⟩⟩
end
end DM

namespace DM
open PySem L2
def spEnds : Sp := fun vs H Q _ => ∃ (p : Addr) (x1 y1 x2 y2 : Int), vs = [.ref p] ∧ H p = some (.tup [.int x1, .int y1, .int x2, .int y2]) ∧ ∀ (r e0 e1 : Addr) (H' : Hp), Same H H' → H' r = some (.tup [.ref e0, .ref e1]) → H' e0 = some (.tup [.int x1, .int y1]) → H' e1 = some (.tup [.int x2, .int y2]) → Q (.ref r) H'
section
variable {P : Program} {w : World} {K : PySem.W.Frag} {mg : Str → Option Value} {base : Heap} {f : Addr} {fd : FuncData}
abbrev s_ends_of : Stmt := top 9
theorem sc_ends_of : FnScope ["stroke", "x1", "y1", "x2", "y2"] ["stroke"] (defScope s_ends_of) := ⟨rfl, rfl, rfl, by decide +kernel, rfl, by decide +kernel, by decide +kernel⟩
theorem ok_ends_of (F : Fun K "ends_of" "ends_of" s_ends_of f fd) : FnOk P w K mg base CX0 1 f fd ["stroke"] spEnds := by
  refine F.ok sc_ends_of (fun vs H Q E h => ?_) (fun cdv A outer s H vs Q E hr h => ?_)
  · obtain ⟨p, x1, y1, x2, y2, rfl, _⟩ := h
    rfl
  obtain ⟨p, x1, y1, x2, y2, rfl, hp, q⟩ := h
  refine ⟨_, (pss_cons (ps_asg (pv 0) (pg_tup rfl (pgs_cons (pg_name (i := 1) sc_ends_of.nd rfl (Or.inl rfl)) (pgs_cons (pg_name (i := 2) sc_ends_of.nd rfl (Or.inl rfl)) (pgs_cons (pg_name (i := 3) sc_ends_of.nd rfl (Or.inl rfl)) (pgs_cons (pg_name (i := 4) sc_ends_of.nd rfl (Or.inl rfl)) pgs_nil))))))
    (pss_one (ps_ret (pe_tup (pa_cons (pe_tup (pa_cons (pv 1) (pa_cons (pv 2) pa_nil))) (pa_cons (pe_tup (pa_cons (pv 3) (pa_cons (pv 4) pa_nil))) pa_nil)))))), ?_⟩
  refine ⟨_, rfl, p, _, rfl, SqT.of hp, rfl, _, _, rfl, _, _, rfl, _, _, rfl, _, _, rfl, rfl, ?_⟩
  refine ⟨_, rfl, _, rfl, sz (by decide : 2 ≤ 100000), fun e0 n0 => ⟨_, rfl, _, rfl, sz (by decide : 2 ≤ 100000), fun e1 n1 => ⟨sz (by decide : 2 ≤ 100000), fun r nr => ?_⟩⟩⟩
  exact q r e0 e1 _ ((same_new n0 _).trans ((same_new n1 _).trans (same_new nr _))) upd_same (same_new nr _ _ _ (same_new n1 _ _ _ upd_same)) (same_new nr _ _ _ upd_same)
end
end DM

namespace DM
open PySem L2 LamX
/-- what a raised error leaves -/
theorem raised_same {H : Hp} {e dx : Addr} {o1 o2 o3 o4 o5 : HO} (ne : H e = none) (nd : H dx = none) : Same H (upd (del (upd (upd (upd (upd H e o1) dx o2) e o3) dx o4) e) dx o5) := fun c o hc => by
  have c1 : c ≠ dx := ne_of_none hc nd
  have c2 : c ≠ e := ne_of_none hc ne
  rw [upd_ne c1, del_ne c2, upd_ne c1, upd_ne c2, upd_ne c1, upd_ne c2]
  exact hc
theorem log_small {x : Int} (h1 : -1000 ≤ x) (h2 : x ≤ 1000) : x.natAbs.log2 < 1920 := by
  have := Nat.log2_le_self x.natAbs
  omega
section
variable {P : Program} {w : World} {K : PySem.W.Frag} {mg : Str → Option Value} {base : Heap} {f : Addr} {fd : FuncData} {CS CT D fS fT fD : Addr}
abbrev s_need_stroke : Stmt := top 8
theorem sc_need_stroke : FnScope ["stroke", "first", "second"] ["stroke"] (defScope s_need_stroke) := ⟨rfl, rfl, rfl, by decide +kernel, rfl, by decide +kernel, by decide +kernel⟩
theorem ok_need_stroke (TS : ErrF K mg "BadSpot" "spot" CS D fS fD) (TT : ErrF K mg "BadStroke" "stroke" CT D fT fD) (c_is_spot : Cal P w K mg base 1 "is_spot" ["spot"] (spIs K)) (c_ends_of : Cal P w K mg base 1 "ends_of" ["stroke"] spEnds)
    {gs gt : FuncData} (GS : FnOk P w K mg base CX0 2 fS gs ["self", "spot"] (spIn CS "BadSpot" "spot")) (bS : Binds K gs ["self", "spot"] []) (GT : FnOk P w K mg base CX0 2 fT gt ["self", "stroke"] (spIn CT "BadStroke" "stroke")) (bT : Binds K gt ["self", "stroke"] [])
    (F : Fun K "need_stroke" "need_stroke" s_need_stroke f fd) : FnOk P w K mg base (L2.CX P w) 6 f fd ["stroke"] (spNeed CS CT) := by
  refine F.okX sc_need_stroke (fun vs H Q E h => ?_) (fun cdv A outer s H vs Q E hr h => ?_)
  · obtain ⟨p, x1, y1, x2, y2, rfl, _⟩ := h
    rfl
  obtain ⟨p, x1, y1, x2, y2, rfl, hp, bx, qS, qT, qF⟩ := h
  refine ⟨_, pss_cons (ps_asg (pe_cal c_ends_of hr (pa_cons (pv 0) pa_nil)) (pg_tup rfl (pgs_cons (pg_name (i := 1) sc_need_stroke.nd rfl (Or.inl rfl)) (pgs_cons (pg_name (i := 2) sc_need_stroke.nd rfl (Or.inl rfl)) pgs_nil))))
    (pss_cons (ps_if (pt_not (pt_val (pe_cal c_is_spot hr (pa_cons (pv 1) pa_nil)))) (pss_one (ps_raise rfl (takes_of rfl rfl rfl rfl) (pmk_oex TS.oex TS.iC TS.tI GS (hr.mono (by decide)) bS .nil pass0 rfl TS.gC (pa_cons (pv 1) pa_nil)))) pss_nil)
    (pss_cons (ps_if (pt_not (pt_val (pe_cal c_is_spot hr (pa_cons (pv 2) pa_nil)))) (pss_one (ps_raise rfl (takes_of rfl rfl rfl rfl) (pmk_oex TS.oex TS.iC TS.tI GS (hr.mono (by decide)) bS .nil pass0 rfl TS.gC (pa_cons (pv 2) pa_nil)))) pss_nil)
    (pss_one (ps_if (pt_cmpR (op_eqD hr.units) (pv 1) (pv 2) (nomark _)) (pss_one (ps_raise rfl (takes_of rfl rfl rfl rfl) (pmk_oex TT.oex TT.iC TT.tI GT (hr.mono (by decide)) bT .nil pass0 rfl TT.gC (pa_cons (pv 0) pa_nil)))) pss_nil)))), ?_⟩
  unfold word5 at qS qT qF
  refine ⟨_, rfl, p, x1, y1, x2, y2, rfl, hp, fun r e0 e1 H1 s1 h1 k0 k1 => ⟨r, _, rfl, SqT.of h1, rfl, _, _, rfl, _, _, rfl, rfl, ?_⟩⟩
  have kp := s1 _ _ hp
  have bad : ∀ (px : Addr) (a b : Int), H1 px = some (.tup [.int a, .int b]) → (-1000 ≤ a ∧ a ≤ 1000 ∧ -1000 ≤ b ∧ b ≤ 1000) → (if inside x1 y1 = true then if inside x2 y2 = true then if x1 = x2 ∧ y1 = y2 then Wrd.stroke else Wrd.fine else Wrd.spot x2 y2 else Wrd.spot x1 y1) = .spot a b →
      ∀ e, H1 e = none → ∀ dx, upd H1 e (exo e CS none) dx = none → dx ≠ e → E (.ref CS) (some dx) (upd (del (upd (upd (upd (upd H1 e (exo e CS none)) dx (exd dx [("word", .str "BadSpot")])) e (exo e CS (some dx))) dx (exd dx [("spot", .ref px), ("word", .str "BadSpot")])) e) dx (.xd [("spot", .ref px), ("word", .str "BadSpot")])) := by
    intro px a b ex _ hw e ne dx nd hde
    have nd' : H1 dx = none := by rw [upd_ne hde] at nd; exact nd
    have sm := raised_same (o1 := exo e CS none) (o2 := exd dx [("word", .str "BadSpot")]) (o3 := exo e CS (some dx)) (o4 := exd dx [("spot", .ref px), ("word", .str "BadSpot")]) (o5 := .xd [("spot", .ref px), ("word", .str "BadSpot")]) ne nd'
    exact qS a b hw dx px _ (s1.trans sm) upd_same (sm _ _ ex)
  refine ⟨_, rfl, e0, x1, y1, rfl, SqT.of k0, _, rfl, ?_⟩
  by_cases i1 : inside x1 y1 = true
  · rw [i1]
    refine iteF ?_
    refine ⟨_, rfl, e1, x2, y2, rfl, SqT.of k1, _, rfl, ?_⟩
    by_cases i2 : inside x2 y2 = true
    · rw [i2]
      refine iteF ?_
      rw [if_pos i1, if_pos i2] at qT qF
      refine ⟨_, rfl, _, rfl, .tuple [.int x1, .int y1], .tuple [.int x2, .int y2], dp_pair k0, dp_pair k1, shaped_pair _ _, shaped_pair _ _, _, rfl, ?_⟩
      rw [eqv_pair]
      by_cases c : x1 = x2 ∧ y1 = y2
      · refine iteDT c ?_
        rw [if_pos c] at qT
        refine ⟨_, rfl, by show 1 ≤ 1000; decide, fun e ne => ?_⟩
        have pe : p ≠ e := ne_of_none kp ne
        refine ⟨e, p, [x1, y1, x2, y2], rfl, upd_same, by rw [upd_ne pe]; exact kp, ?_, by show 4 ≤ 100; decide, fun dx nd hde => ?_⟩
        · intro i hi
          simp only [List.mem_cons, List.not_mem_nil, or_false] at hi
          rcases hi with rfl | rfl | rfl | rfl <;> exact log_small (by omega) (by omega)
        · have nd' := nd
          rw [upd_ne hde] at nd'
          refine ⟨rfl, dx, _, by rw [upd_ne (Ne.symm hde)]; exact upd_same, upd_same, nd', ?_⟩
          have sm := raised_same (o1 := exo e CT none) (o2 := exd dx [("word", .str "BadStroke")]) (o3 := exo e CT (some dx)) (o4 := exd dx [("stroke", .ref p), ("word", .str "BadStroke")]) (o5 := .xd [("stroke", .ref p), ("word", .str "BadStroke")]) ne nd'
          exact qT rfl dx p _ (s1.trans sm) upd_same (sm _ _ kp)
      · refine iteDF c ?_
        rw [if_neg c] at qF
        exact qF rfl _ s1
    · rw [Bool.not_eq_true] at i2
      rw [i2]
      refine iteT ?_
      refine ⟨_, rfl, by show 1 ≤ 1000; decide, fun e ne => ?_⟩
      have pe : e1 ≠ e := ne_of_none k1 ne
      refine ⟨e, e1, [x2, y2], rfl, upd_same, by rw [upd_ne pe]; exact k1, ?_, by show 2 ≤ 100; decide, fun dx nd hde => ?_⟩
      · intro i hi
        simp only [List.mem_cons, List.not_mem_nil, or_false] at hi
        rcases hi with rfl | rfl <;> exact log_small (by omega) (by omega)
      · have nd' : H1 dx = none := by rw [upd_ne hde] at nd; exact nd
        refine ⟨rfl, dx, _, by rw [upd_ne (Ne.symm hde)]; exact upd_same, upd_same, nd', ?_⟩
        exact bad e1 x2 y2 k1 (by omega) (by rw [if_pos i1, if_neg (by rw [i2]; decide)]) e ne dx nd hde
  · rw [Bool.not_eq_true] at i1
    rw [i1]
    refine iteT ?_
    refine ⟨_, rfl, by show 1 ≤ 1000; decide, fun e ne => ?_⟩
    have pe : e0 ≠ e := ne_of_none k0 ne
    refine ⟨e, e0, [x1, y1], rfl, upd_same, by rw [upd_ne pe]; exact k0, ?_, by show 2 ≤ 100; decide, fun dx nd hde => ?_⟩
    · intro i hi
      simp only [List.mem_cons, List.not_mem_nil, or_false] at hi
      rcases hi with rfl | rfl <;> exact log_small (by omega) (by omega)
    · have nd' : H1 dx = none := by rw [upd_ne hde] at nd; exact nd
      refine ⟨rfl, dx, _, by rw [upd_ne (Ne.symm hde)]; exact upd_same, upd_same, nd', ?_⟩
      exact bad e0 x1 y1 k0 (by omega) (by rw [if_neg (by rw [i1]; decide)]) e ne dx nd hde
end
end DM

namespace DM
open PySem L2 LamX
theorem all_mk {l : PySem.W.OpenLaw} {w : World} {K : PySem.W.Frag} {h : Heap} {mg : Str → Option Value} {fa f1 f2 f3 f4 f5 f6 f7 f8 f9 f10 : Addr} (X : K.In h) (G : h.Ns mainGlobals mg) (hfa : mg "law" = some (.ref fa))
    {od1 an1 od2 an2 od3 an3 od4 an4 od5 an5 od6 an6 od7 an7 od8 an8 od9 an9 od10 an10 : Option Addr} {sl1 sl2 sl3 sl4 sl5 sl6 sl7 sl8 sl9 sl10 : Array (Option Value)} {oc1 kV1 dc1 pm1 cd1 ct1 oc2 kV2 dc2 pm2 cd2 ct2 oc3 kV3 dc3 pm3 cd3 ct3 oc4 kV4 dc4 pm4 cd4 ct4 oc5 kV5 dc5 pm5 cd5 ct5 oc6 kV6 dc6 pm6 cd6 ct6 oc7 kV7 dc7 pm7 cd7 ct7 oc8 kV8 dc8 pm8 cd8 ct8 oc9 kV9 dc9 pm9 cd9 ct9 oc10 kV10 dc10 pm10 ct10 : Value} {tk_FAR : Tok}
    {cL PL : Addr} {eL : Value} {ddL : Option Addr} {vsL : Array Value} {slL : Array (Option Value)}
    {cD fD TD : Addr} {cS fS NS : Addr} {nmS qS : Str} {bsS sbS : List Value} {snS : List Str} {abS : Bool} {coS : Option Bool} {ddS odS anS : Option Addr} {j0S j1S j2S j3S j5S : Option Value} {ocS kVS dcS pmS cvS ctS : Value} {slS : Array (Option Value)} {cT fT NT : Addr} {nmT qT : Str} {bsT sbT : List Value} {snT : List Str} {abT : Bool} {coT : Option Bool} {ddT odT anT : Option Addr} {j0T j1T j2T j3T j5T : Option Value} {ocT kVT dcT pmT cvT ctT : Value} {slT : Array (Option Value)} {odD anD odW : Option Addr} {ocD kVD dcD pmD cvD ctD ocW : Value} {slD slW : Array (Option Value)} {nTW : Nat} {tk1 tk2 : Tok}
    (a1 : PySem.W.nsIn K mainGlobals "is_spot" = some (some (.ref f1))) (l1 : K.lookup f1 = some ⟨oc1, od1, .func (PySem.W.fnOf "is_spot" "is_spot" (defArgs s_is_spot) (defBody s_is_spot) (defScope s_is_spot) .none kV1 dc1 pm1 an1 cd1 ct1), sl1⟩) (c1 : PySem.W.codeIn K cd1 "is_spot" = true) (k1 : PySem.W.keepIn K (.ref f1) = true)
    (a2 : PySem.W.nsIn K mainGlobals "need_stroke" = some (some (.ref f2))) (l2 : K.lookup f2 = some ⟨oc2, od2, .func (PySem.W.fnOf "need_stroke" "need_stroke" (defArgs s_need_stroke) (defBody s_need_stroke) (defScope s_need_stroke) .none kV2 dc2 pm2 an2 cd2 ct2), sl2⟩) (c2 : PySem.W.codeIn K cd2 "need_stroke" = true) (k2 : PySem.W.keepIn K (.ref f2) = true)
    (a3 : PySem.W.nsIn K mainGlobals "ends_of" = some (some (.ref f3))) (l3 : K.lookup f3 = some ⟨oc3, od3, .func (PySem.W.fnOf "ends_of" "ends_of" (defArgs s_ends_of) (defBody s_ends_of) (defScope s_ends_of) .none kV3 dc3 pm3 an3 cd3 ct3), sl3⟩) (c3 : PySem.W.codeIn K cd3 "ends_of" = true) (k3 : PySem.W.keepIn K (.ref f3) = true)
    (a4 : PySem.W.nsIn K mainGlobals "_law_bag" = some (some (.ref f4))) (l4 : K.lookup f4 = some ⟨oc4, od4, .func (PySem.W.fnOf "_law_bag" "_law_bag" (defArgs s_bag) (defBody s_bag) (defScope s_bag) .none kV4 dc4 pm4 an4 cd4 ct4), sl4⟩) (c4 : PySem.W.codeIn K cd4 "_law_bag" = true) (k4 : PySem.W.keepIn K (.ref f4) = true)
    (a5 : PySem.W.nsIn K mainGlobals "_law_pull" = some (some (.ref f5))) (l5 : K.lookup f5 = some ⟨oc5, od5, .func (PySem.W.fnOf "_law_pull" "_law_pull" (defArgs s_pull) (defBody s_pull) (defScope s_pull) .none kV5 dc5 pm5 an5 cd5 ct5), sl5⟩) (c5 : PySem.W.codeIn K cd5 "_law_pull" = true) (k5 : PySem.W.keepIn K (.ref f5) = true)
    (a6 : PySem.W.nsIn K mainGlobals "_law_of" = some (some (.ref f6))) (l6 : K.lookup f6 = some ⟨oc6, od6, .func (PySem.W.fnOf "_law_of" "_law_of" (defArgs s_of) (defBody s_of) (defScope s_of) .none kV6 dc6 pm6 an6 cd6 ct6), sl6⟩) (c6 : PySem.W.codeIn K cd6 "_law_of" = true) (k6 : PySem.W.keepIn K (.ref f6) = true)
    (a7 : PySem.W.nsIn K mainGlobals "_law_like" = some (some (.ref f7))) (l7 : K.lookup f7 = some ⟨oc7, od7, .func (PySem.W.fnOf "_law_like" "_law_like" (defArgs s_like) (defBody s_like) (defScope s_like) .none kV7 dc7 pm7 an7 cd7 ct7), sl7⟩) (c7 : PySem.W.codeIn K cd7 "_law_like" = true) (k7 : PySem.W.keepIn K (.ref f7) = true)
    (a8 : PySem.W.nsIn K mainGlobals "_law_refused" = some (some (.ref f8))) (l8 : K.lookup f8 = some ⟨oc8, od8, .func (PySem.W.fnOf "_law_refused" "_law_refused" (defArgs s_refused) (defBody s_refused) (defScope s_refused) .none kV8 dc8 pm8 an8 cd8 ct8), sl8⟩) (c8 : PySem.W.codeIn K cd8 "_law_refused" = true) (k8 : PySem.W.keepIn K (.ref f8) = true)
    (a9 : PySem.W.nsIn K mainGlobals "_law_stroke_word" = some (some (.ref f9))) (l9 : K.lookup f9 = some ⟨oc9, od9, .func (PySem.W.fnOf "_law_stroke_word" "_law_stroke_word" (defArgs s_stroke_word) (defBody s_stroke_word) (defScope s_stroke_word) .none kV9 dc9 pm9 an9 cd9 ct9), sl9⟩) (c9 : PySem.W.codeIn K cd9 "_law_stroke_word" = true) (k9 : PySem.W.keepIn K (.ref f9) = true)
    (a10 : PySem.W.nsIn K mainGlobals "law" = some (some (.ref f10))) (l10 : K.lookup f10 = some ⟨oc10, od10, .func (PySem.W.fnOf "law" "law" (defArgs s_law) (defBody s_law) (defScope s_law) .none kV10 dc10 pm10 an10 (.ref cL) ct10), sl10⟩) (c10 : PySem.W.codeIn K (.ref cL) "law" = true) (k10 : PySem.W.keepIn K (.ref f10) = true)
    (aD : PySem.W.nsIn K mainGlobals "DotError" = some (some (.ref cD)))
    (aS : PySem.W.nsIn K mainGlobals "BadSpot" = some (some (.ref cS)))
    (xS : K.lookup cS = some (excClassObj nmS qS cS NS bsS [.ref cD, .type "ValueError", .type "Exception", .type "BaseException", .type "object"] true snS sbS abS coS ddS j0S j1S j2S j3S j5S "ValueError.__new__"))
    (saS : PySem.W.findIn K (.ref cS) "__setattr__" = some (some (.builtin "object.__setattr__")))
    (eS : PySem.W.subIn K (.ref cS) (.type "BaseException") = some true)
    (tyS : PySem.W.typeIn K (.ref cS) = some (.type "type"))
    (kcS : PySem.W.keepIn K (.ref cS) = true)
    (iS : PySem.W.findIn K (.ref cS) "__init__" = some (some (.ref fS)))
    (tiS : PySem.W.typeIn K (.ref fS) = some (.type "function"))
    (lfS : K.lookup fS = some ⟨ocS, odS, .func (PySem.W.fnOf "__init__" "BadSpot.__init__" (defArgs s_bs) (defBody s_bs) (defScope s_bs) .none kVS dcS pmS anS cvS ctS), slS⟩)
    (cdS : PySem.W.codeIn K cvS "BadSpot.__init__" = true)
    (kfS : PySem.W.keepIn K (.ref fS) = true)
    (nWS : PySem.W.findIn K (.ref cS) "word" = some none)
    (nFS : PySem.W.findIn K (.ref cS) "spot" = some none)
    (gaS : PySem.W.findIn K (.ref cS) "__getattribute__" = some (some (.builtin "BaseException.__getattribute__")))
    (ggS : PySem.W.findIn K (.ref cS) "__getattr__" = some none)
    (hdS : PySem.W.hasDictIn K cS = true)
    (clS : PySem.W.isClsIn K cS = true)
    (aT : PySem.W.nsIn K mainGlobals "BadStroke" = some (some (.ref cT)))
    (xT : K.lookup cT = some (excClassObj nmT qT cT NT bsT [.ref cD, .type "ValueError", .type "Exception", .type "BaseException", .type "object"] true snT sbT abT coT ddT j0T j1T j2T j3T j5T "ValueError.__new__"))
    (saT : PySem.W.findIn K (.ref cT) "__setattr__" = some (some (.builtin "object.__setattr__")))
    (eT : PySem.W.subIn K (.ref cT) (.type "BaseException") = some true)
    (tyT : PySem.W.typeIn K (.ref cT) = some (.type "type"))
    (kcT : PySem.W.keepIn K (.ref cT) = true)
    (iT : PySem.W.findIn K (.ref cT) "__init__" = some (some (.ref fT)))
    (tiT : PySem.W.typeIn K (.ref fT) = some (.type "function"))
    (lfT : K.lookup fT = some ⟨ocT, odT, .func (PySem.W.fnOf "__init__" "BadStroke.__init__" (defArgs s_bt) (defBody s_bt) (defScope s_bt) .none kVT dcT pmT anT cvT ctT), slT⟩)
    (cdT : PySem.W.codeIn K cvT "BadStroke.__init__" = true)
    (kfT : PySem.W.keepIn K (.ref fT) = true)
    (nWT : PySem.W.findIn K (.ref cT) "word" = some none)
    (nFT : PySem.W.findIn K (.ref cT) "stroke" = some none)
    (gaT : PySem.W.findIn K (.ref cT) "__getattribute__" = some (some (.builtin "BaseException.__getattribute__")))
    (ggT : PySem.W.findIn K (.ref cT) "__getattr__" = some none)
    (hdT : PySem.W.hasDictIn K cT = true)
    (clT : PySem.W.isClsIn K cT = true)
    (fcD : PySem.W.findCls K (.ref cD) (.type "type") "__init__" = some (.val (.ref fD)))
    (lD : K.lookup fD = some ⟨ocD, odD, .func (PySem.W.fnOf "__init__" "DotError.__init__" (defArgs s_de) (defBody s_de) (defScope s_de) (.ref TD) kVD dcD pmD anD cvD ctD), slD⟩)
    (cdD : PySem.W.codeIn K cvD "DotError.__init__" = true)
    (kfD : PySem.W.keepIn K (.ref fD) = true)
    (tD : K.lookup TD = some ⟨ocW, odW, .seq (List.toArray [.str "DotError" tk1, .str "refused" tk2]) nTW, slW⟩)
    (rdD : PySem.W.readsIn K cD (.type "type") = true)
    (gaD : PySem.W.specialIn K (.ref cD) "__getattribute__" = some (some (.builtin "type.__getattribute__")))
    (vV : PySem.W.findCls K (.type "ValueError") (.type "type") "__init__" = some (.val (.builtin "ValueError.__init__")))
    (suSS : PySem.W.subIn K (.ref cS) (.ref cS) = some true)
    (suTS : PySem.W.subIn K (.ref cT) (.ref cS) = some false)
    (suTT : PySem.W.subIn K (.ref cT) (.ref cT) = some true)
    (zV : PySem.W.nsIn K mainGlobals "ValueError" = some none)
    (z_len : PySem.W.nsIn K mainGlobals "len" = some none)
    (z_isinstance : PySem.W.nsIn K mainGlobals "isinstance" = some none)
    (z_all : PySem.W.nsIn K mainGlobals "all" = some none)
    (z_list : PySem.W.nsIn K mainGlobals "list" = some none)
    (z_tuple : PySem.W.nsIn K mainGlobals "tuple" = some none)
    (z_dict : PySem.W.nsIn K mainGlobals "dict" = some none)
    (z_bool : PySem.W.nsIn K mainGlobals "bool" = some none)
    (z_range : PySem.W.nsIn K mainGlobals "range" = some none)
    (z_abs : PySem.W.nsIn K mainGlobals "abs" = some none)
    (z_any : PySem.W.nsIn K mainGlobals "any" = some none)
    (z_sorted : PySem.W.nsIn K mainGlobals "sorted" = some none)
    (z_int : PySem.W.nsIn K mainGlobals "int" = some none)
    (z_max : PySem.W.nsIn K mainGlobals "max" = some none)
    (z_min : PySem.W.nsIn K mainGlobals "min" = some none)
    (n_FAR : PySem.W.nsIn K mainGlobals "FAR" = some (some (.int 40 tk_FAR)))
    (tC : K.lookup cL = some ⟨eL, ddL, .fields vsL, slL⟩) (tP : vsL[11]? = some (.ref PL)) (tN : K.lookup PL = none) (tH : PySem.W.codeHdIn K cL PL = true)
    (own : LamX.OwnTab K fa h) : LamX.LawAtS l w K CX0 10 63 "_law_script" mg fa h := by
  have e := hfa.symm.trans (PySem.W.mg_of X G a10)
  cases e
  have F_is_spot := fun_mk (st := s_is_spot) l1 c1 k1
  have b_is_spot := F_is_spot.binds (ps := ["spot"]) fun _ _ _ _ _ _ us hl => match us, hl with | [_], _ => rfl
  have m_is_spot := PySem.W.mg_of X G a1
  have F_need_stroke := fun_mk (st := s_need_stroke) l2 c2 k2
  have b_need_stroke := F_need_stroke.binds (ps := ["stroke"]) fun _ _ _ _ _ _ us hl => match us, hl with | [_], _ => rfl
  have m_need_stroke := PySem.W.mg_of X G a2
  have F_ends_of := fun_mk (st := s_ends_of) l3 c3 k3
  have b_ends_of := F_ends_of.binds (ps := ["stroke"]) fun _ _ _ _ _ _ us hl => match us, hl with | [_], _ => rfl
  have m_ends_of := PySem.W.mg_of X G a3
  have F_bag := fun_mk (st := s_bag) l4 c4 k4
  have b_bag := F_bag.binds (ps := ["_law_script"]) fun _ _ _ _ _ _ us hl => match us, hl with | [_], _ => rfl
  have m_bag := PySem.W.mg_of X G a4
  have F_pull := fun_mk (st := s_pull) l5 c5 k5
  have b_pull := F_pull.binds (ps := ["_law_bag_here", "_law_amount"]) fun _ _ _ _ _ _ us hl => match us, hl with | [_, _], _ => rfl
  have m_pull := PySem.W.mg_of X G a5
  have F_of := fun_mk (st := s_of) l6 c6 k6
  have b_of := F_of.binds (ps := ["_law_bag_here", "_law_things"]) fun _ _ _ _ _ _ us hl => match us, hl with | [_, _], _ => rfl
  have m_of := PySem.W.mg_of X G a6
  have F_like := fun_mk (st := s_like) l7 c7 k7
  have b_like := F_like.binds (ps := ["_law_found", "_law_due"]) fun _ _ _ _ _ _ us hl => match us, hl with | [_, _], _ => rfl
  have m_like := PySem.W.mg_of X G a7
  have F_refused := fun_mk (st := s_refused) l8 c8 k8
  have b_refused := F_refused.binds (ps := ["_law_act"]) fun _ _ _ _ _ _ us hl => match us, hl with | [_], _ => rfl
  have m_refused := PySem.W.mg_of X G a8
  have F_stroke_word := fun_mk (st := s_stroke_word) l9 c9 k9
  have b_stroke_word := F_stroke_word.binds (ps := ["_law_stroke"]) fun _ _ _ _ _ _ us hl => match us, hl with | [_], _ => rfl
  have m_stroke_word := PySem.W.mg_of X G a9
  have F_law := fun_mk (st := s_law) l10 c10 k10
  have b_law := F_law.binds (ps := ["_law_script"]) fun _ _ _ _ _ _ us hl => match us, hl with | [_], _ => rfl
  have m_law := PySem.W.mg_of X G a10
  have B : Blt mg := ⟨PySem.W.mg_none_of X G z_len, PySem.W.mg_none_of X G z_isinstance, PySem.W.mg_none_of X G z_all, PySem.W.mg_none_of X G z_list, PySem.W.mg_none_of X G z_tuple, PySem.W.mg_none_of X G z_dict, PySem.W.mg_none_of X G z_bool, PySem.W.mg_none_of X G z_range, PySem.W.mg_none_of X G z_abs, PySem.W.mg_none_of X G z_any, PySem.W.mg_none_of X G z_sorted, PySem.W.mg_none_of X G z_int, PySem.W.mg_none_of X G z_max, PySem.W.mg_none_of X G z_min⟩
  have c_FAR := PySem.W.mg_of X G n_FAR
  refine ⟨PySem.W.fnOf "law" "law" (defArgs s_law) (defBody s_law) (defScope s_law) .none kV10 dc10 pm10 an10 (.ref cL) ct10, [(cL, PL)], spLawT K PL, (fun p hp => ?_), (fun p hp => by cases List.mem_singleton.mp hp; exact tN), (fun p hp => by cases List.mem_singleton.mp hp; exact PySem.W.codeHd_of_K X tH), fun s v => .of_eq rfl, (fun H a ns hl _ hT hS => ⟨a, ns, rfl, hS, hl, hT _ List.mem_cons_self, fun _ => rfl⟩), fun base _ _ hTB => ?_⟩
  · cases List.mem_singleton.mp hp
    exact own cL PL _ _ _ _ _ _ l10 rfl rfl tC tP
  have TB := hTB _ List.mem_cons_self
  have hSS : PySem.W.exmOne K (.ref cS) (.ref cS) = some true := by
    have z1 : (PySem.W.subIn K (.ref cS) (.type "BaseException") == some true) = true := by rw [eS]; rfl
    have z2 : ((PySem.W.clsIn K cS).isSome && PySem.W.typeIn K (.ref cS) == some (.type "type")) = true := by
      rw [show (PySem.W.clsIn K cS).isSome = true from clS, tyS]; rfl
    unfold PySem.W.exmOne
    rw [if_pos z1]
    exact (if_pos z2).trans suSS
  have hTS : PySem.W.exmOne K (.ref cT) (.ref cS) = some false := by
    have z1 : (PySem.W.subIn K (.ref cS) (.type "BaseException") == some true) = true := by rw [eS]; rfl
    have z2 : ((PySem.W.clsIn K cS).isSome && PySem.W.typeIn K (.ref cS) == some (.type "type")) = true := by
      rw [show (PySem.W.clsIn K cS).isSome = true from clS, tyS]; rfl
    unfold PySem.W.exmOne
    rw [if_pos z1]
    exact (if_pos z2).trans suTS
  have hTT : PySem.W.exmOne K (.ref cT) (.ref cT) = some true := by
    have z1 : (PySem.W.subIn K (.ref cT) (.type "BaseException") == some true) = true := by rw [eT]; rfl
    have z2 : ((PySem.W.clsIn K cT).isSome && PySem.W.typeIn K (.ref cT) == some (.type "type")) = true := by
      rw [show (PySem.W.clsIn K cT).isSome = true from clT, tyT]; rfl
    unfold PySem.W.exmOne
    rw [if_pos z1]
    exact (if_pos z2).trans suTT
  have TS : ErrF K mg "BadSpot" "spot" cS cD fS fD := { gC := PySem.W.mg_of X G aS, gD := PySem.W.mg_of X G aD, oex := ⟨⟨_, _, _, _, _, _, _, _, _, _, _, _, _, _, _, xS, by rfl⟩, saS, eS, tyS, kcS⟩, iC := iS, tI := tiS, rd := ⟨rdD, gaD⟩, fc := fcD, vV := vV, noW := nWS, noF := nFS, xf := ⟨gaS, ggS, eS, hdS⟩, nV := PySem.W.mg_none_of X G zV }
  have TT : ErrF K mg "BadStroke" "stroke" cT cD fT fD := { gC := PySem.W.mg_of X G aT, gD := PySem.W.mg_of X G aD, oex := ⟨⟨_, _, _, _, _, _, _, _, _, _, _, _, _, _, _, xT, by rfl⟩, saT, eT, tyT, kcT⟩, iC := iT, tI := tiT, rd := ⟨rdD, gaD⟩, fc := fcD, vV := vV, noW := nWT, noF := nFT, xf := ⟨gaT, ggT, eT, hdT⟩, nV := PySem.W.mg_none_of X G zV }
  have F_bs := fun_mk (st := s_bs) lfS cdS kfS
  have b_bs := F_bs.binds (ps := ["self", "spot"]) fun _ _ _ _ _ _ us hl => match us, hl with | [_, _], _ => rfl
  have F_bt := fun_mk (st := s_bt) lfT cdT kfT
  have b_bt := F_bt.binds (ps := ["self", "stroke"]) fun _ _ _ _ _ _ us hl => match us, hl with | [_, _], _ => rfl
  have F_de : FunD K "__init__" "DotError.__init__" (defArgs s_de) (defBody s_de) (defScope s_de) [.str "DotError", .str "refused"] [] fD _ := ⟨⟨_, _, _, _, _, _, _, _, _, _, rfl, lD, cdD, .inr ⟨by decide, _, _, _, _, rfl, tD, rfl, .cons ⟨_, rfl⟩ (.cons ⟨_, rfl⟩ .nil)⟩, .inl rfl⟩, kfD⟩
  obtain ⟨dsE, vE, bbE⟩ := F_de.binds1 (ps := ["self", "word", "message"]) 3 2 (by decide) rfl fun _ _ _ _ _ _ _ us its hl hi => match us, its, hl, hi with | [_, _, _], [_, _], _, _ => ⟨_, rfl, rfl⟩
  have b_de := nil_binds vE bbE
  have G_deS := ok_de (P := l.prog) (w := w) (base := base) TS F_de
  have G_deT := ok_de (P := l.prog) (w := w) (base := base) TT F_de
  have G_bs := ok_bs TS F_bs G_deS kfD b_de
  have G_bt := ok_bt TT F_bt G_deT kfD b_de
  have C_pull : Cal l.prog w K mg base 1 "_law_pull" ["_law_bag_here", "_law_amount"] spPull := ⟨_, _, ok_pull B F_pull, b_pull, F_pull.kp, m_pull⟩
  have C_bag : Cal l.prog w K mg base 1 "_law_bag" ["_law_script"] (spBag K) := ⟨_, _, ok_bag B F_bag, b_bag, F_bag.kp, m_bag⟩
  have C_of : Cal l.prog w K mg base 2 "_law_of" ["_law_bag_here", "_law_things"] spOf := ⟨_, _, ok_of B C_pull F_of, b_of, F_of.kp, m_of⟩
  have C_like : Cal l.prog w K mg base 3 "_law_like" ["_law_found", "_law_due"] (spLike 2) := ⟨_, _, ok_like B F_like b_like m_like 2, b_like, F_like.kp, m_like⟩
  have C_word : Cal l.prog w K mg base 1 "_law_stroke_word" ["_law_stroke"] spWord := ⟨_, _, ok_stroke_word B F_stroke_word, b_stroke_word, F_stroke_word.kp, m_stroke_word⟩
  have C_is : Cal l.prog w K mg base 1 "is_spot" ["spot"] (spIs K) := ⟨_, _, ok_is_spot B c_FAR F_is_spot, b_is_spot, F_is_spot.kp, m_is_spot⟩
  have C_ends_of : Cal l.prog w K mg base 1 "ends_of" ["stroke"] spEnds := ⟨_, _, ok_ends_of F_ends_of, b_ends_of, F_ends_of.kp, m_ends_of⟩
  have G_need := ok_need_stroke TS TT C_is C_ends_of G_bs b_bs G_bt b_bt F_need_stroke
  exact ok_law B l10 c10 TB C_bag C_pull C_of C_like C_word TS TT hSS hTS hTT F_refused m_refused b_refused G_need F_need_stroke.kp b_need_stroke m_need_stroke
theorem walk {l : PySem.W.OpenLaw} {q : Program} {loose : List Str} {XP : (Str → Option Value) → Heap → Prop} {YP : World → Heap → Prop} {d : DefRec} {K : Params → PySem.W.Frag} (hn : l.most = some 63) (hdf : d.params.defaults = []) (hrec : ((PyProof.Rows.recsOf q).any fun e => e.name == d.name) = true)
    (hY : ∀ (w : World) (h : Heap), YP w h → (K w.params).In h)
    (F : ∀ (w : World) (mg : Str → Option Value) (fa : Addr) (h : Heap), (K w.params).In h → h.Ns mainGlobals mg → mg d.name = some (.ref fa) → LamX.OwnTab (K w.params) fa h → LamX.LawAtS l w (K w.params) CX0 10 63 "_law_script" mg fa h) :
    PySem.W.WalkO q loose XP YP l.row.toRowW d [] (fun f vs => PySem.call f vs) :=
  LamX.walk_ofOwn (n := 63) (k := 10) (x := "_law_script") (CX := fun _ => CX0) hn (by decide) hdf ⟨rfl, by decide, by decide⟩ hrec hY (fun w mg fa h _ KX G hm own => F w mg fa h KX G hm own) fun _ _ _ _ _ z => z
end DM
open PySem PySem.W PyProof.Rows
set_option maxRecDepth 100000 in
set_option maxHeartbeats 0 in
theorem PySem.Challenge.cw_dotmoor_k05_strokes_refused_holds : PySem.Challenge.rw_dotmoor_k05_strokes_refused.Holds := by
  w_on; o_law; k_head; (case hw => w_witness2)
  k_fill
  refine DM.walk (l := PySem.Challenge.rw_dotmoor_k05_strokes_refused) rfl rfl ?hrec (fun w h Y => PySem.W.km_in_of Y) ?F
  case hrec => first | rfl | decide +kernel
  case F =>
    intro w mg fa h KX G hmg own
    refine' DM.all_mk KX G hmg ?a1 ?l1 ?c1 ?k1 ?a2 ?l2 ?c2 ?k2 ?a3 ?l3 ?c3 ?k3 ?a4 ?l4 ?c4 ?k4 ?a5 ?l5 ?c5 ?k5 ?a6 ?l6 ?c6 ?k6 ?a7 ?l7 ?c7 ?k7 ?a8 ?l8 ?c8 ?k8 ?a9 ?l9 ?c9 ?k9 ?a10 ?l10 ?c10 ?k10 ?aD ?aS ?xS ?saS ?eS ?tyS ?kcS ?iS ?tiS ?lfS ?cdS ?kfS ?nWS ?nFS ?gaS ?ggS ?hdS ?clS ?aT ?xT ?saT ?eT ?tyT ?kcT ?iT ?tiT ?lfT ?cdT ?kfT ?nWT ?nFT ?gaT ?ggT ?hdT ?clT ?fcD ?lD ?cdD ?kfD ?tD ?rdD ?gaD ?vV ?suSS ?suTS ?suTT ?zV ?z_len ?z_isinstance ?z_all ?z_list ?z_tuple ?z_dict ?z_bool ?z_range ?z_abs ?z_any ?z_sorted ?z_int ?z_max ?z_min ?n_FAR ?tC ?tP ?tN ?tH own
    (case a1 => k_is)
    (case l1 => k_is)
    (case c1 => k_is)
    (case k1 => k_is)
    (case a2 => k_is)
    (case l2 => k_is)
    (case c2 => k_is)
    (case k2 => k_is)
    (case a3 => k_is)
    (case l3 => k_is)
    (case c3 => k_is)
    (case k3 => k_is)
    (case a4 => k_is)
    (case l4 => k_is)
    (case c4 => k_is)
    (case k4 => k_is)
    (case a5 => k_is)
    (case l5 => k_is)
    (case c5 => k_is)
    (case k5 => k_is)
    (case a6 => k_is)
    (case l6 => k_is)
    (case c6 => k_is)
    (case k6 => k_is)
    (case a7 => k_is)
    (case l7 => k_is)
    (case c7 => k_is)
    (case k7 => k_is)
    (case a8 => k_is)
    (case l8 => k_is)
    (case c8 => k_is)
    (case k8 => k_is)
    (case a9 => k_is)
    (case l9 => k_is)
    (case c9 => k_is)
    (case k9 => k_is)
    (case a10 => k_is)
    (case l10 => k_is)
    (case c10 => k_is)
    (case k10 => k_is)
    (case aD => k_is)
    (case aS => k_is)
    (case xS => k_is)
    (case saS => k_is)
    (case eS => k_is)
    (case tyS => k_is)
    (case kcS => k_is)
    (case iS => k_is)
    (case tiS => k_is)
    (case lfS => k_is)
    (case cdS => k_is)
    (case kfS => k_is)
    (case nWS => k_is)
    (case nFS => k_is)
    (case gaS => k_is)
    (case ggS => k_is)
    (case hdS => k_is)
    (case clS => k_is)
    (case aT => k_is)
    (case xT => k_is)
    (case saT => k_is)
    (case eT => k_is)
    (case tyT => k_is)
    (case kcT => k_is)
    (case iT => k_is)
    (case tiT => k_is)
    (case lfT => k_is)
    (case cdT => k_is)
    (case kfT => k_is)
    (case nWT => k_is)
    (case nFT => k_is)
    (case gaT => k_is)
    (case ggT => k_is)
    (case hdT => k_is)
    (case clT => k_is)
    (case fcD => k_is)
    (case lD => k_is)
    (case cdD => k_is)
    (case kfD => k_is)
    (case tD => k_is)
    (case rdD => k_is)
    (case gaD => k_is)
    (case vV => k_is)
    (case suSS => k_is)
    (case suTS => k_is)
    (case suTT => k_is)
    (case zV => k_is)
    (case z_len => k_is)
    (case z_isinstance => k_is)
    (case z_all => k_is)
    (case z_list => k_is)
    (case z_tuple => k_is)
    (case z_dict => k_is)
    (case z_bool => k_is)
    (case z_range => k_is)
    (case z_abs => k_is)
    (case z_any => k_is)
    (case z_sorted => k_is)
    (case z_int => k_is)
    (case z_max => k_is)
    (case z_min => k_is)
    (case n_FAR => k_is)
    (case tC => k_is)
    (case tP => first | rfl | kernel_rfl)
    (case tN => first | rfl | kernel_rfl)
    (case tH => first | rfl | kernel_rfl)

