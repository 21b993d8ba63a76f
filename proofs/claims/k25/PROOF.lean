import PyProof.Rows.All
import Wide.All
import OpenK.AllK
import Wide.FinOn
import HandS.ForMost
import HandS.IsInst
import HandS.Wide
import HandS.Style
import HandS.Deep
import HandS.Lambda
import HandS.Nested
import HandS.SortKw
import KE.SortKeyHeap
import HandS.EndOwn
import KE.KNestM
import KE.KMinKey
import HandS.Defaults
import HandS.More
import HandS.Small
import KE.DatumOrd
import KE.KDictPairs
import PySem.Challenge.RW_dotmoor_k25_spots_in_their_order_round
set_option Elab.async false
set_option linter.all false
set_option maxRecDepth 100000
set_option maxHeartbeats 4000000
namespace DM
open PySem L2
/-! ### built-ins by their names -/
theorem bt_len : bootBuiltins "len" = some (.builtin "len") := by decide +kernel
theorem bt_isinstance : bootBuiltins "isinstance" = some (.builtin "isinstance") := by decide +kernel
theorem bt_all : bootBuiltins "all" = some (.builtin "all") := by decide +kernel
theorem bt_any : bootBuiltins "any" = some (.builtin "any") := by decide +kernel
theorem bt_sorted : bootBuiltins "sorted" = some (.builtin "sorted") := by decide +kernel
theorem bt_abs : bootBuiltins "abs" = some (.builtin "abs") := by decide +kernel
theorem bt_max : bootBuiltins "max" = some (.builtin "max") := by decide +kernel
theorem bt_min : bootBuiltins "min" = some (.builtin "min") := by decide +kernel
theorem bt_sum : bootBuiltins "sum" = some (.builtin "sum") := by decide +kernel
theorem bt_list : bootBuiltins "list" = some (.type "list") := by decide +kernel
theorem bt_tuple : bootBuiltins "tuple" = some (.type "tuple") := by decide +kernel
theorem bt_dict : bootBuiltins "dict" = some (.type "dict") := by decide +kernel
theorem bt_bool : bootBuiltins "bool" = some (.type "bool") := by decide +kernel
theorem bt_int : bootBuiltins "int" = some (.type "int") := by decide +kernel
structure Blt (mg : Str → Option Value) : Prop where
  len : mg "len" = none
  isinstance : mg "isinstance" = none
  all : mg "all" = none
  list : mg "list" = none
  tuple : mg "tuple" = none
  dict : mg "dict" = none
  bool : mg "bool" = none
  range : mg "range" = none
  abs : mg "abs" = none
  any : mg "any" = none
  sorted : mg "sorted" = none
  int : mg "int" = none
  max : mg "max" = none
  min : mg "min" = none
  sum : mg "sum" = none
  zip : mg "zip" = none
  enumerate : mg "enumerate" = none
/-! ### a def that may be called by its name -/
def Cal (P : Program) (w : World) (K : PySem.W.Frag) (mg : Str → Option Value) (base : Heap) (k : Nat) (x : Str) (ps : List Str) (sp : Sp) : Prop :=
  ∃ (f : Addr) (fd : FuncData), FnOk P w K mg base CX0 k f fd ps sp ∧ Binds K fd ps [] ∧ PySem.W.keepIn K (.ref f) = true ∧ mg x = some (.ref f)
section
variable {X : Cx}
theorem pe_cal {k k' : Nat} {x : Str} {ps : List Str} {sp : Sp} {e : Expr} {es : List Expr} {t : TA} {p pos : Pos} (C : Cal X.prog X.w X.K X.mg X.base k x ps sp) (hr : Room k' X.A) (ha : PA X (e :: es) t)
    (hk : k ≤ k' := by decide) (hg : Gl X x := by rfl) (hdb : (x == ("__debug__" : Str)) = false := by decide) (he : starEach (e :: es) X.env = (false, eval e X.env) :: starEach es X.env := by rfl) (hpl : (backTo pos (starEach es X.env)).any (·.1) = false := by rfl) :
    PE X (.Call (.Name x p) (e :: es) [] pos) (tCall sp [] E0 t) := by
  obtain ⟨f, fd, F, b, kp, hm⟩ := C
  exact pe_call F (hr.mono hk) hg hm kp b .nil pass0 ha hdb he hpl
end
theorem nil_binds {K : PySem.W.Frag} {fd : FuncData} {ps : List Str} {ds : List Value} (v : Vals [] ds) (b : Binds K fd ps ds) : Binds K fd ps [] := by
  cases v
  exact b
/-! ### statements -/
theorem seq_with {t u : TS} {D : Ends} {σ : St} {H : Hp} (P : St → Hp → Prop) (h1 : ∀ R : St → Hp → Prop, (∀ σ' H', P σ' H' → R σ' H') → t { D with nx := R } σ H) (h2 : ∀ σ' H', P σ' H' → u D σ' H') : tSeq t u D σ H := h1 (u D) h2
theorem iteDF {c : Prop} [Decidable c] {A B : Prop} (hc : ¬ c) (h : B) : if decide c = true then A else B := by
  rw [decide_eq_false hc]
  exact iteF h
theorem iteDT {c : Prop} [Decidable c] {A B : Prop} (hc : c) (h : A) : if decide c = true then A else B := by
  rw [decide_eq_true hc]
  exact iteT h
theorem same_new {H : Hp} {p : Addr} (h : H p = none) (o : HO) : Same H (upd H p o) := fun b u q => by rw [upd_ne (ne_of_none q h)]; exact q
theorem new_at {H : Hp} {p : Addr} {o : HO} (_ : Same H (upd H p o)) : upd H p o p = some o := upd_same
theorem sz {n : Nat} (h : n ≤ 100000) : n ≤ sizeLine := Nat.le_trans h (by decide)
/-! ### the bag -/
/-- all but what stands at b is as it was -/
def But (b : Addr) (H H' : Hp) : Prop := ∀ a o, a ≠ b → H a = some o → H' a = some o
theorem But.refl {b : Addr} {H : Hp} : But b H H := fun _ _ _ h => h
theorem But.trans {b : Addr} {H H1 H2 : Hp} (x : But b H H1) (y : But b H1 H2) : But b H H2 := fun a o h e => y a o h (x a o h e)
theorem But.of {b : Addr} {H H1 : Hp} (x : Same H H1) : But b H H1 := fun a o _ e => x a o e
theorem But.upd {b : Addr} {H : Hp} {o : HO} : But b H (upd H b o) := fun a u h e => by rw [upd_ne h]; exact e
def BagAt (H : Hp) (b l : Addr) : Prop := ∃ (ns : List Int) (i g s : Int), H b = some (.lst [.ref l, .int i, .int g, .int s]) ∧ H l = some (.lst (ns.map V.int)) ∧ ns.length ≤ 63 ∧ 0 ≤ i ∧ 0 ≤ g ∧ 0 ≤ s ∧ s < 2147483647
theorem bag_ne {H : Hp} {b l : Addr} {ns : List Int} {i g s : Int} (h : H b = some (.lst [.ref l, .int i, .int g, .int s])) (h' : H l = some (.lst (ns.map V.int))) : l ≠ b := by
  refine ne_of h' h fun e => ?_
  have e1 := HO.lst.inj e
  cases ns with
  | nil => cases e1
  | cons a r => cases e1
theorem bag_upd {H : Hp} {b l : Addr} {ns : List Int} {i g s : Int} (hl : l ≠ b) (h' : H l = some (.lst (ns.map V.int))) (h63 : ns.length ≤ 63) (hi : 0 ≤ i) (hg : 0 ≤ g) (h0 : 0 ≤ s) (h1 : s < 2147483647) : BagAt (upd H b (.lst [.ref l, .int i, .int g, .int s])) b l :=
  ⟨ns, i, g, s, upd_same, by rw [upd_ne hl]; exact h', h63, hi, hg, h0, h1⟩
theorem BagAt.same {H H' : Hp} {b l : Addr} (h : BagAt H b l) (e : Same H H') : BagAt H' b l := by
  obtain ⟨ns, i, g, s, h1, h2, r⟩ := h
  exact ⟨ns, i, g, s, e _ _ h1, e _ _ h2, r⟩
theorem BagAt.hasB {H : Hp} {b l : Addr} (h : BagAt H b l) : ∃ xs, H b = some (.lst xs) := by
  obtain ⟨ns, i, g, s, h1, _⟩ := h
  exact ⟨_, h1⟩
theorem BagAt.hasL {H : Hp} {b l : Addr} (h : BagAt H b l) : ∃ xs, H l = some (.lst xs) := by
  obtain ⟨ns, i, g, s, h1, h2, _⟩ := h
  exact ⟨_, h2⟩
/-- a store elsewhere leaves the bag -/
theorem BagAt.put {H : Hp} {b l p : Addr} {o : HO} (h : BagAt H b l) (h1 : p ≠ b) (h2 : p ≠ l) : BagAt (upd H p o) b l := by
  obtain ⟨ns, i, g, s, e1, e2, r⟩ := h
  exact ⟨ns, i, g, s, by rw [upd_ne (Ne.symm h1)]; exact e1, by rw [upd_ne (Ne.symm h2)]; exact e2, r⟩
/-- what is new is not the bag's -/
theorem BagAt.new {H : Hp} {b l p : Addr} (h : BagAt H b l) (hp : H p = none) : p ≠ b ∧ p ≠ l := by
  obtain ⟨xs, e1⟩ := h.hasB
  obtain ⟨ys, e2⟩ := h.hasL
  exact ⟨Ne.symm (ne_of_none e1 hp), Ne.symm (ne_of_none e2 hp)⟩
theorem bag_tup {H : Hp} {b l p : Addr} {xs : List V} (hB : BagAt H b l) (h : H p = some (.tup xs)) : p ≠ b := by
  obtain ⟨ys, e⟩ := hB.hasB
  exact ne_of h e (by intro z; cases z)
/-- what the bag's makers and readers promise -/
def spBag (K : PySem.W.Frag) : Sp := fun vs H Q _ => ∃ (a : Addr) (ns : List Int), vs = [.ref a] ∧ SqL K H a (ns.map V.int) ∧ ns.length ≤ 63 ∧ ∀ (b l : Addr) (H' : Hp), Same H H' → H b = none → H l = none → BagAt H' b l → Q (.ref b) H'
def spPull : Sp := fun vs H Q _ => ∃ (b l : Addr) (m : Int), vs = [.ref b, .int m] ∧ BagAt H b l ∧ 0 < m ∧ m < 4611686018427387904 ∧ ∀ (r : Int) (H' : Hp), BagAt H' b l → But b H H' → 0 ≤ r → r < m → Q (.int r) H'
def spOf : Sp := fun vs H Q _ => ∃ (b l p : Addr) (xs : List V), vs = [.ref b, .ref p] ∧ BagAt H b l ∧ H p = some (.lst xs) ∧ p ≠ b ∧ 0 < xs.length ∧ xs.length ≤ 1000 ∧ ∀ (v : V) (H' : Hp), BagAt H' b l → But b H H' → v ∈ xs → Q v H'
def spLaw (K : PySem.W.Frag) : Sp := fun vs H Q _ => ∃ (a : Addr) (ns : List Int), vs = [.ref a] ∧ SqL K H a (ns.map V.int) ∧ ns.length ≤ 63 ∧ ∀ H', Q (.bl true) H'
end DM

namespace DM
open PySem L2
def top (i : Nat) : Stmt := PySem.Challenge.pw_dotmoor_k25_spots_in_their_order_round.main.body.getD i (.Pass ⟨0, 0, 0, 0⟩)
section
variable {P : Program} {w : World} {K : PySem.W.Frag} {mg : Str → Option Value} {base : Heap} {f : Addr} {fd : FuncData}
abbrev s_bag : Stmt := top 4
theorem sc_bag : FnScope ["_law_script", "_law_salt", "_law_cell"] ["_law_script"] (defScope s_bag) := ⟨rfl, rfl, rfl, by decide +kernel, rfl, by decide +kernel, by decide +kernel⟩
theorem cut_ints (ns : List Int) : ∃ ms : List Int, cutV (ns.map V.int) none (some 63) = ms.map V.int ∧ ms.length ≤ ns.length := by
  refine ⟨(ns.drop (HT.sIx ns.length 0 none)).take (HT.sIx ns.length ns.length (some 63) - HT.sIx ns.length 0 none), ?_, ?_⟩
  · unfold cutV
    rw [List.length_map, List.map_take, List.map_drop]
  · rw [List.length_take, List.length_drop]
    omega
theorem ok_bag (B : Blt mg) (F : Fun K "_law_bag" "_law_bag" s_bag f fd) : FnOk P w K mg base CX0 1 f fd ["_law_script"] (spBag K) := by
  refine F.ok sc_bag (fun vs H Q E h => ?_) (fun cdv A outer s H vs Q E hr h => ?_)
  · obtain ⟨a, ns, rfl, _⟩ := h
    rfl
  obtain ⟨a, ns, rfl, hS, h63, q⟩ := h
  refine ⟨_, (pss_cons (ps_set (i := 1) sc_bag.nd rfl (Or.inl rfl) pe_int)
    (pss_cons (ps_for PassesOwn.never rfl (pi_list (pe_slice sl_list (pv 0) po_none (po_some pe_int))) (pg_name (i := 2) sc_bag.nd rfl (Or.inl rfl))
    (pss_one (ps_set (i := 1) sc_bag.nd rfl (Or.inl rfl) (pe_op op_mod (pe_op op_add (pe_op op_add (pe_op op_mul (pv 1) pe_int) (pe_op op_mod (pv 2) pe_int)) pe_int) pe_int))))
    (pss_one (ps_ret (pe_lst (pa_cons (pe_callTy call_list_of rfl B.list bt_list (pa_cons (pe_slice sl_list (pv 0) po_none (po_some pe_int)) pa_nil)) (pa_cons pe_int (pa_cons pe_int (pa_cons (pv 1) pa_nil))))))))), ?_⟩
  obtain ⟨ms, em, lm⟩ := cut_ints ns
  refine ⟨_, rfl, _, rfl, a, _, rfl, hS, fun p hp => ?_⟩
  refine ⟨p, rfl, ⟨_, SqL.of upd_same⟩, ?_⟩
  have g1 : Same H (upd H p (.lst (cutV (ns.map V.int) none (some 63)))) := same_new hp _
  have hp1 : upd H p (.lst (cutV (ns.map V.int) none (some 63))) p = some (.lst (ms.map V.int)) := by rw [upd_same, em]
  refine for_list (K := K) (a := p) (xs := ms.map V.int) (fun _ σ H' => H' = upd H p (.lst (cutV (ns.map V.int) none (some 63))) ∧ ∃ (s : Int) (c : Option V), σ = [some (.ref a), some (.int s), c] ∧ 0 ≤ s ∧ s < 2147483647) ?_ ?_ ?_ ?_
  · exact ⟨rfl, 9117, none, rfl, by decide, by decide⟩
  · rintro i σ H' _ ⟨rfl, _⟩
    exact SqL.of hp1
  · rintro i x σ H' hx ⟨rfl, s, c, rfl, h0, h1⟩
    obtain ⟨n, rfl⟩ : ∃ n, x = V.int n := by
      rw [List.getElem?_map] at hx
      cases e : ms[i]? with
      | none => rw [e] at hx; cases hx
      | some n => rw [e] at hx; exact ⟨n, (Option.some.inj hx).symm⟩
    refine ⟨_, rfl, _, _, rfl, rfl, .inr ⟨by decide, by decide⟩, _, rfl, _, _, rfl, rfl, (by dsimp only; decide), _, _, rfl, rfl, _, _, rfl, rfl, _, _, rfl, rfl, (by dsimp only; decide), ?_⟩
    refine ⟨rfl, _, _, rfl, ?_, ?_⟩
    · exact Int.emod_nonneg _ (by decide)
    · exact Int.emod_lt_of_pos _ (by decide)
  · rintro σ H' ⟨rfl, s, c, rfl, h0, h1⟩
    refine ⟨_, rfl, _, rfl, a, _, rfl, g1.seq hS, fun p2 hp2 => ?_⟩
    refine ⟨p2, _, rfl, .inl (SqL.of upd_same), fun p3 hp3 => ?_⟩
    refine ⟨_, rfl, sz (by decide : 4 ≤ 100000), fun p4 hp4 => ?_⟩
    refine q p4 p3 _ (g1.trans ((same_new hp2 _).trans ((same_new hp3 _).trans (same_new hp4 _)))) ?_ (g1.free ((same_new hp2 _).free hp3)) ?_
    · exact g1.free ((same_new hp2 _).free ((same_new hp3 _).free hp4))
    · refine bag_upd (ns := ms) (Ne.symm (Ne.symm (ne_of_none (H := upd _ p3 _) upd_same hp4))) ?_ (by omega) (by decide) (by decide) h0 h1
      rw [upd_same, em]
abbrev s_pull : Stmt := top 5
theorem sc_pull : FnScope ["_law_bag_here", "_law_amount", "_law_cell", "_law_got", "_law_seed"] ["_law_bag_here", "_law_amount"] (defScope s_pull) := ⟨rfl, rfl, rfl, by decide +kernel, rfl, by decide +kernel, by decide +kernel⟩
theorem ok_pull (B : Blt mg) (F : Fun K "_law_pull" "_law_pull" s_pull f fd) : FnOk P w K mg base CX0 1 f fd ["_law_bag_here", "_law_amount"] spPull := by
  refine F.ok sc_pull (fun vs H Q E h => ?_) (fun cdv A outer s H vs Q E hr h => ?_)
  · obtain ⟨b, l, m, rfl, _⟩ := h
    rfl
  obtain ⟨b, l, m, rfl, hB, hm0, hm1, q⟩ := h
  refine ⟨_, (pss_cons (ps_if (PW.pt (pw_and (pt_cmpR op_eq (pe_ix ix_list (pv 0) pe_int (fun _ _ => rfl)) pe_int (nomark _)) (pw_and1 (pt_cmpR op_lt (pe_ix ix_list (pv 0) pe_int (fun _ _ => rfl)) (pe_callB call_len_seq rfl B.len bt_len (pa_cons (pe_ix ix_list (pv 0) pe_int (fun _ _ => rfl)) pa_nil)) (nomark _)))))
    (pss_cons (ps_set (i := 2) sc_pull.nd rfl (Or.inl rfl) (pe_ix ix_list (pe_ix ix_list (pv 0) pe_int (fun _ _ => rfl)) (pe_ix ix_list (pv 0) pe_int (fun _ _ => rfl)) (fun _ _ => rfl)))
    (pss_cons (ps_asg (pe_op op_add (pe_ix ix_list (pv 0) pe_int (fun _ _ => rfl)) pe_int) (pg_sub (pv 0) pe_int set_list))
    (pss_one (ps_if (pt_cmpR op_ge (pv 2) (pe_op op_pow pe_int pe_int) (nomark _))
    (pss_one (ps_asg (pv 2) (pg_sub (pv 0) pe_int set_list)))
    (pss_one (ps_asg (pe_op op_mod (pe_op op_add (pe_op op_add (pe_op op_mul (pe_ix ix_list (pv 0) pe_int (fun _ _ => rfl)) pe_int) (pe_op op_mul (pe_op op_mod (pv 2) pe_int) pe_int)) pe_int) pe_int) (pg_sub (pv 0) pe_int set_list)))))))
    pss_nil)
    (pss_cons (ps_if (pt_cmpR op_gt (pe_ix ix_list (pv 0) pe_int (fun _ _ => rfl)) pe_int (nomark _))
    (pss_cons (ps_set (i := 3) sc_pull.nd rfl (Or.inl rfl) (pe_op op_mod (pe_ix ix_list (pv 0) pe_int (fun _ _ => rfl)) (pv 1)))
    (pss_cons (ps_asg (pe_op op_fdivW (pe_ix ix_list (pv 0) pe_int (fun _ _ => rfl)) (pv 1)) (pg_sub (pv 0) pe_int set_list))
    (pss_one (ps_ret (pv 3)))))
    pss_nil)
    (pss_cons (ps_set (i := 4) sc_pull.nd rfl (Or.inl rfl) (pe_ix ix_list (pv 0) pe_int (fun _ _ => rfl)))
    (pss_cons (ps_asg (pe_op op_mod (pe_op op_add (pe_op op_add (pe_op op_mul (pv 4) pe_int) (pe_op op_mul (pe_op op_fdiv (pv 4) pe_int) pe_int)) pe_int) pe_int) (pg_sub (pv 0) pe_int set_list))
    (pss_one (ps_ret (pe_op op_mod (pe_op op_add (pe_op op_fdiv (pe_ix ix_list (pv 0) pe_int (fun _ _ => rfl)) pe_int) (pe_op op_mul (pe_op op_mod (pe_ix ix_list (pv 0) pe_int (fun _ _ => rfl)) pe_int) pe_int)) (pv 1)))))))), ?_⟩
  obtain ⟨ns, i, g, z, hb, hl, h63, hi, hg, hz0, hz1⟩ := hB
  have hlb := bag_ne hb hl
  refine seq_with (fun σ' H' => (∃ c, σ' = [some (.ref b), some (.int m), c, none, none]) ∧ BagAt H' b l ∧ But b H H') (fun R hR => ?_) ?_
  · refine ⟨_, rfl, b, _, _, _, rfl, rfl, SqL.of hb, rfl, rfl, _, rfl, ?_⟩
    refine ite2 (fun c => ?_) (fun c => ?_)
    · refine ⟨_, rfl, b, _, _, _, rfl, rfl, SqL.of hb, rfl, _, rfl, b, _, _, _, rfl, rfl, SqL.of hb, rfl, l, _, rfl, .inl (SqL.of hl), _, _, rfl, rfl, _, rfl, ?_⟩
      refine ite2 (fun c2 => ?_) (fun c2 => ?_)
      · have c3 : i < ((ns.map V.int).length : Int) := of_decide_eq_true c2
        rw [List.length_map] at c3
        have hit : i.toNat < ns.length := by omega
        have ei : i = ((i.toNat : Nat) : Int) := by omega
        have hat : atI (ns.map V.int) i = some (.int ns[i.toNat]) := by
          exact at_of ei (by rw [List.getElem?_map, List.getElem?_eq_getElem hit] <;> rfl)
        refine ⟨_, rfl, b, _, _, _, rfl, rfl, SqL.of hb, rfl, _, rfl, b, _, _, _, rfl, rfl, SqL.of hb, rfl, l, _, _, _, rfl, rfl, SqL.of hl, hat, ?_⟩
        refine ⟨_, rfl, b, _, _, _, rfl, rfl, SqL.of hb, rfl, _, _, rfl, rfl, _, rfl, b, _, _, _, rfl, rfl, hb, rfl, ?_⟩
        refine ⟨_, rfl, _, _, rfl, rfl, ⟨by decide, by decide, by decide⟩, _, _, rfl, rfl, _, rfl, ?_⟩
        refine ite2 (fun c4 => ?_) (fun c4 => ?_)
        · have c5 : ns[i.toNat] ≥ (10 : Int) ^ (18 : Int).toNat := of_decide_eq_true c4
          have c6 : (0 : Int) ≤ (10 : Int) ^ (18 : Int).toNat := by decide
          refine ⟨_, rfl, _, rfl, b, _, _, _, rfl, rfl, upd_same, rfl, hR _ _ ⟨⟨_, rfl⟩, ?_, ?_⟩⟩
          · rw [upd_upd]
            exact bag_upd (ns := ns) hlb hl h63 (by omega) (by omega) hz0 hz1
          · rw [upd_upd]
            exact But.upd
        · refine ⟨_, rfl, b, _, _, _, rfl, rfl, SqL.of upd_same, rfl, _, _, rfl, rfl, .inr ⟨by decide, by decide⟩, _, rfl, _, _, rfl, rfl, (by dsimp only; decide), _, _, rfl, rfl, .inr ⟨by decide, by decide⟩, _, _, rfl, rfl, _, _, rfl, rfl, _, _, rfl, rfl, (by dsimp only; decide), ?_⟩
          refine ⟨_, rfl, b, _, _, _, rfl, rfl, upd_same, rfl, hR _ _ ⟨⟨_, rfl⟩, ?_, ?_⟩⟩
          · rw [upd_upd]
            exact bag_upd (ns := ns) hlb hl h63 (by omega) hg (Int.emod_nonneg _ (by decide)) (Int.emod_lt_of_pos _ (by decide))
          · rw [upd_upd]
            exact But.upd
      · refine hR _ _ ⟨⟨_, rfl⟩, ⟨ns, i, g, z, hb, hl, h63, hi, hg, hz0, hz1⟩, But.refl⟩
    · refine iteF ?_
      exact hR _ _ ⟨⟨_, rfl⟩, ⟨ns, i, g, z, hb, hl, h63, hi, hg, hz0, hz1⟩, But.refl⟩
  · rintro σ' H' ⟨⟨c, rfl⟩, hB', hBut⟩
    obtain ⟨ns, i, g, z, hb, hl, h63, hi, hg, hz0, hz1⟩ := hB'
    have hlb := bag_ne hb hl
    refine ⟨_, rfl, b, _, _, _, rfl, rfl, SqL.of hb, rfl, _, _, rfl, rfl, _, rfl, ?_⟩
    refine ite2 (fun c => ?_) (fun c => ?_)
    · refine ⟨_, rfl, b, _, _, _, rfl, rfl, SqL.of hb, rfl, _, rfl, _, _, rfl, rfl, hm0, ?_⟩
      refine ⟨_, rfl, b, _, _, _, rfl, rfl, SqL.of hb, rfl, _, rfl, _, _, rfl, rfl, wide_div (b := 62) hm0 (by omega) (by decide) (by decide), ?_⟩
      refine ⟨_, rfl, b, _, _, _, rfl, rfl, hb, rfl, _, rfl, ?_⟩
      refine q _ _ ?_ (hBut.trans But.upd) (Int.emod_nonneg _ (by omega)) (Int.emod_lt_of_pos _ hm0)
      exact bag_upd (ns := ns) hlb hl h63 hi (Int.ediv_nonneg hg (by omega)) hz0 hz1
    · refine ⟨_, rfl, b, _, _, _, rfl, rfl, SqL.of hb, rfl, ?_⟩
      refine ⟨_, rfl, _, _, rfl, rfl, .inr ⟨by decide, by decide⟩, _, rfl, _, _, rfl, rfl, ⟨by decide, by decide⟩, _, _, rfl, rfl, .inr ⟨by decide, by decide⟩, _, _, rfl, rfl, _, _, rfl, rfl, _, _, rfl, rfl, (by dsimp only; decide), ?_⟩
      refine ⟨_, rfl, b, _, _, _, rfl, rfl, hb, rfl, ?_⟩
      refine ⟨_, rfl, b, _, _, _, rfl, rfl, SqL.of upd_same, rfl, _, _, rfl, rfl, ⟨by decide, by decide⟩, _, rfl, b, _, _, _, rfl, rfl, SqL.of upd_same, rfl, _, _, rfl, rfl, (by dsimp only; decide), _, _, rfl, rfl, .inr ⟨by decide, by decide⟩, _, _, rfl, rfl, _, rfl, _, _, rfl, rfl, hm0, ?_⟩
      refine q _ _ ?_ (hBut.trans But.upd) (Int.emod_nonneg _ (by omega)) (Int.emod_lt_of_pos _ hm0)
      exact bag_upd (ns := ns) hlb hl h63 hi hg (Int.emod_nonneg _ (by decide)) (Int.emod_lt_of_pos _ (by decide))
abbrev s_of : Stmt := top 6
theorem sc_of : FnScope ["_law_bag_here", "_law_things"] ["_law_bag_here", "_law_things"] (defScope s_of) := ⟨rfl, rfl, rfl, by decide +kernel, rfl, by decide +kernel, by decide +kernel⟩
theorem ok_of (B : Blt mg) (c_pull : Cal P w K mg base 1 "_law_pull" ["_law_bag_here", "_law_amount"] spPull) (F : Fun K "_law_of" "_law_of" s_of f fd) : FnOk P w K mg base CX0 2 f fd ["_law_bag_here", "_law_things"] spOf := by
  refine F.ok sc_of (fun vs H Q E h => ?_) (fun cdv A outer s H vs Q E hr h => ?_)
  · obtain ⟨b, l, p, xs, rfl, _⟩ := h
    rfl
  obtain ⟨b, l, p, xs, rfl, hB, hp, hpb, h0, h1, q⟩ := h
  refine ⟨_, (pss_one (ps_ret (pe_ix ix_list (pv 1) (pe_cal c_pull hr (pa_cons (pv 0) (pa_cons (pe_callB call_len_seq rfl B.len bt_len (pa_cons (pv 1) pa_nil)) pa_nil))) (fun _ _ => rfl)))), ?_⟩
  refine ⟨_, rfl, _, rfl, _, rfl, p, xs, rfl, .inl (SqL.of hp), b, _, _, rfl, hB, by omega, by omega, fun r H' hB' hbut r0 r1 => ?_⟩
  have hr' : r.toNat < xs.length := by omega
  have er : r = ((r.toNat : Nat) : Int) := by omega
  have hat : atI xs r = some xs[r.toNat] := by
    exact at_of er (List.getElem?_eq_getElem hr')
  exact ⟨p, xs, r, _, rfl, rfl, SqL.of (hbut _ _ hpb hp), hat, q _ _ hB' hbut (List.getElem_mem hr')⟩
end
end DM

namespace DM
open PySem L2
/-! ### what is like what -/
def scl : V → Bool
  | .non => true | .bl _ => true | .int _ => true | .str _ => true
  | _ => false
def Alike : Nat → Hp → V → V → Prop
  | 0, _, x, y => x = y ∧ scl x = true
  | n + 1, H, x, y => (x = y ∧ scl x = true) ∨
    (∃ p q xs ys, x = .ref p ∧ y = .ref q ∧ H p = some (.tup xs) ∧ H q = some (.tup ys) ∧ xs.length = ys.length ∧ xs.length ≤ 1000 ∧ ∀ (i : Nat) (x y : V), xs[i]? = some x → ys[i]? = some y → Alike n H x y) ∨
    (∃ p q xs ys, x = .ref p ∧ y = .ref q ∧ H p = some (.lst xs) ∧ H q = some (.lst ys) ∧ xs.length = ys.length ∧ xs.length ≤ 1000 ∧ ∀ (i : Nat) (x y : V), xs[i]? = some x → ys[i]? = some y → Alike n H x y)
theorem Alike.same : ∀ {n : Nat} {H H' : Hp} {x y : V}, Alike n H x y → Same H H' → Alike n H' x y
  | 0, _, _, _, _, h, _ => h
  | n + 1, _, _, _, _, h, e => by
    rcases h with h | ⟨p, q, xs, ys, a, b, c, d, l, m, r⟩ | ⟨p, q, xs, ys, a, b, c, d, l, m, r⟩
    · exact .inl h
    · exact .inr (.inl ⟨p, q, xs, ys, a, b, e _ _ c, e _ _ d, l, m, fun i x y hx hy => (r i x y hx hy).same e⟩)
    · exact .inr (.inr ⟨p, q, xs, ys, a, b, e _ _ c, e _ _ d, l, m, fun i x y hx hy => (r i x y hx hy).same e⟩)
theorem Alike.scal {n : Nat} {H : Hp} {x : V} (h : scl x = true) : Alike n H x x := by
  cases n with
  | zero => exact ⟨rfl, h⟩
  | succ n => exact .inl ⟨rfl, h⟩
theorem Alike.of_eq {n : Nat} {H : Hp} {x y : V} (e : x = y) (h : scl x = true) : Alike n H x y := by
  subst e
  exact Alike.scal h
theorem Alike.up : ∀ {n : Nat} {H : Hp} {x y : V}, Alike n H x y → Alike (n + 1) H x y
  | 0, _, _, _, h => .inl h
  | _ + 1, _, _, _, .inl h => .inl h
  | _ + 1, _, _, _, .inr (.inl ⟨p, q, xs, ys, a, b, c, d, e, f, g⟩) => .inr (.inl ⟨p, q, xs, ys, a, b, c, d, e, f, fun i x y hx hy => (g i x y hx hy).up⟩)
  | _ + 1, _, _, _, .inr (.inr ⟨p, q, xs, ys, a, b, c, d, e, f, g⟩) => .inr (.inr ⟨p, q, xs, ys, a, b, c, d, e, f, fun i x y hx hy => (g i x y hx hy).up⟩)
theorem alike_pair {n : Nat} {H : Hp} {u v : Int} : ∀ (i : Nat) (x y : V), ([.int u, .int v] : List V)[i]? = some x → ([.int u, .int v] : List V)[i]? = some y → Alike n H x y
  | 0, _, _, hx, hy => by cases hx; cases hy; exact Alike.scal rfl
  | 1, _, _, hx, hy => by cases hx; cases hy; exact Alike.scal rfl
def spLike (n : Nat) : Sp := fun vs H Q _ => ∃ x y, vs = [x, y] ∧ Alike n H x y ∧ ∀ H', Same H H' → Q (.bl true) H'
theorem if_pos' {c A B : Prop} [Decidable c] (h : c) (a : A) : if c then A else B := by
  rw [if_pos h]
  exact a
theorem lc_yes {σ : St} {H : Hp} {A B : Hp → Prop} (h : A H) : tYes σ H (fun b H3 => if b = true then A H3 else B H3) := by
  show (if true = true then A H else B H)
  rw [if_pos rfl]
  exact h
def tyn : V → String
  | .non => "NoneType" | .bl _ => "bool" | .int _ => "int" | .str _ => "str"
  | _ => ""
theorem tyn_x {K : PySem.W.Frag} {H : Hp} : ∀ {x : V}, scl x = true → TyX K H x (.type (tyn x))
  | .non, _ => .base .non
  | .bl b, _ => .base (.bl b)
  | .int i, _ => .base (.int i)
  | .str s, _ => .base (.str s)
theorem tyn_no {K : PySem.W.Frag} : ∀ {x : V}, scl x = true → PySem.W.kitOne K (.type (tyn x)) (.type "dict") = some false ∧ PySem.W.kitOne K (.type (tyn x)) (.type "tuple") = some false ∧ PySem.W.kitOne K (.type (tyn x)) (.type "list") = some false ∧ ∃ b, PySem.W.kitOne K (.type (tyn x)) (.type "bool") = some b
  | .non, _ => ⟨kit_ty (by decide +kernel : kitB "NoneType" "dict" = some false), kit_ty (by decide +kernel : kitB "NoneType" "tuple" = some false), kit_ty (by decide +kernel : kitB "NoneType" "list" = some false), _, kit_ty (by decide +kernel : kitB "NoneType" "bool" = some false)⟩
  | .bl _, _ => ⟨kit_ty (by decide +kernel : kitB "bool" "dict" = some false), kit_ty (by decide +kernel : kitB "bool" "tuple" = some false), kit_ty (by decide +kernel : kitB "bool" "list" = some false), _, kit_ty (by decide +kernel : kitB "bool" "bool" = some true)⟩
  | .int _, _ => ⟨kit_ty (by decide +kernel : kitB "int" "dict" = some false), kit_ty (by decide +kernel : kitB "int" "tuple" = some false), kit_ty (by decide +kernel : kitB "int" "list" = some false), _, kit_ty (by decide +kernel : kitB "int" "bool" = some false)⟩
  | .str _, _ => ⟨kit_ty (by decide +kernel : kitB "str" "dict" = some false), kit_ty (by decide +kernel : kitB "str" "tuple" = some false), kit_ty (by decide +kernel : kitB "str" "list" = some false), _, kit_ty (by decide +kernel : kitB "str" "bool" = some false)⟩
theorem scl_eq : ∀ {x : V}, scl x = true → L2.scal x x = true
  | .non, _ => rfl
  | .bl _, _ => rfl
  | .int _, _ => rfl
  | .str _, _ => rfl
section
variable {P : Program} {w : World} {K : PySem.W.Frag} {mg : Str → Option Value} {base : Heap} {f : Addr} {fd : FuncData}
abbrev s_like : Stmt := top 7
theorem sc_like : FnScope ["_law_found", "_law_due", "_law_k"] ["_law_found", "_law_due"] (defScope s_like) := ⟨rfl, rfl, rfl, by decide +kernel, rfl, by decide +kernel, by decide +kernel⟩
theorem like_leaf {k n : Nat} (B : Blt mg) (F : Fun K "_law_like" "_law_like" s_like f fd) (x : V) (hx : scl x = true) (cdv : Value) (A : Around) (outer : List Env) (s : Shared) (H : Hp) (Q : VK) (E : XK) (hr : Room k (A.deeper (PyProof.Rows.envOfC "_law_like" (defScope s_like) s.heap.objs.size f cdv))) (q : ∀ H', Same H H' → Q (.bl true) H') :
    ∃ t, PSs (cxOf CX0 P w K mg base ["_law_found", "_law_due", "_law_k"] "_law_like" (defScope s_like) f cdv A outer s H E).nox (defBody s_like) t ∧ t { nx := fun _ H' => Q .non H', rt := Q } (start ["_law_found", "_law_due", "_law_k"] [x, x]) H := by
  refine ⟨_, (pss_cons (ps_if (pt_val (pe_callB call_isi rfl B.isinstance bt_isinstance (pa_cons (pv 1) (pa_cons (pe_bltn (v := .ty "dict") rfl B.dict bt_dict rfl) pa_nil)))) pss_never pss_nil) (pss_cons (ps_if (PW.pt (pw_or (pt_cmpR op_ne (pe_callB call_isi rfl B.isinstance bt_isinstance (pa_cons (pv 1) (pa_cons (pe_bltn (v := .ty "tuple") rfl B.tuple bt_tuple rfl) pa_nil))) (pe_callB call_isi rfl B.isinstance bt_isinstance (pa_cons (pv 0) (pa_cons (pe_bltn (v := .ty "tuple") rfl B.tuple bt_tuple rfl) pa_nil))) (nomark _)) (pw_or1 (pt_cmpR op_ne (pe_callB call_isi rfl B.isinstance bt_isinstance (pa_cons (pv 1) (pa_cons (pe_bltn (v := .ty "list") rfl B.list bt_list rfl) pa_nil))) (pe_callB call_isi rfl B.isinstance bt_isinstance (pa_cons (pv 0) (pa_cons (pe_bltn (v := .ty "list") rfl B.list bt_list rfl) pa_nil))) (nomark _))))) pss_never pss_nil) (pss_cons (ps_if (pt_not (pt_val (pe_callB call_isiT rfl B.isinstance bt_isinstance (pa_cons (pv 1) (pa_cons (pe_tup (pa_cons (pe_bltn (v := .ty "tuple") rfl B.tuple bt_tuple rfl) (pa_cons (pe_bltn (v := .ty "list") rfl B.list bt_list rfl) pa_nil))) pa_nil))))) (pss_one (ps_ret (pe_and (pe_cmpR op_eq (pe_callB call_isi rfl B.isinstance bt_isinstance (pa_cons (pv 0) (pa_cons (pe_bltn (v := .ty "bool") rfl B.bool bt_bool rfl) pa_nil))) (pe_callB call_isi rfl B.isinstance bt_isinstance (pa_cons (pv 1) (pa_cons (pe_bltn (v := .ty "bool") rfl B.bool bt_bool rfl) pa_nil))) (nomark _)) (pe_one (pe_cmpR op_eq (pv 0) (pv 1) (nomark _)))))) pss_nil) pss_never))), ?_⟩
  have ty : ∀ H', TyX K H' x (.type (tyn x)) := fun H' => tyn_x hx
  obtain ⟨kd, kt, kl, b, kb⟩ := tyn_no (K := K) hx
  refine ⟨_, rfl, _, _, _, _, _, rfl, .ty _, ty _, kd, _, rfl, iteF ?_⟩
  refine ⟨_, rfl, _, _, _, _, _, rfl, .ty _, ty _, kt, _, rfl, _, _, _, _, _, rfl, .ty _, ty _, kt, rfl, _, rfl, iteF ?_⟩
  refine ⟨_, rfl, _, _, _, _, _, rfl, .ty _, ty _, kl, _, rfl, _, _, _, _, _, rfl, .ty _, ty _, kl, rfl, _, rfl, iteF ?_⟩
  refine ⟨_, rfl, sz (by decide : 2 ≤ 100000), fun p1 hp1 => ?_⟩
  refine ⟨_, p1, _, _, _, false, rfl, upd_same, .cons (.ty _) (.cons (.ty _) .nil), ty _, kitAny_cons kt (fun _ => kitAny_cons kl (fun _ => kitAny_nil) (fun z => nomatch z)) (fun z => nomatch z), _, rfl, iteT ?_⟩
  refine ⟨_, rfl, _, _, _, _, _, rfl, .ty _, ty _, kb, _, rfl, _, _, _, _, _, rfl, .ty _, ty _, kb, rfl, _, rfl, ?_⟩
  refine if_pos' (decide_eq_true rfl) ?_
  refine ⟨_, rfl, _, rfl, scl_eq hx, ?_⟩
  have e : decide (x = x) = true := decide_eq_true rfl
  rw [e]
  exact q _ (same_new hp1 _)
theorem ok_like0 (B : Blt mg) (F : Fun K "_law_like" "_law_like" s_like f fd) : FnOk P w K mg base CX0 1 f fd ["_law_found", "_law_due"] (spLike 0) := by
  refine F.ok sc_like (fun vs H Q E h => ?_) (fun cdv A outer s H vs Q E hr h => ?_)
  · obtain ⟨x, y, rfl, _⟩ := h
    rfl
  obtain ⟨x, y, rfl, ⟨rfl, hx⟩, q⟩ := h
  exact like_leaf (n := 0) B F x hx cdv A outer s H Q E hr q
theorem ok_likeS {n : Nat} (B : Blt mg) (F : Fun K "_law_like" "_law_like" s_like f fd) (c_like : Cal P w K mg base (n + 1) "_law_like" ["_law_found", "_law_due"] (spLike n)) : FnOk P w K mg base CX0 (n + 2) f fd ["_law_found", "_law_due"] (spLike (n + 1)) := by
  refine F.ok sc_like (fun vs H Q E h => ?_) (fun cdv A outer s H vs Q E hr h => ?_)
  · obtain ⟨x, y, rfl, _⟩ := h
    rfl
  obtain ⟨x, y, rfl, hA, q⟩ := h
  rcases hA with ⟨rfl, hx⟩ | ⟨p, q0, xs, ys, rfl, rfl, hp, hq, hlen, h1000, hall⟩ | ⟨p, q0, xs, ys, rfl, rfl, hp, hq, hlen, h1000, hall⟩
  · exact like_leaf (n := n) B F x hx cdv A outer s H Q E hr q
  ·
    refine ⟨_, (pss_cons (ps_if (pt_val (pe_callB call_isi rfl B.isinstance bt_isinstance (pa_cons (pv 1) (pa_cons (pe_bltn (v := .ty "dict") rfl B.dict bt_dict rfl) pa_nil)))) pss_never pss_nil) (pss_cons (ps_if (PW.pt (pw_or (pt_cmpR op_ne (pe_callB call_isi rfl B.isinstance bt_isinstance (pa_cons (pv 1) (pa_cons (pe_bltn (v := .ty "tuple") rfl B.tuple bt_tuple rfl) pa_nil))) (pe_callB call_isi rfl B.isinstance bt_isinstance (pa_cons (pv 0) (pa_cons (pe_bltn (v := .ty "tuple") rfl B.tuple bt_tuple rfl) pa_nil))) (nomark _)) (pw_or1 (pt_cmpR op_ne (pe_callB call_isi rfl B.isinstance bt_isinstance (pa_cons (pv 1) (pa_cons (pe_bltn (v := .ty "list") rfl B.list bt_list rfl) pa_nil))) (pe_callB call_isi rfl B.isinstance bt_isinstance (pa_cons (pv 0) (pa_cons (pe_bltn (v := .ty "list") rfl B.list bt_list rfl) pa_nil))) (nomark _))))) pss_never pss_nil) (pss_cons (ps_if (pt_not (pt_val (pe_callB call_isiT rfl B.isinstance bt_isinstance (pa_cons (pv 1) (pa_cons (pe_tup (pa_cons (pe_bltn (v := .ty "tuple") rfl B.tuple bt_tuple rfl) (pa_cons (pe_bltn (v := .ty "list") rfl B.list bt_list rfl) pa_nil))) pa_nil))))) pss_never pss_nil) (pss_one (ps_ret (pe_and (pe_cmpR op_eq (pe_callB call_len_seq rfl B.len bt_len (pa_cons (pv 0) pa_nil)) (pe_callB call_len_seq rfl B.len bt_len (pa_cons (pv 1) pa_nil)) (nomark _)) (pe_one (pe_callB (cr_all rfl) rfl B.all bt_all (pa_cons (pe_lc (own := [("_law_k", 2)]) (g := gName 2) (tt := tYes) rfl sc_like.nd (pi_range1 rfl B.range (pa_cons (pe_callB call_len_seq rfl B.len bt_len (pa_cons (pv 1) pa_nil)) pa_nil)) (blkOk_by (own := [("_law_k", 2)]) (N := ["_law_found", "_law_due", "_law_k"]) (sc := defScope s_like) (by decide +kernel)) (fun _ _ _ _ _ => pg_name (i := 2) sc_like.nd rfl (Or.inl rfl)) (fun _ _ _ _ _ => pts_nil) (fun _ _ _ _ _ => (pe_cal c_like hr (pa_cons (pe_ix (r := rIxT K) ix_tup (pv 0) (pv 2) (fun _ _ => rfl)) (pa_cons (pe_ix (r := rIxT K) ix_tup (pv 1) (pv 2) (fun _ _ => rfl)) pa_nil)) (Nat.le_refl _)))) pa_nil))))))))), ?_⟩
    refine ⟨_, rfl, _, _, _, _, _, rfl, .ty _, .base (TyOf.tup hq), kit_ty (by decide +kernel : kitB "tuple" "dict" = some false), _, rfl, iteF ?_⟩
    refine ⟨_, rfl, _, _, _, _, _, rfl, .ty _, .base (TyOf.tup hq), kit_ty (by decide +kernel : kitB "tuple" "tuple" = some true), _, rfl, _, _, _, _, _, rfl, .ty _, .base (TyOf.tup hp), kit_ty (by decide +kernel : kitB "tuple" "tuple" = some true), rfl, _, rfl, iteF ?_⟩
    refine ⟨_, rfl, _, _, _, _, _, rfl, .ty _, .base (TyOf.tup hq), kit_ty (by decide +kernel : kitB "tuple" "list" = some false), _, rfl, _, _, _, _, _, rfl, .ty _, .base (TyOf.tup hp), kit_ty (by decide +kernel : kitB "tuple" "list" = some false), rfl, _, rfl, iteF ?_⟩
    refine ⟨_, rfl, sz (by decide : 2 ≤ 100000), fun p1 hp1 => ?_⟩
    have g1 := same_new hp1 (.tup [.ty "tuple", .ty "list"])
    have hp' := g1 _ _ hp
    have hq' := g1 _ _ hq
    refine ⟨_, p1, _, _, _, true, rfl, upd_same, .cons (.ty _) (.cons (.ty _) .nil), .base (TyOf.tup hq'), kitAny_cons (kit_ty (by decide +kernel : kitB "tuple" "tuple" = some true)) (fun z => nomatch z) (fun _ => rfl), _, rfl, iteF ?_⟩
    refine ⟨_, rfl, p, xs, rfl, .inr (SqT.of hp'), _, rfl, q0, ys, rfl, .inr (SqT.of hq'), rfl, _, rfl, ?_⟩
    have el : V.int (xs.length : Int) = V.int (ys.length : Int) := by rw [hlen]
    refine if_pos' (decide_eq_true el) ?_
    refine ⟨_, rfl, q0, ys, rfl, .inr (SqT.of hq'), _, rfl, by omega, by omega, fun D hD => ?_⟩
    have en : ((ys.length : Int)).toNat = ys.length := by omega
    refine lc_range (lo := 0) (n := ((ys.length : Int)).toNat) (fun i H' => Same (upd H p1 (.tup [.ty "tuple", .ty "list"])) H' ∧ H' D = some (.lst ((List.replicate i true).map V.bl))) ?_ ?_ ?_
    · exact ⟨same_new hD _, upd_same⟩
    · rintro i H' hi ⟨sm, hd'⟩
      refine ⟨rfl, lc_yes ?_⟩
      have hi1 : i < xs.length := by omega
      have hi2 : i < ys.length := by omega
      refine ⟨_, rfl, _, rfl, p, xs, _, _, rfl, rfl, SqT.of (sm _ _ hp'), at_of (by omega) (List.getElem?_eq_getElem hi1), _, rfl, _, rfl, q0, ys, _, _, rfl, rfl, SqT.of (sm _ _ hq'), at_of (by omega) (List.getElem?_eq_getElem hi2), ?_⟩
      refine ⟨_, _, rfl, (hall i _ _ (List.getElem?_eq_getElem hi1) (List.getElem?_eq_getElem hi2)).same (g1.trans sm), fun H2 s2 => ?_⟩
      refine ⟨_, s2 _ _ hd', ?_, ?_, ?_⟩
      · rw [List.length_map, List.length_replicate]
        exact Nat.lt_of_lt_of_le (by omega : i < 100000) (sz (Nat.le_refl _))
      · exact fun a o e => by rw [upd_ne (ne_of_none e hD)]; exact s2 _ _ (sm _ _ e)
      · rw [upd_same, List.replicate_succ', List.map_append]
        rfl
    · rintro H' ⟨sm, hd'⟩
      refine ⟨D, _, rfl, SqL.of hd', ?_⟩
      have ea : (List.replicate ((ys.length : Int)).toNat true).all id = true := by simp
      rw [ea]
      exact q _ (g1.trans sm)
  ·
    refine ⟨_, (pss_cons (ps_if (pt_val (pe_callB call_isi rfl B.isinstance bt_isinstance (pa_cons (pv 1) (pa_cons (pe_bltn (v := .ty "dict") rfl B.dict bt_dict rfl) pa_nil)))) pss_never pss_nil) (pss_cons (ps_if (PW.pt (pw_or (pt_cmpR op_ne (pe_callB call_isi rfl B.isinstance bt_isinstance (pa_cons (pv 1) (pa_cons (pe_bltn (v := .ty "tuple") rfl B.tuple bt_tuple rfl) pa_nil))) (pe_callB call_isi rfl B.isinstance bt_isinstance (pa_cons (pv 0) (pa_cons (pe_bltn (v := .ty "tuple") rfl B.tuple bt_tuple rfl) pa_nil))) (nomark _)) (pw_or1 (pt_cmpR op_ne (pe_callB call_isi rfl B.isinstance bt_isinstance (pa_cons (pv 1) (pa_cons (pe_bltn (v := .ty "list") rfl B.list bt_list rfl) pa_nil))) (pe_callB call_isi rfl B.isinstance bt_isinstance (pa_cons (pv 0) (pa_cons (pe_bltn (v := .ty "list") rfl B.list bt_list rfl) pa_nil))) (nomark _))))) pss_never pss_nil) (pss_cons (ps_if (pt_not (pt_val (pe_callB call_isiT rfl B.isinstance bt_isinstance (pa_cons (pv 1) (pa_cons (pe_tup (pa_cons (pe_bltn (v := .ty "tuple") rfl B.tuple bt_tuple rfl) (pa_cons (pe_bltn (v := .ty "list") rfl B.list bt_list rfl) pa_nil))) pa_nil))))) pss_never pss_nil) (pss_one (ps_ret (pe_and (pe_cmpR op_eq (pe_callB call_len_seq rfl B.len bt_len (pa_cons (pv 0) pa_nil)) (pe_callB call_len_seq rfl B.len bt_len (pa_cons (pv 1) pa_nil)) (nomark _)) (pe_one (pe_callB (cr_all rfl) rfl B.all bt_all (pa_cons (pe_lc (own := [("_law_k", 2)]) (g := gName 2) (tt := tYes) rfl sc_like.nd (pi_range1 rfl B.range (pa_cons (pe_callB call_len_seq rfl B.len bt_len (pa_cons (pv 1) pa_nil)) pa_nil)) (blkOk_by (own := [("_law_k", 2)]) (N := ["_law_found", "_law_due", "_law_k"]) (sc := defScope s_like) (by decide +kernel)) (fun _ _ _ _ _ => pg_name (i := 2) sc_like.nd rfl (Or.inl rfl)) (fun _ _ _ _ _ => pts_nil) (fun _ _ _ _ _ => (pe_cal c_like hr (pa_cons (pe_ix (r := rIxL K) ix_list (pv 0) (pv 2) (fun _ _ => rfl)) (pa_cons (pe_ix (r := rIxL K) ix_list (pv 1) (pv 2) (fun _ _ => rfl)) pa_nil)) (Nat.le_refl _)))) pa_nil))))))))), ?_⟩
    refine ⟨_, rfl, _, _, _, _, _, rfl, .ty _, .base (TyOf.lst hq), kit_ty (by decide +kernel : kitB "list" "dict" = some false), _, rfl, iteF ?_⟩
    refine ⟨_, rfl, _, _, _, _, _, rfl, .ty _, .base (TyOf.lst hq), kit_ty (by decide +kernel : kitB "list" "tuple" = some false), _, rfl, _, _, _, _, _, rfl, .ty _, .base (TyOf.lst hp), kit_ty (by decide +kernel : kitB "list" "tuple" = some false), rfl, _, rfl, iteF ?_⟩
    refine ⟨_, rfl, _, _, _, _, _, rfl, .ty _, .base (TyOf.lst hq), kit_ty (by decide +kernel : kitB "list" "list" = some true), _, rfl, _, _, _, _, _, rfl, .ty _, .base (TyOf.lst hp), kit_ty (by decide +kernel : kitB "list" "list" = some true), rfl, _, rfl, iteF ?_⟩
    refine ⟨_, rfl, sz (by decide : 2 ≤ 100000), fun p1 hp1 => ?_⟩
    have g1 := same_new hp1 (.tup [.ty "tuple", .ty "list"])
    have hp' := g1 _ _ hp
    have hq' := g1 _ _ hq
    refine ⟨_, p1, _, _, _, true, rfl, upd_same, .cons (.ty _) (.cons (.ty _) .nil), .base (TyOf.lst hq'), kitAny_cons (kit_ty (by decide +kernel : kitB "list" "tuple" = some false)) (fun _ => kitAny_cons (kit_ty (by decide +kernel : kitB "list" "list" = some true)) (fun z => nomatch z) (fun _ => rfl)) (fun z => nomatch z), _, rfl, iteF ?_⟩
    refine ⟨_, rfl, p, xs, rfl, .inl (SqL.of hp'), _, rfl, q0, ys, rfl, .inl (SqL.of hq'), rfl, _, rfl, ?_⟩
    have el : V.int (xs.length : Int) = V.int (ys.length : Int) := by rw [hlen]
    refine if_pos' (decide_eq_true el) ?_
    refine ⟨_, rfl, q0, ys, rfl, .inl (SqL.of hq'), _, rfl, by omega, by omega, fun D hD => ?_⟩
    have en : ((ys.length : Int)).toNat = ys.length := by omega
    refine lc_range (lo := 0) (n := ((ys.length : Int)).toNat) (fun i H' => Same (upd H p1 (.tup [.ty "tuple", .ty "list"])) H' ∧ H' D = some (.lst ((List.replicate i true).map V.bl))) ?_ ?_ ?_
    · exact ⟨same_new hD _, upd_same⟩
    · rintro i H' hi ⟨sm, hd'⟩
      refine ⟨rfl, lc_yes ?_⟩
      have hi1 : i < xs.length := by omega
      have hi2 : i < ys.length := by omega
      refine ⟨_, rfl, _, rfl, p, xs, _, _, rfl, rfl, SqL.of (sm _ _ hp'), at_of (by omega) (List.getElem?_eq_getElem hi1), _, rfl, _, rfl, q0, ys, _, _, rfl, rfl, SqL.of (sm _ _ hq'), at_of (by omega) (List.getElem?_eq_getElem hi2), ?_⟩
      refine ⟨_, _, rfl, (hall i _ _ (List.getElem?_eq_getElem hi1) (List.getElem?_eq_getElem hi2)).same (g1.trans sm), fun H2 s2 => ?_⟩
      refine ⟨_, s2 _ _ hd', ?_, ?_, ?_⟩
      · rw [List.length_map, List.length_replicate]
        exact Nat.lt_of_lt_of_le (by omega : i < 100000) (sz (Nat.le_refl _))
      · exact fun a o e => by rw [upd_ne (ne_of_none e hD)]; exact s2 _ _ (sm _ _ e)
      · rw [upd_same, List.replicate_succ', List.map_append]
        rfl
    · rintro H' ⟨sm, hd'⟩
      refine ⟨D, _, rfl, SqL.of hd', ?_⟩
      have ea : (List.replicate ((ys.length : Int)).toNat true).all id = true := by simp
      rw [ea]
      exact q _ (g1.trans sm)

theorem ok_like (B : Blt mg) (F : Fun K "_law_like" "_law_like" s_like f fd) (b : Binds K fd ["_law_found", "_law_due"] []) (m : mg "_law_like" = some (.ref f)) : ∀ n : Nat, FnOk P w K mg base CX0 (n + 1) f fd ["_law_found", "_law_due"] (spLike n)
  | 0 => ok_like0 B F
  | n + 1 => ok_likeS B F ⟨f, fd, ok_like B F b m n, b, F.kp, m⟩
end
end DM

namespace DM
open PySem L2
/-- a pair of numbers from -40 to 40 -/
def Pt (H : Hp) (p : Addr) (x y : Int) : Prop := H p = some (.tup [.int x, .int y]) ∧ -40 ≤ x ∧ x ≤ 40 ∧ -40 ≤ y ∧ y ≤ 40
theorem Pt.same {H H' : Hp} {p : Addr} {x y : Int} (h : Pt H p x y) (e : Same H H') : Pt H' p x y := ⟨e _ _ h.1, h.2⟩
theorem Pt.but {H H' : Hp} {b l p : Addr} {x y : Int} (h : Pt H p x y) (hB : BagAt H b l) (e : But b H H') : Pt H' p x y := ⟨e _ _ (bag_tup hB h.1) h.1, h.2⟩
def spClip : Sp := fun vs H Q _ => ∃ n : Int, vs = [.int n] ∧ ∀ r : Int, -40 ≤ r → r ≤ 40 → Q (.int r) H
def spSpot : Sp := fun vs H Q _ => ∃ (b l pb : Addr) (x y m : Int), vs = [.ref b, .ref pb, .int m] ∧ BagAt H b l ∧ H pb = some (.tup [.int x, .int y]) ∧ 0 < m ∧ m ≤ 1000 ∧ ∀ (p : Addr) (H' : Hp) (x' y' : Int), BagAt H' b l → But b H H' → Pt H' p x' y' → Q (.ref p) H'
def spBase : Sp := fun vs H Q _ => ∃ (b l : Addr), vs = [.ref b] ∧ BagAt H b l ∧ ∀ (p : Addr) (H' : Hp) (x y : Int), BagAt H' b l → But b H H' → H' p = some (.tup [.int x, .int y]) → Q (.ref p) H'
section
variable {P : Program} {w : World} {K : PySem.W.Frag} {mg : Str → Option Value} {base : Heap} {f : Addr} {fd : FuncData}
abbrev s_clipped : Stmt := top 9
theorem sc_clipped : FnScope ["_law_number"] ["_law_number"] (defScope s_clipped) := ⟨rfl, rfl, rfl, by decide +kernel, rfl, by decide +kernel, by decide +kernel⟩
theorem ok_clipped (B : Blt mg) (F : Fun K "_law_clipped" "_law_clipped" s_clipped f fd) : FnOk P w K mg base CX0 1 f fd ["_law_number"] spClip := by
  refine F.ok sc_clipped (fun vs H Q E h => ?_) (fun cdv A outer s H vs Q E hr h => ?_)
  · obtain ⟨n, rfl, _⟩ := h
    rfl
  obtain ⟨n, rfl, q⟩ := h
  refine ⟨_, (pss_one (ps_ret (pe_callB (call_max2 rfl) rfl B.max bt_max (pa_cons (pe_un un_neg pe_int) (pa_cons (pe_callB (call_min2 rfl) rfl B.min bt_min (pa_cons pe_int (pa_cons (pv 0) pa_nil))) pa_nil))))), ?_⟩
  refine ⟨_, rfl, _, rfl, _, _, rfl, _, _, rfl, ?_⟩
  refine q _ ?_ ?_ <;> split <;> split <;> omega
abbrev s_spot : Stmt := top 10
theorem sc_spot : FnScope ["_law_bag_here", "_law_base", "_law_wide", "_law_x"] ["_law_bag_here", "_law_base", "_law_wide"] (defScope s_spot) := ⟨rfl, rfl, rfl, by decide +kernel, rfl, by decide +kernel, by decide +kernel⟩
theorem ok_spot (c_pull : Cal P w K mg base 1 "_law_pull" ["_law_bag_here", "_law_amount"] spPull) (c_clipped : Cal P w K mg base 1 "_law_clipped" ["_law_number"] spClip) (F : Fun K "_law_spot" "_law_spot" s_spot f fd) : FnOk P w K mg base CX0 2 f fd ["_law_bag_here", "_law_base", "_law_wide"] spSpot := by
  refine F.ok sc_spot (fun vs H Q E h => ?_) (fun cdv A outer s H vs Q E hr h => ?_)
  · obtain ⟨b, l, pb, x, y, m, rfl, _⟩ := h
    rfl
  obtain ⟨b, l, pb, x, y, m, rfl, hB, hp, m0, m1, q⟩ := h
  refine ⟨_, (pss_cons (ps_set (i := 3) sc_spot.nd rfl (Or.inl rfl) (pe_cal c_clipped hr (pa_cons (pe_op op_sub (pe_op op_add (pe_ix ix_tup (pv 1) pe_int (fun _ _ => rfl)) (pe_cal c_pull hr (pa_cons (pv 0) (pa_cons (pe_op op_add (pe_op op_mul pe_int (pv 2)) pe_int) pa_nil)))) (pv 2)) pa_nil)))
    (pss_one (ps_ret (pe_tup (pa_cons (pv 3) (pa_cons (pe_cal c_clipped hr (pa_cons (pe_op op_sub (pe_op op_add (pe_ix ix_tup (pv 1) pe_int (fun _ _ => rfl)) (pe_cal c_pull hr (pa_cons (pv 0) (pa_cons (pe_op op_add (pe_op op_mul pe_int (pv 2)) pe_int) pa_nil)))) (pv 2)) pa_nil)) pa_nil)))))), ?_⟩
  refine ⟨_, rfl, pb, _, _, _, rfl, rfl, SqT.of hp, rfl, _, rfl, _, rfl, _, _, rfl, rfl, .inl ⟨by decide, by decide⟩, _, _, rfl, rfl, b, _, _, rfl, hB, by omega, by omega, fun r1 H1 hB1 bt1 r10 r11 => ?_⟩
  refine ⟨_, _, rfl, rfl, _, rfl, _, _, rfl, rfl, _, rfl, fun x' hx1 hx2 => ?_⟩
  have hp1 := bt1 _ _ (bag_tup hB hp) hp
  refine ⟨_, rfl, _, rfl, pb, _, _, _, rfl, rfl, SqT.of hp1, rfl, _, rfl, _, rfl, _, _, rfl, rfl, .inl ⟨by decide, by decide⟩, _, _, rfl, rfl, b, _, _, rfl, hB1, by omega, by omega, fun r2 H2 hB2 bt2 r20 r21 => ?_⟩
  refine ⟨_, _, rfl, rfl, _, rfl, _, _, rfl, rfl, _, rfl, fun y' hy1 hy2 => ?_⟩
  refine ⟨sz (by decide : 2 ≤ 100000), fun p hpn => ?_⟩
  exact q p _ x' y' (hB2.same (same_new hpn _)) ((bt1.trans bt2).trans (But.of (same_new hpn _))) ⟨upd_same, hx1, hx2, hy1, hy2⟩
end
end DM

namespace DM
open PySem L2
/-- a pair of numbers as data -/
theorem dp_pair {K : PySem.W.Frag} {H : Hp} {p : Addr} {x y : Int} (h : H p = some (.tup [.int x, .int y])) : Dp K H (.ref p) (.tuple [.int x, .int y]) := .tup (SqT.of h) (.cons (.int x) (.cons (.int y) .nil))
theorem dp_four {K : PySem.W.Frag} {H : Hp} {p : Addr} {x y z w : Int} (h : H p = some (.tup [.int x, .int y, .int z, .int w])) : Dp K H (.ref p) (.tuple [.int x, .int y, .int z, .int w]) := .tup (SqT.of h) (.cons (.int x) (.cons (.int y) (.cons (.int z) (.cons (.int w) .nil))))
theorem eqv_pair (a b c d : Int) : PyData.eqv (.tuple [.int a, .int b]) (.tuple [.int c, .int d]) = decide (a = c ∧ b = d) := by
  simp only [PyData.eqv, PyData.eqvAll, Bool.and_true, Bool.decide_and]
  rfl
theorem shaped_pair (a b : Int) : SeqAt.shaped (.tuple [.int a, .int b]) = true := by
  first | rfl | simp [SeqAt.shaped, PyData.canLay0, PyData.depth]
end DM

namespace DM
open PySem L2
/-! ### a stroke as a tuple -/
def Stk (H : Hp) (p : Addr) (x1 y1 x2 y2 : Int) : Prop := H p = some (.tup [.int x1, .int y1, .int x2, .int y2]) ∧ (-40 ≤ x1 ∧ x1 ≤ 40 ∧ -40 ≤ y1 ∧ y1 ≤ 40 ∧ -40 ≤ x2 ∧ x2 ≤ 40 ∧ -40 ≤ y2 ∧ y2 ≤ 40) ∧ ¬ (x1 = x2 ∧ y1 = y2)
theorem Stk.same {H H' : Hp} {p : Addr} {x1 y1 x2 y2 : Int} (h : Stk H p x1 y1 x2 y2) (e : Same H H') : Stk H' p x1 y1 x2 y2 := ⟨e _ _ h.1, h.2⟩
theorem Stk.but {H H' : Hp} {b l p : Addr} {x1 y1 x2 y2 : Int} (h : Stk H p x1 y1 x2 y2) (hB : BagAt H b l) (e : But b H H') : Stk H' p x1 y1 x2 y2 := ⟨e _ _ (bag_tup hB h.1) h.1, h.2⟩
def spStroke : Sp := fun vs H Q _ => ∃ (b l pb : Addr) (x y m : Int), vs = [.ref b, .ref pb, .int m] ∧ BagAt H b l ∧ H pb = some (.tup [.int x, .int y]) ∧ 0 < m ∧ m ≤ 1000 ∧ ∀ (p : Addr) (H' : Hp) (x1 y1 x2 y2 : Int), BagAt H' b l → But b H H' → Stk H' p x1 y1 x2 y2 → Q (.ref p) H'
section
variable {P : Program} {w : World} {K : PySem.W.Frag} {mg : Str → Option Value} {base : Heap} {f : Addr} {fd : FuncData}
end
end DM

namespace DM
open PySem L2
/-! ### lists of pairs -/
def PrV (H : Hp) (v : V) (p : Int × Int) : Prop := ∃ a : Addr, v = .ref a ∧ H a = some (.tup [.int p.1, .int p.2])
inductive Prs (H : Hp) : List V → List (Int × Int) → Prop
  | nil : Prs H [] []
  | cons {v : V} {p : Int × Int} {vs : List V} {L : List (Int × Int)} : PrV H v p → Prs H vs L → Prs H (v :: vs) (p :: L)
theorem PrV.same {H H' : Hp} {v : V} {p : Int × Int} (h : PrV H v p) (e : Same H H') : PrV H' v p := by
  obtain ⟨a, rfl, z⟩ := h
  exact ⟨a, rfl, e _ _ z⟩
theorem Prs.same {H H' : Hp} {vs : List V} {L : List (Int × Int)} (h : Prs H vs L) (e : Same H H') : Prs H' vs L := by
  induction h with
  | nil => exact .nil
  | cons a _ ih => exact .cons (a.same e) ih
theorem Prs.len {H : Hp} {vs : List V} {L : List (Int × Int)} (h : Prs H vs L) : vs.length = L.length := by
  induction h with
  | nil => rfl
  | cons a _ ih => rw [List.length_cons, List.length_cons, ih]
theorem Prs.snoc {H : Hp} {vs : List V} {L : List (Int × Int)} {v : V} {p : Int × Int} (h : Prs H vs L) (hv : PrV H v p) : Prs H (vs ++ [v]) (L ++ [p]) := by
  induction h with
  | nil => exact .cons hv .nil
  | cons a _ ih => exact .cons a ih
theorem Prs.at {H : Hp} {vs : List V} {L : List (Int × Int)} (h : Prs H vs L) : ∀ {i : Nat} {v : V}, vs[i]? = some v → ∃ p, L[i]? = some p ∧ PrV H v p := by
  induction h with
  | nil => intro i v hv; cases hv
  | cons a _ ih =>
    intro i v hv
    cases i with
    | zero => cases hv; exact ⟨_, rfl, a⟩
    | succ i => exact ih hv
theorem Prs.get {H : Hp} {vs : List V} {L : List (Int × Int)} (h : Prs H vs L) : ∀ {i : Nat} {p : Int × Int}, L[i]? = some p → ∃ v, vs[i]? = some v ∧ PrV H v p := by
  induction h with
  | nil => intro i v hv; cases hv
  | cons a _ ih =>
    intro i v hv
    cases i with
    | zero => cases hv; exact ⟨_, rfl, a⟩
    | succ i => exact ih hv
/-- but for what stands at a list -/
theorem Prs.but {H H' : Hp} {vs : List V} {L : List (Int × Int)} {l : Addr} (h : Prs H vs L) (hl : ∀ xs, H l ≠ some (.tup xs)) (e : ∀ a o, a ≠ l → H a = some o → H' a = some o) : Prs H' vs L := by
  induction h with
  | nil => exact .nil
  | cons a _ ih =>
    obtain ⟨b, rfl, z⟩ := a
    exact .cons ⟨b, rfl, e _ _ (fun y => hl _ (y ▸ z)) z⟩ ih
end DM

namespace DM
open PySem L2
/-! ### pairs, and lists of pairs, as data -/
theorem u65 {k : Nat} {A : Around} (r : Room k A) : A.units + 65 < cLine := by have := r.un; omega
def prD (p : Int × Int) : PyData := .tuple [.int p.1, .int p.2]
theorem take_snoc {α : Type} {L : List α} {i : Nat} {p : α} (h : L[i]? = some p) : L.take (i + 1) = L.take i ++ [p] := by
  rw [List.take_add_one, h]
  rfl
theorem dp_prV {K : PySem.W.Frag} {H : Hp} {v : V} {p : Int × Int} (h : PrV H v p) : Dp K H v (prD p) := by
  obtain ⟨a, rfl, z⟩ := h
  exact dp_pair z
theorem dp_prAll {K : PySem.W.Frag} {H : Hp} {vs : List V} {L : List (Int × Int)} (h : Prs H vs L) : DpAll K H vs (L.map prD) := by
  induction h with
  | nil => exact .nil
  | cons a _ ih => exact .cons (dp_prV a) ih
theorem dp_prs {K : PySem.W.Frag} {H : Hp} {r : Addr} {vs : List V} {L : List (Int × Int)} (e : H r = some (.lst vs)) (h : Prs H vs L) : Dp K H (.ref r) (.list (L.map prD)) := .lst (SqL.of e) (dp_prAll h)
theorem lay_prs : ∀ L : List (Int × Int), PyData.canLayAll0 (L.map prD) = true ∧ PyData.depthAll (L.map prD) ≤ 1
  | [] => ⟨rfl, by decide⟩
  | p :: L => by
    have ih := lay_prs L
    rw [List.map_cons]
    unfold PyData.canLayAll0 PyData.depthAll
    rw [ih.1]
    refine ⟨rfl, ?_⟩
    have e : PyData.depth (prD p) = 1 := by unfold prD; simp only [PyData.depth, PyData.depthAll]; rfl
    rw [e]
    omega
theorem shaped_prs (L : List (Int × Int)) : SeqAt.shaped (.list (L.map prD)) = true := by
  have h := lay_prs L
  unfold SeqAt.shaped
  have e1 : PyData.canLay0 (.list (L.map prD)) = true := by unfold PyData.canLay0; exact h.1
  have e2 : PyData.depth (.list (L.map prD)) ≤ 64 := by unfold PyData.depth; omega
  rw [e1, decide_eq_true e2]
  rfl
theorem shaped_prD (p : Int × Int) : SeqAt.shaped (prD p) = true := shaped_pair _ _
theorem eqv_prD (p q : Int × Int) : PyData.eqv (prD p) (prD q) = decide (p = q) := by
  unfold prD
  rw [eqv_pair]
  apply decide_eq_decide.mpr
  exact ⟨fun h => Prod.ext h.1 h.2, fun h => ⟨congrArg Prod.fst h, congrArg Prod.snd h⟩⟩
theorem eqvAll_prs : ∀ L M : List (Int × Int), PyData.eqvAll (L.map prD) (M.map prD) = decide (L = M)
  | [], [] => rfl
  | [], _ :: _ => rfl
  | _ :: _, [] => rfl
  | p :: L, q :: M => by
    rw [List.map_cons, List.map_cons]
    unfold PyData.eqvAll
    rw [eqv_prD, eqvAll_prs L M, ← Bool.decide_and]
    apply decide_eq_decide.mpr
    rw [List.cons.injEq]
theorem eqv_prs (L M : List (Int × Int)) : PyData.eqv (.list (L.map prD)) (.list (M.map prD)) = decide (L = M) := by
  unfold PyData.eqv
  exact eqvAll_prs L M
theorem any_prs (L : List (Int × Int)) (p : Int × Int) : ((L.map prD).any fun z => PyData.eqv z (prD p)) = decide (p ∈ L) := by
  induction L with
  | nil => rfl
  | cons q L ih =>
    rw [List.map_cons, List.any_cons, ih, eqv_prD, ← Bool.decide_or]
    apply decide_eq_decide.mpr
    rw [List.mem_cons]
    exact ⟨fun h => h.imp Eq.symm id, fun h => h.imp Eq.symm id⟩
end DM

namespace DM
open PySem PySem.Spec PyProof.Rows L2 LamX NdefX
/-! ### a lambda with one parameter, called -/
abbrev lamF (q : Str) (params : Arguments) (scope : Scope) (cl : List (Str × Addr)) (c : Addr) : NF := ⟨"<lambda>", q, params, [], scope, cl, c⟩
abbrev lamF' (X : Cx) (params : Arguments) (scope : Scope) (c : Addr) : NF := lamF (X.env.qual ++ "<lambda>") params scope (cloFrom X.env.cells scope.names []) c
section
variable {X : Cx} {pins : List (Addr × Obj)} {σ : L2.St} {H : Hp} {s : Shared}
theorem lam_one {f c : Addr} {pm ctv : Value} {params : Arguments} {body : Expr} {scope : Scope} {N fr : List Str} {x : Str} {js : List Nat} {k : Nat} {A : Around} {t : TE} {v : V} {u : Value} {Q : VK}
    (I : Inv X pins σ H s) (S : NScope N [x] fr scope) (lam : s.heap.get? f = some (PySem.W.kla_obj "<lambda>" (X.env.qual ++ "<lambda>") params body scope (cloFrom X.env.cells scope.names []) pm c ctv))
    (isC : H c = some (CodeO c (X.env.qual ++ "<lambda>"))) (cp : Caps X (cloFrom X.env.cells scope.names []) fr js)
    (bound : bindArgs (PySem.W.kla_fn "<lambda>" (X.env.qual ++ "<lambda>") params body scope (cloFrom X.env.cells scope.names []) pm (.ref c) ctv) ⟨[u], []⟩ = pure [(x, u)])
    (room : Room (k + 1) A) (e0 : Env0 X.prog X.w X.K X.mg X.base A X.stack s H)
    (inner : PE (ncx C8.CX0 X.prog X.w X.K X.mg X.base N (lamF' X params scope c) f A X.stack s H C8.E0) body t) (r : RelV v u) (want : t (startF N [v] (js.map (slotAt σ))) H Q) :
    codeAny (model X.prog X.w) A (.call (.ref f) ⟨[u], []⟩) (CR C8.CX0 X.stack X.prog X.w H s Q C8.E0) s := by
  refine PySem.W.kla_callFunE room.depth lam rfl S.co S.gen rfl (codeO_at I.hok isC) ?_
  rw [bound]
  have par : scope.names.lookup x = some .local := S.par x List.mem_cons_self
  refine wpAny_pure (wpAny_newFunctionEnv S.nocell (fun y hy => by cases List.mem_singleton.mp hy; exact par) (fun hN ns same => ⟨I.nolimit.fresh _ same, ?_⟩) S.kind)
  show codeAny _ _ (.expr body (envF (lamF' X params scope c) f s.heap.objs.size)) _ _
  have kept : ∀ b o, s.heap.get? b = some o → hN.get? b = some o := fun b o z => same.extBut b o (Nat.ne_of_lt (Heap.lt_size z)) (Heap.get?_push_of_some _ z)
  have J : Inv (ncx C8.CX0 X.prog X.w X.K X.mg X.base N (lamF' X params scope c) f A X.stack s H C8.E0) [] (startF N [v] (js.map (slotAt σ))) H { s with heap := hN, toks := s.toks + ([(x, u)] : List (Str × Value)).length } :=
    inv_startN (F := lamF' X params scope c) (ps := [x]) (us := [u]) (vs := [v]) S room.hd e0 rfl (.cons r .nil) (cells_of I cp) ns kept
  refine PySem.W.kla_codeExpr (wpAny_mono (inner.run [] _ _ H Q J want) (fun v2 s3 got => ?_) fun er s3 bad => bad)
  obtain ⟨v', J3, I3, r3, q3⟩ := got
  exact ⟨v', J3, I3.os, I3.bare, I3.base, I3.hok, r3, q3⟩
end
/-! ### keys: a number, or a pair of numbers -/
def KeyR (H : Hp) (v : V) (d : PyData) : Prop := (∃ n : Int, v = .int n ∧ d = .int n) ∨ ∃ (p : Addr) (m n : Int), v = .ref p ∧ H p = some (.tup [.int m, .int n]) ∧ d = .tuple [.int m, .int n]
theorem KeyR.keep {H H' : Hp} {v : V} {d : PyData} (h : KeyR H v d) (e : ∀ b xs, H b = some (.tup xs) → H' b = some (.tup xs)) : KeyR H' v d := by
  rcases h with h | ⟨p, m, n, h1, h2, h3⟩
  · exact .inl h
  · exact .inr ⟨p, m, n, h1, e _ _ h2, h3⟩
theorem KeyR.dp {K : PySem.W.Frag} {H : Hp} {v : V} {d : PyData} (h : KeyR H v d) : Dp K H v d := by
  rcases h with ⟨n, rfl, rfl⟩ | ⟨p, m, n, rfl, h2, rfl⟩
  · exact .int n
  · exact dp_pair h2
theorem KeyR.deep {H : Hp} {v : V} {d : PyData} (h : KeyR H v d) : d.depth ≤ 1 := by
  rcases h with ⟨n, rfl, rfl⟩ | ⟨p, m, n, rfl, h2, rfl⟩
  · simp [PyData.depth]
  · simp [PyData.depth, PyData.depthAll]
/-- keys so far -/
inductive KeysR (H : Hp) : List V → List PyData → Prop
  | nil : KeysR H [] []
  | cons {v : V} {d : PyData} {vs : List V} {ds : List PyData} : KeyR H v d → KeysR H vs ds → KeysR H (v :: vs) (d :: ds)
theorem KeysR.keep {H H' : Hp} {vs : List V} {ds : List PyData} (h : KeysR H vs ds) (e : ∀ b xs, H b = some (.tup xs) → H' b = some (.tup xs)) : KeysR H' vs ds := by
  induction h with
  | nil => exact .nil
  | cons a _ ih => exact .cons (a.keep e) ih
theorem KeysR.snoc {H : Hp} {v : V} {d : PyData} {vs : List V} {ds : List PyData} (h : KeysR H vs ds) (a : KeyR H v d) : KeysR H (vs ++ [v]) (ds ++ [d]) := by
  induction h with
  | nil => exact .cons a .nil
  | cons b _ ih => exact .cons b ih
theorem KeysR.length {H : Hp} {vs : List V} {ds : List PyData} (h : KeysR H vs ds) : vs.length = ds.length := by
  induction h with
  | nil => rfl
  | cons _ _ ih => rw [List.length_cons, List.length_cons, ih]
section
variable {X : Cx} {pins : List (Addr × Obj)} {σ : L2.St} {H : Hp} {s : Shared}
theorem KeysR.reads (I : Inv X pins σ H s) : ∀ {vs : List V} {ds : List PyData} {us : List Value}, KeysR H vs ds → Vals vs us → PySem.W.EachIs (fun v d => ∃ as, Reads s.heap v d as) us ds
  | [], _, _, .nil, r => by cases r; exact .nil
  | _ :: _, _, _, .cons a t, r => by
    cases r with
    | cons h r' => exact .cons (Dp.reads I _ _ _ a.dp h) (KeysR.reads I t r')
/-- the object at a is the empty list, this very object -/
def BareL (a : Addr) (e1 : Nat) : HO := .ext fun h => h.get? a = some (seqObj "list" #[] e1)
/-- what was not tracked is not tracked, and stands, but for frames -/
def KeptO (X : Cx) (H : Hp) (s₀ : Shared) (Hc : Hp) (s : Shared) : Prop := ∀ b o, s₀.heap.get? b = some o → H b = none → Hc b = none ∧ (b ∉ frs X.stack → s.heap.get? b = some o) ∧ ∃ o', s.heap.get? b = some o'
theorem KeptO.step {X : Cx} {H Hc H2 : Hp} {s₀ s s2 : Shared} (h : KeptO X H s₀ Hc s) (un : Un (frs X.stack) [] Hc H2 s.heap s2.heap) : KeptO X H s₀ H2 s2 := fun b o e n => by
  obtain ⟨h1, h2, o', h3⟩ := h b o e n
  exact ⟨un.free b o' h3 h1 (by simp), fun hb => un.keep b o (h2 hb) h1 hb (by simp), un.there b o' h3 (by simp)⟩
/-- what the sort knows at turn i -/
def KeyInv (X : Cx) (pins : List (Addr × Obj)) (σ : L2.St) (H : Hp) (s₀ : Shared) (a kS : Addr) (e1 : Nat) (kz : List PyData) (i : Nat) (s : Shared) : Prop :=
  ∃ (Hc : Hp) (kv : List V), Inv X pins σ Hc s ∧ KeptO X H s₀ Hc s ∧ Same H Hc ∧ Hc a = some (BareL a e1) ∧ Hc kS = some (.lst kv) ∧ KeysR Hc kv (kz.take i)
theorem same_tup {H H' : Hp} (e : Same H H') : ∀ b xs, H b = some (.tup xs) → H' b = some (.tup xs) := fun b _ z => e b _ z
/-- behind the making of one key: the store has one more -/
theorem key_push {a kS : Addr} {e1 i : Nat} {kz : List PyData} {d : PyData} {Hc : Hp} {kv : List V} {s2 : Shared} {w' : Value} {v' : V} {H2 : Hp} (sm : Same H Hc) (hkr : KeysR Hc kv (kz.take i)) (hk : kz[i]? = some d) (hz : kz.length ≤ sizeLine) (hne : kS ≠ a) (nkH : H kS = none) {s₀ : Shared} (nkS : s₀.heap.objs.size ≤ kS) (ko : KeptO X H s₀ H2 s2)
    (I2 : Inv X pins σ H2 s2) (rv : RelV v' w') (sm2 : Same Hc H2) (hkey : KeyR H2 v' d) (hkS2 : H2 kS = some (.lst kv)) (ha2 : H2 a = some (BareL a e1)) :
    ∃ (its : List Value) (n : Nat), s2.heap.get? kS = some (seqObj "list" its.toArray n) ∧ its.length < kz.length ∧ KeyInv X pins σ H s₀ a kS e1 kz (i + 1) { s2 with heap := s2.heap.update kS (Obj.mapSeq (·.push w')) } := by
  obtain ⟨hlen, its, n, rvs, hob⟩ := I2.hok kS _ hkS2
  have hl1 : kv.length = (kz.take i).length := hkr.length
  have hi : i < kz.length := (List.getElem?_eq_some_iff.mp hk).1
  have hl2 : kv.length = i := by rw [hl1, List.length_take]; omega
  have hl3 := rvs.length
  have hob' : s2.heap.get? kS = some (seqObj "list" its.toArray n) := hob
  refine ⟨its, n, hob', by omega, ?_⟩
  obtain ⟨c2, hc2⟩ : ∃ c2, (s2.heap.update kS (Obj.mapSeq (·.push w'))).get? kS = some (seqObj "list" (its.toArray.push w') c2) := ⟨_, get?_update_seq hob' (·.push w')⟩
  have s1 := Heap.SameBut.update s2.heap kS (Obj.mapSeq (·.push w'))
  have ea : its.toArray.push w' = (its ++ [w']).toArray := by simp
  have I3 : Inv X pins σ (upd H2 kS (.lst (kv ++ [v']))) { s2 with heap := s2.heap.update kS (Obj.mapSeq (·.push w')), toks := s2.toks } :=
    I2.write (x := kS) (e := kS) (by rw [hkS2]; trivial) (.inl rfl) (fun b o hb z => (s1.2 b hb).trans z) ⟨_, hc2⟩
      ⟨by rw [List.length_append, List.length_singleton]; omega, its ++ [w'], c2, rvs.snoc rv, by rw [hc2, ea]⟩
  refine ⟨_, _, I3, (fun b o e n => ?_), (fun b o z => ?_), ?_, upd_same, ?_⟩
  · have nb : b ≠ kS := Nat.ne_of_lt (Nat.lt_of_lt_of_le (Heap.lt_size e) nkS)
    obtain ⟨h1, h2, o', h3⟩ := ko b o e n
    exact ⟨by rw [upd_ne nb]; exact h1, fun hb => (s1.2 b nb).trans (h2 hb), o', (s1.2 b nb).trans h3⟩
  · have nb : b ≠ kS := fun q => by rw [q, nkH] at z; cases z
    rw [upd_ne nb]
    exact sm2 _ _ (sm _ _ z)
  · rw [upd_ne (Ne.symm hne)]
    exact ha2
  · have up : ∀ b xs, H2 b = some (.tup xs) → (upd H2 kS (.lst (kv ++ [v']))) b = some (.tup xs) := fun b xs z => by
      have nb : b ≠ kS := fun q => by rw [q, hkS2] at z; cases z
      rw [upd_ne nb]
      exact z
    rw [take_snoc hk]
    exact (hkr.keep fun b xs z => up b xs (same_tup sm2 b xs z)).snoc (hkey.keep up)
/-- the list is laid anew, the store goes: what the frame knows behind it -/
def laidH (Hc : Hp) (a kS : Addr) (ys : List V) : Hp := fun b => if b = kS then none else if b = a then some (.lst ys) else Hc b
theorem key_done {a kS : Addr} {e1 c : Nat} {Hc : Hp} {kv ys : List V} {out : List Value} {h' : Heap} {tk : Nat} (I : Inv X pins σ Hc s) (ha : Hc a = some (BareL a e1)) (hk : Hc kS = some (.lst kv)) (hne : kS ≠ a)
    (nkS : X.s_0.heap.objs.size ≤ kS) (kp : PySem.W.KeepsBut a (PySem.W.hideAll s.heap [kS]) h') (hD : h'.get? a = some (seqObj "list" out.toArray c)) (hz : ys.length ≤ sizeLine) (rv : Vals ys out) :
    Inv X pins σ (laidH Hc a kS ys) { s with heap := h', toks := tk } := by
  have k : ∀ b o, b ≠ kS → b ≠ a → s.heap.get? b = some o → h'.get? b = some o := fun b o n1 n2 z => kp b o n2 (PySem.W.hideAll_get _ z (by simpa using n1))
  have at_ : ∀ b, b ≠ kS → b ≠ a → laidH Hc a kS ys b = Hc b := fun b n1 n2 => by unfold laidH; rw [if_neg n1, if_neg n2]
  have atA : laidH Hc a kS ys a = some (.lst ys) := by unfold laidH; rw [if_neg (Ne.symm hne), if_pos rfl]
  have n1 : ∀ {b u}, Hc b = some u → (∀ zs, u ≠ .lst zs) → b ≠ kS := fun {b u} z n q => by rw [q, hk] at z; exact n _ (Option.some.inj z).symm
  have n2 : ∀ {b u}, Hc b = some u → (∀ φ, u ≠ .ext φ) → b ≠ a := fun {b u} z n q => by rw [q, ha] at z; exact n _ (Option.some.inj z).symm
  have u1 : ∀ {b}, Hc b = none → b ≠ kS := fun {b} z q => by rw [q, hk] at z; cases z
  have u2 : ∀ {b}, Hc b = none → b ≠ a := fun {b} z q => by rw [q, ha] at z; cases z
  refine I.step (g' := s.gens) (d' := s.drawn) (ch := [kS]) (fun b hb => ?_) (fun b o _ _ _ e n => k b o (u1 n) (u2 n) e) (fun b o _ _ _ e n => ⟨o.slots, k b o (u1 n) (u2 n) e⟩) (fun b o _ e n => by rw [at_ b (u1 n) (u2 n)]; exact n) (fun b o nb e => ?_)
    (fun b xs e => by rw [at_ b (n1 e (fun _ z => by cases z)) (n2 e (fun _ z => by cases z))]; exact e) (fun b o u e => by rw [at_ b (n1 e (fun _ z => by cases z)) (n2 e (fun _ z => by cases z))]; exact e)
    (fun b ps e => by rw [at_ b (n1 e (fun _ z => by cases z)) (n2 e (fun _ z => by cases z)), e]; exact ⟨#[], by simp⟩) (fun m hn => ?_) (fun b u e => ?_) I.bare
  · cases List.mem_singleton.mp hb
    exact ⟨.inr nkS, Ne.symm (u1 I.free), fun x c z => u1 (I.freeC x c z), fun p hp => u1 (I.pin p hp).2.1⟩
  · by_cases hb : b = a
    · rw [hb]
      exact ⟨_, hD⟩
    · exact ⟨o, k b o (fun q => nb (by rw [q]; exact List.mem_singleton.mpr rfl)) hb e⟩
  · obtain ⟨ob, es, ep, ho, r⟩ := hn
    exact ⟨ob, es, ep, k _ ob (u1 I.free) (u2 I.free) ho, r⟩
  · by_cases hb : b = kS
    · unfold laidH at e
      rw [if_pos hb] at e
      cases e
    · by_cases hb2 : b = a
      · rw [hb2, atA] at e
        cases e
        rw [hb2]
        exact ⟨hz, out, c, rv, hD⟩
      · rw [at_ b hb hb2] at e
        refine (I.hok b u e).stay (fun d v hd q => k d v ?_ ?_ q) (fun d q => by rw [at_ d (n1 q (fun _ z => by cases z)) (n2 q (fun _ z => by cases z))]; exact q) fun d xs q => by rw [at_ d (n1 q (fun _ z => by cases z)) (n2 q (fun _ z => by cases z))]; exact q
        · rcases hd with z | z
          · rw [z]
            exact hb
          · exact n1 z (fun _ z => by cases z)
        · rcases hd with z | z
          · rw [z]
            exact hb2
          · exact n2 z (fun _ z => by cases z)
end
/-! ### sorted(l, key=..) -/
section
variable {X : Cx} {pins : List (Addr × Obj)} {σ : L2.St} {H : Hp} {s : Shared}
theorem each_rel : ∀ {bs : List V} {us : List Value}, Vals bs us → PySem.W.EachIs (fun u (b : V) => RelV b u) us bs
  | [], _, r => by cases r; exact .nil
  | b :: bs, _, r => by
    cases r with
    | cons h t => exact .cons h (each_rel t)
theorem rel_each : ∀ {bs : List V} {us : List Value}, PySem.W.EachIs (fun u (b : V) => RelV b u) us bs → Vals bs us
  | [], _, .nil => .nil
  | _ :: _, _, .cons h t => .cons h (rel_each t)
theorem rel_at : ∀ {bs : List V} {us : List Value} {i : Nat} {u : Value}, Vals bs us → us[i]? = some u → ∃ b, bs[i]? = some b ∧ RelV b u
  | _, _, _, _, .nil, h => by simp at h
  | _, _, 0, _, .cons r _, h => by
    simp at h
    subst h
    exact ⟨_, rfl, r⟩
  | _, _, i + 1, _, .cons _ t, h => by
    obtain ⟨b, e, r⟩ := rel_at (i := i) t (by simpa using h)
    exact ⟨b, by simpa using e, r⟩
/-- the sort itself, of the copied items -/
theorem key_tree {A : Around} {E : Value → Shared → Prop} {a f : Addr} {xs : List V} {its : List Value} {k : V → PyData} {Q : VK} (ea : a = s.heap.objs.size + 1) (I : Inv X pins σ H s) (rv : Vals xs its) (hz : xs.length ≤ sizeLine)
    (hal : PySem.W.AllAlike (xs.map k)) (hso : PySem.W.Sortable (xs.map k)) (hu : A.units + 2 < cLine) (hdp : ∀ x ∈ xs, (k x).depth ≤ 1)
    (turn : ∀ (x : V) (u : Value) (s' : Shared) (Hc : Hp), x ∈ xs → RelV x u → Inv X pins σ Hc s' → Same H Hc → KeptO X H s Hc s' →
      codeAny (model X.prog X.w) A (.call (.ref f) ⟨[u], []⟩) (CR C8.CX0 X.stack X.prog X.w Hc s' (fun v H' => Same Hc H' ∧ KeyR H' v (k x)) C8.E0) s')
    (q : ∀ H' : Hp, Same H H' → H a = none → H' a = some (.lst (xs.mergeSort (PySem.W.dataLe false k))) → Q (.ref a) H') :
    wpAny (model X.prog X.w) A (ksk_tree a (.ref f) false) (fun r s' => r = .done (.ret .none) ∧ EP X pins σ Q (.ref a) s') E { s with heap := PySem.W.copyHeap s.heap its } := by
  have hil : its.length ≤ sizeLine := by rw [← rv.length]; exact hz
  have whole : (PySem.W.copyHeap s.heap its).get? a = some (seqObj "list" its.toArray 0) := by rw [ea]; exact PySem.W.copyHeap_at s.heap its
  obtain ⟨e1, bareA⟩ : ∃ e1, ((PySem.W.copyHeap s.heap its).update a (Obj.mapSeq fun _ => (#[] : Array Value))).get? a = some (seqObj "list" #[] e1) := ⟨_, get?_update_seq whole fun _ => #[]⟩
  have keepA : ∀ b u, s.heap.get? b = some u → (((PySem.W.copyHeap s.heap its).update a (Obj.mapSeq fun _ => (#[] : Array Value))).push (seqObj "tuple" its.toArray 0)).get? b = some u := fun b u z =>
    Heap.get?_push_of_some _ ((Heap.get?_update_ne _ _ _ _ (by rw [ea]; exact Nat.ne_of_lt (Nat.lt_succ_of_lt (Heap.lt_size z)))).trans (PySem.W.copyHeap_old z))
  have nA : H a = none := I.hok.fresh (by rw [ea]; exact Nat.le_succ _)
  have I1 : Inv X pins σ (upd H a (BareL a e1)) { s with heap := ((PySem.W.copyHeap s.heap its).update a (Obj.mapSeq fun _ => (#[] : Array Value))).push (seqObj "tuple" its.toArray 0), toks := s.toks } :=
    I.laid keepA (by rw [ea]; exact Nat.le_succ _) ⟨Heap.get?_push_of_some _ bareA, ⟨_, Heap.get?_push_of_some _ bareA⟩, fun h1 h2 p st => st _ p⟩
  have I2 := I1.laid (t' := s.toks) (h' := (((PySem.W.copyHeap s.heap its).update a (Obj.mapSeq fun _ => (#[] : Array Value))).push (seqObj "tuple" its.toArray 0)).push (seqObj "list" #[] 0)) (o := .lst []) (fun b u z => Heap.get?_push_of_some _ z) (Nat.le_refl _)
    ⟨Nat.zero_le _, [], 0, .nil, Heap.get?_push_size _ rfl⟩
  have szA : (((PySem.W.copyHeap s.heap its).update a (Obj.mapSeq fun _ => (#[] : Array Value))).push (seqObj "tuple" its.toArray 0)).objs.size = s.heap.objs.size + 3 := by
    rw [size_push', Heap.size_update]
    unfold PySem.W.copyHeap
    rw [size_push', Heap.size_update, size_push']
  unfold ksk_tree
  refine wpAny_bind (listItems_at whole rfl (wpAny_bind (listUpdate_at whole rfl (wpAny_bind (seqEpoch_at bareA rfl (wpAny_bind (wpAny_newTuple (wpAny_bind (wpAny_newList (wpAny_holding ?_) (Nat.zero_le _))) (by show its.length ≤ _; exact hil))))) (by rw [List.size_toArray]; exact hil) (Nat.zero_le _))))
  generalize eS : (((PySem.W.copyHeap s.heap its).update a (Obj.mapSeq fun _ => (#[] : Array Value))).push (seqObj "tuple" its.toArray 0)).objs.size = kS at I2 szA ⊢
  have hne : kS ≠ a := by rw [szA, ea]; exact Nat.ne_of_gt (by omega)
  have nkS : s.heap.objs.size ≤ kS := by rw [szA]; exact Nat.le_add_right _ _
  have nkH : H kS = none := I.hok.fresh nkS
  unfold ksk_rest
  refine wpAny_bind (wpAny_rule ?_)
  first
    | rw [List.forIn_toArray]
    | (rw [← Array.forIn_toList]; simp only [List.toList_toArray])
  refine wpAny_bind (ksk_fold (KeyInv X pins σ H s a kS e1 (xs.map k)) its 0 _ ⟨_, _, I2, ?_, ?_, ?_, upd_same, ?_⟩ ?step ?done)
  · intro b o z n
    have b1 : b ≠ kS := Nat.ne_of_lt (Nat.lt_of_lt_of_le (Heap.lt_size z) nkS)
    have b2 : b ≠ a := by rw [ea]; exact Nat.ne_of_lt (Nat.lt_succ_of_lt (Heap.lt_size z))
    have z' := Heap.get?_push_of_some (seqObj "list" #[] 0) (keepA b o z)
    exact ⟨by rw [upd_ne b1, upd_ne b2]; exact n, fun _ => z', o, z'⟩
  · intro b o z
    rw [upd_ne (ne_of_none z nkH), upd_ne (ne_of_none z nA)]
    exact z
  · rw [upd_ne (Ne.symm hne), upd_same]
  · rw [List.take_zero]
    exact .nil
  case step =>
    rintro j u s' hu' ⟨Hc, kv, Ij, ko, sm, ha, hkS, hkr⟩
    rw [Nat.zero_add] at hkr ⊢
    obtain ⟨x, hx, rx⟩ := rel_at rv hu'
    have hk : (xs.map k)[j]? = some (k x) := by rw [List.getElem?_map, hx]; rfl
    refine wpAny_bind (wpAny_attempt (wpAny_call (codeAny_mono (turn x u s' Hc (List.mem_of_getElem? hx) rx Ij sm ko) fun res s2 got => ?_)))
    cases res with
    | error er => exact (show False from got).elim
    | ok fl =>
      cases fl with
      | next => exact False.elim got
      | brk => exact False.elim got
      | cont => exact False.elim got
      | ret w' =>
        obtain ⟨v', H2, os, bare, un, hok, r2, sm2, hkey⟩ := got
        obtain ⟨_, _, I2', rv', rfl, rfl⟩ := Ij.after (Q := fun v H' => v = v' ∧ H' = H2) ⟨v', H2, os, bare, un, hok, r2, rfl, rfl⟩
        obtain ⟨st, n, hob, hlt, nxt⟩ := key_push (w' := w') sm hkr hk (by rw [List.length_map]; exact hz) hne nkH nkS (ko.step un) I2' rv' sm2 hkey (sm2 _ _ hkS) (sm2 _ _ ha)
        rw [List.length_map] at hlt
        try dsimp only
        exact wpAny_bind (listUpdate_at hob rfl (wpAny_pure ⟨rfl, nxt⟩) (by rw [List.size_toArray]; omega) (by rw [Array.size_push, List.size_toArray]; omega))
  case done =>
    rintro s' ⟨Hc, kv, Ij, ko, sm, ha, hkS, hkr⟩
    rw [Nat.zero_add, List.take_of_length_le (by rw [List.length_map, rv.length]; exact Nat.le_refl _)] at hkr
    obtain ⟨_, ks, n, rk, hob⟩ := Ij.hok kS _ hkS
    obtain ⟨hobA, _, _⟩ := Ij.hok a _ ha
    have hob' : s'.heap.get? kS = some (seqObj "list" ks.toArray n) := hob
    have lk : ks.length = its.length := by rw [← rk.length, hkr.length, List.length_map, rv.length]
    have reads := hkr.reads Ij rk
    try dsimp only
    refine wpAny_bind (listItems_at hob' rfl ?_)
    refine PySem.W.keyH_end (κ := PySem.W.dataKind s'.heap (xs.map k)) (h₁ := PySem.W.hideAll s'.heap [kS]) (vs := its) (keys := ks.toArray) (fun b o _ z => PySem.W.of_hideAll _ z) (PySem.W.hideAll_none _ (List.mem_singleton.mpr rfl)) hob' hobA hne
      (PySem.W.SortsAt.data (by rw [List.toList_toArray]; exact reads) hal hso fun d hd => ?_) (by rw [List.size_toArray]; exact lk) hil fun h3 tk3 c k3 n3 => ⟨rfl, ?_⟩
    · obtain ⟨x, hx, rfl⟩ := List.mem_map.mp hd
      have := hdp x hx
      omega
    · rw [List.toList_toArray] at n3
      have ko' : PySem.W.KeyedOut false (xs.map k) its (PySem.W.sortVals (PySem.W.dataKind s'.heap (xs.map k)) false ks its) := ⟨s'.heap, ks, hal, rfl, reads⟩
      have each := PySem.W.keyedOut_each (R := fun u (b : V) => RelV b u) k ko' (each_rel rv)
      have pm := List.mergeSort_perm xs (PySem.W.dataLe false k)
      have szK : X.s_0.heap.objs.size ≤ kS := Nat.le_trans I.sz nkS
      refine ⟨.ref a, _, key_done (ys := xs.mergeSort (PySem.W.dataLe false k)) Ij ha hkS hne szK k3 n3 (by rw [pm.length_eq]; exact hz) (rel_each each), rfl, q _ (fun b o z => ?_) nA ?_⟩
      · have b1 : b ≠ kS := ne_of_none z nkH
        have b2 : b ≠ a := ne_of_none z nA
        unfold laidH
        rw [if_neg b1, if_neg b2]
        exact sm _ _ z
      · unfold laidH
        rw [if_neg (Ne.symm hne), if_pos rfl]
end
end DM

namespace DM
open PySem PySem.Spec PyProof.Rows L2 LamX NdefX
section
variable {prog : Program} {w : World} {A : Around} {E : Value → Shared → Prop} {s : Shared}
/-- the items of a tuple, laid in a new list -/
theorem collect_tupl {l : Addr} {vs : List Value} {Q : List Value → Shared → Prop} (hl : IsTup s.heap l vs.toArray) (h : Q vs { s with heap := (s.heap.push (seqObj "list" #[] 0)).update s.heap.objs.size (Obj.mapSeq (· ++ vs.toArray)) }) (fits : vs.length ≤ sizeLine) :
    wpAny (model prog w) A (collect (.ref l)) Q E s := by
  obtain ⟨o, ho, hc, n, hd⟩ := id hl
  have there : (s.heap.push (seqObj "list" #[] 0)).get? l = some o := Heap.get?_push_of_some _ ho
  have fresh : (s.heap.push (seqObj "list" #[] 0)).get? s.heap.objs.size = some (seqObj "list" #[] 0) := Heap.get?_push_size _ rfl
  unfold collect
  refine wpAny_bind (wpAny_runValue (codeAny_builtin entry_proto_collect' ?_))
  show wpAny _ _ (do again (.builtin "list.__iadd__" ⟨[← newList [], .ref l], []⟩)) _ _ s
  refine wpAny_bind (wpAny_newList (wpAny_pure ⟨Code.quiet_builtin _ (by decide +kernel), codeAny_builtin entry_list_iadd' ?_⟩))
  show wpAny _ _ (Builtin.List.listExtendWith (.ref s.heap.objs.size) (.ref l) (.ref s.heap.objs.size)) _ _ { s with heap := s.heap.push (seqObj "list" #[] 0) }
  unfold Builtin.List.listExtendWith
  refine wpAny_bind (wpAny_typeOf (T := "tuple") ⟨o, there, hc⟩ ?_)
  have isT : (Value.type "tuple" == Value.type "tuple") = true := by rfl
  rw [if_pos (by rw [isT]; simp)]
  refine wpAny_bind (listItems_at there hd (wpAny_bind (listItems_at fresh rfl ?_)))
  rw [if_neg (by simp)]
  refine wpAny_bind (listUpdate_at fresh rfl (wpAny_pure ?_) (Nat.zero_le _) (by show (#[] ++ vs.toArray).size ≤ sizeLine + 1; simp only [Array.size_append, List.size_toArray, List.length_nil]; omega))
  show wpAny (model prog w) A (do
      let o ← load s.heap.objs.size
      match o.data with
      | .seq xs _ => pure xs.toList
      | _ => unsupported "internal:collect") Q E { s with heap := (s.heap.push (seqObj "list" #[] 0)).update s.heap.objs.size (Obj.mapSeq (· ++ vs.toArray)) }
  refine wpAny_bind (wpAny_load (get?_update_seq fresh _) ?_)
  show wpAny _ _ (pure ((#[] : Array Value) ++ vs.toArray).toList) Q E _
  rw [show ((#[] : Array Value) ++ vs.toArray).toList = vs by simp]
  exact wpAny_pure h
/-- sorted(t, ..) of a tuple: list.sort(..) on a new list of its items -/
theorem sorted_of_tupl {l : Addr} {vs : List Value} {kw : List (Str × Value)} {Q : Value → Shared → Prop} (hl : IsTup s.heap l vs.toArray) (hL : vs.length ≤ sizeLine) (ha1 : argsOk "sorted" ⟨[.ref l], kw⟩) (ha2 : ∀ x, argsOk "list.sort" ⟨[.ref x], kw⟩)
    (body : ∀ E' : Value → Shared → Prop, wpAny (model prog w) A.in1.in1 (Builtin.«list.sort» ⟨[.ref (s.heap.objs.size + 1)], kw⟩) (fun f s' => f = .done (.ret .none) ∧ Q (.ref (s.heap.objs.size + 1)) s') E' { s with heap := PySem.W.copyHeap s.heap vs }) :
    wpAny (model prog w) A (call (.builtin "sorted") [.ref l] kw) Q E s := by
  have size1 : ((s.heap.push (seqObj "list" #[] 0)).update s.heap.objs.size (Obj.mapSeq (· ++ vs.toArray))).objs.size = s.heap.objs.size + 1 := by rw [Heap.size_update, size_push']
  refine call_function_entry_kw kind_sorted plain_sorted entry_sorted ha1 ?_
  unfold Builtin.«sorted»
  refine wpAny_bind (m := checkCount "sorted" 1 1 _) (wpAny_pure (wpAny_bind (collect_tupl hl (wpAny_bind (wpAny_newList ?_ hL)) hL)))
  show wpAny _ _ _ _ _ { s with heap := PySem.W.copyHeap s.heap vs }
  rw [size1]
  refine wpAny_bind (wpAny_holding (wpAny_call_entry_kw slot_list_sort ⟨_, PySem.W.copyHeap_at s.heap vs, rfl⟩ entry_list_sort ?inside (ha2 _)))
  case inside =>
    show wpAny (model prog w) A.in1.in1 (Builtin.«list.sort» ⟨[.ref (s.heap.objs.size + 1)], kw⟩) _ _ _
    refine wpAny_mono (body _) (fun f s' hf => ?_) fun _ _ e => e
    obtain ⟨rfl, hq⟩ := hf
    exact ⟨_, rfl, wpAny_pure ⟨_, rfl, hq⟩⟩
end
/-- the reading of sorted(e, key=lambda x: ..): k tells the key of each item -/
def tSortKey (K : PySem.W.Frag) (T : List (Addr × Str)) (N : List Str) (js : List Nat) (ta : TA) (t : TE) : TE := fun σ H Q => ta σ H fun vs H1 => ∃ (l : Addr) (xs : List V) (k : V → PyData), vs = [.ref l] ∧ (SqL K H1 l xs ∨ SqT K H1 l xs) ∧ Tabs T H1 ∧ PySem.W.AllAlike (xs.map k) ∧ PySem.W.Sortable (xs.map k) ∧ (∀ y ∈ xs, (k y).depth ≤ 1) ∧
  (∀ (y : V) (Hc : Hp), y ∈ xs → ExtN H1 Hc → t (startF N [y] (js.map (slotAt σ))) Hc fun v H' => Same Hc H' ∧ KeyR H' v (k y)) ∧
  ∀ (a : Addr) (H' : Hp), ExtN H1 H' → Tabs T H' → (∀ b o, H1 b = some o → (∀ ps, o ≠ .tbl ps) → b ≠ a) → H' a = some (.lst (xs.mergeSort (PySem.W.dataLe false k))) → Q (.ref a) H'
section
variable {X : Cx}
theorem pe_sortKey {T : List (Addr × Str)} {c P : Addr} {k : Nat} {e : Expr} {ta : TA} {t : TE} {params : Arguments} {body : Expr} {scope : Scope} {N fr : List Str} {y : Str} {js : List Nat} {p kp lp pos : Pos}
    (B : X.mg "sorted" = none) (gl : Gl X "sorted") (ha : PA X [e] ta) (TB : TabB X.base X.mg c P) (mine : X.env.code = .ref c) (inT : (P, X.env.qual ++ "<lambda>") ∈ T) (oneT : ∀ p ∈ T, p.1 = P → p.2 = X.env.qual ++ "<lambda>") (room : Room (k + 3) X.A)
    (S : NScope N [y] fr scope) (nb : ndefB X.env.scope scope fr = true) (hjs : js.map (fun j => X.N[j]?) = fr.map some) (nodef : defaultsOf params X.env = ([], []))
    (bound : ∀ (q : Str) (cl : List (Str × Addr)) (pm cv ctv u : Value), bindArgs (PySem.W.kla_fn "<lambda>" q params body scope cl pm cv ctv) ⟨[u], []⟩ = pure [(y, u)])
    (inner : ∀ (A : Around) (s : Shared) (H : Hp) (f c : Addr), Room k (A.deeper (envF (lamF' X params scope c) f s.heap.objs.size)) → PE (ncx C8.CX0 X.prog X.w X.K X.mg X.base N (lamF' X params scope c) f A X.stack s H C8.E0) body t)
    (he1 : backTo pos (starEach [e] X.env) = (false, eval e X.env) :: backTo pos (starEach [] X.env) := by rfl) (hpl : (backTo pos (starEach [e] X.env)).any (·.1) = false := by rfl) :
    PE X (.Call (.Name "sorted" p) [e] [⟨some "key", .Lambda params body scope lp, kp⟩] pos) (tSortKey X.K T N js ta t) := by
  have free := ndef_free nb
  have hfr := ndef_fr nb
  refine ⟨fun pz sz tz Jz Qz Iz want => ?_⟩
  refine wpAny_Call_Name_kw (ld_blt Iz gl B bt_sorted ?_ (by decide) (by decide))
  refine PyProof.Rows.callWith_kw (thn (ha.run pos pz sz tz Jz _ Iz want) fun us s1 ⟨vs, H1, I1, r1, l, xs, k, ev, sq, hT, hal, hso, hdp, keys, fin⟩ => ?_) he1 hpl
  subst ev
  obtain ⟨u, rfl, ru⟩ := vals1 r1
  obtain rfl : u = Value.ref l := ru
  show wpAny _ _ (evalAll [do let v ← eval (.Lambda params body scope lp) X.env; standAt pos; pure v]) _ _ s1
  have hfree : ∀ y ∈ scope.names, y.2 = .free → ∃ c, X.env.cells.lookup y.1 = some c := fun y hy e => (free y hy e).elim (fun z => I1.ok.has _ (.inl z)) fun z => I1.ok.has _ (.inr z)
  refine wpAny_evalAll_cons (wpAny_bind (lam_make2 I1 TB mine inT oneT hT nodef hfree fun f cc pm ctv H2 s2 I2 more T2 lam noH noF isC => wpAny_bind (wpAny_standAt (wpAny_pure (wpAny_evalAll_nil ?_)))))
  show wpAny _ _ (call (.builtin "sorted") [.ref l] [(Str.ofString "key", .ref f)]) _ _ s2
  have nt : ∀ {b : Addr} {ys : List V}, SqL X.K H1 b ys → SqL X.K H2 b ys := fun {b ys} z => z.imp (fun z => z.imp (fun z => more _ _ z (fun _ q => by cases q)) fun ⟨o, z⟩ => ⟨o, more _ _ z (fun _ q => by cases q)⟩) id
  have nu : ∀ {b : Addr} {ys : List V}, SqT X.K H1 b ys → SqT X.K H2 b ys := fun {b ys} z => z.imp (fun z => z.imp (fun z => more _ _ z (fun _ q => by cases q)) fun ⟨o, z⟩ => ⟨o, more _ _ z (fun _ q => by cases q)⟩) id
  have cp : Caps X (cloFrom X.env.cells scope.names []) fr js := Caps.made I1.ok free hfr hjs
  have rm := room.in1.in1
  have body' : ∀ (its : List Value), Vals xs its → xs.length ≤ sizeLine → ∀ E' : Value → Shared → Prop, wpAny (model X.prog X.w) X.A.in1.in1 (Builtin.«list.sort» ⟨[.ref (s2.heap.objs.size + 1)], [(Str.ofString "key", .ref f)]⟩) (fun r s' => r = .done (.ret .none) ∧ EP X pz tz Qz (.ref (s2.heap.objs.size + 1)) s') E' { s2 with heap := PySem.W.copyHeap s2.heap its } := fun its rv hz E' => by
    rw [ksk_t1]
    refine key_tree (k := k) rfl I2 rv hz hal hso (by have := rm.un; omega) hdp (fun x u s' Hc hx rx Ic sm ko => ?_) fun H' sm na hl => ?_
    · have there := ((ko f _ lam noH).2.1 noF)
      exact lam_one Ic S there (sm _ _ isC) cp (bound _ _ _ _ _ _) rm Ic.env0.in1.in1 (inner _ _ _ _ _ (rm.deeper _)) rx (keys x Hc hx (more.trans (ExtN.of sm)))
    · exact fin _ H' (more.trans (ExtN.of sm)) (T2.ext sm) (fun b o z n q => by
        have z2 := more b o z n
        rw [q, na] at z2
        cases z2) hl
  rcases sq with sq | sq
  · obtain ⟨its, rv, hl, hz⟩ := I2.list (nt sq)
    exact PySem.W.sorted_of_sort hl.isList (by rw [← rv.length]; exact hz) (ksk_s1 _ _) (fun _ => ksk_l1 _ _) (body' its rv hz)
  · obtain ⟨its, rv, hl, hz⟩ := I2.tuple (nu sq)
    exact sorted_of_tupl hl (by rw [← rv.length]; exact hz) (ksk_s1 _ _) (fun _ => ksk_l1 _ _) (body' its rv hz)
end
end DM

namespace DM
open PySem L2
/-! ### pairs read off the heap -/
def prAt (H : Hp) : V → Int × Int
  | .ref a => match H a with
    | some (.tup [.int x, .int y]) => (x, y)
    | _ => (0, 0)
  | _ => (0, 0)
theorem prAt_of {H : Hp} {v : V} {p : Int × Int} (h : PrV H v p) : prAt H v = p := by
  obtain ⟨a, rfl, e⟩ := h
  simp only [prAt, e]
theorem Prs.map_at {H : Hp} {vs : List V} {L : List (Int × Int)} (h : Prs H vs L) : vs.map (prAt H) = L := by
  induction h with
  | nil => rfl
  | cons a _ ih => rw [List.map_cons, prAt_of a, ih]
theorem Prs.mem {H : Hp} {vs : List V} {L : List (Int × Int)} (h : Prs H vs L) : ∀ v ∈ vs, PrV H v (prAt H v) := by
  induction h with
  | nil => intro v hv; cases hv
  | cons a _ ih =>
    intro v hv
    rcases List.mem_cons.mp hv with rfl | hv
    · rw [prAt_of a]; exact a
    · exact ih v hv
theorem prs_of {H : Hp} : ∀ {vs : List V}, (∀ v ∈ vs, PrV H v (prAt H v)) → Prs H vs (vs.map (prAt H))
  | [], _ => .nil
  | v :: vs, h => .cons (h v List.mem_cons_self) (prs_of fun u hu => h u (List.mem_cons_of_mem _ hu))
theorem prs_imp {H : Hp} {vs : List V} {L : List (Int × Int)} (h : Prs H vs L) {us : List V} (hu : ∀ u ∈ us, u ∈ vs) : Prs H us (us.map (prAt H)) := prs_of fun u m => h.mem u (hu u m)
theorem Prs.take {H : Hp} {vs : List V} {L : List (Int × Int)} (h : Prs H vs L) : ∀ n : Nat, Prs H (vs.take n) (L.take n) := by
  induction h with
  | nil => intro n; rw [List.take_nil, List.take_nil]; exact .nil
  | cons a _ ih =>
    intro n
    cases n with
    | zero => exact .nil
    | succ n => exact .cons a (ih n)
theorem Prs.drop {H : Hp} {vs : List V} {L : List (Int × Int)} (h : Prs H vs L) : ∀ n : Nat, Prs H (vs.drop n) (L.drop n) := by
  induction h with
  | nil => intro n; rw [List.drop_nil, List.drop_nil]; exact .nil
  | cons a t ih =>
    intro n
    cases n with
    | zero => exact .cons a t
    | succ n => exact ih n
theorem Prs.append {H : Hp} {us ws : List V} {L M : List (Int × Int)} (h1 : Prs H us L) (h2 : Prs H ws M) : Prs H (us ++ ws) (L ++ M) := by
  induction h1 with
  | nil => exact h2
  | cons a _ ih => exact .cons a ih
/-! ### sorted lists are one -/
theorem sorted_one {α : Type} {R : α → α → Prop} (asy : ∀ a b, R a b → ¬ R b a) : ∀ {l m : List α}, l.Perm m → l.Pairwise R → m.Pairwise R → l = m
  | [], m, h, _, _ => h.nil_eq
  | a :: l, [], h, _, _ => by simpa using h.length_eq
  | a :: l, b :: m, h, h1, h2 => by
    have hab : a = b := by
      rcases List.mem_cons.mp (h.mem_iff.mp (List.mem_cons_self (a := a) (l := l))) with e | e
      · exact e
      · rcases List.mem_cons.mp (h.symm.mem_iff.mp (List.mem_cons_self (a := b) (l := m))) with e' | e'
        · exact e'.symm
        · exact absurd ((List.pairwise_cons.mp h2).1 a e) (asy _ _ ((List.pairwise_cons.mp h1).1 b e'))
    subst hab
    rw [sorted_one asy (h.cons_inv) (List.pairwise_cons.mp h1).2 (List.pairwise_cons.mp h2).2]
end DM

namespace DM
open PySem L2
/-! ### directions in their order round a spot -/
def ab (a : Int) : Int := if a < 0 then -a else a
def nrm (u : Int × Int) : Int := ab u.1 + ab u.2
def low (u : Int × Int) : Prop := u.2 < 0 ∨ (u.2 = 0 ∧ u.1 < 0)
instance (u : Int × Int) : Decidable (low u) := by unfold low; infer_instance
def crs2 (u v : Int × Int) : Int := u.1 * v.2 - u.2 * v.1
def ahd (u v : Int × Int) : Prop := (¬ low u ∧ low v) ∨ ((low u ↔ low v) ∧ 0 < crs2 u v)
def dk (f : Int) (u : Int × Int) : Int × Int := if u.2 < 0 then (1, u.1 * f / nrm u) else (0, -(u.1 * f / nrm u))
def lexl (a b : Int × Int) : Prop := a.1 < b.1 ∨ (a.1 = b.1 ∧ a.2 < b.2)
theorem share_lt {a b n m F : Int} (hn : 0 < n) (hm : 0 < m) (nF : n ≤ F) (mF : m ≤ F) (h : 0 < a * m - b * n) : b * (F * F) / m < a * (F * F) / n := by
  rcases Int.lt_or_le (b * (F * F) / m) (a * (F * F) / n) with z | z
  · exact z
  · exfalso
    have h1 : a * (F * F) < (a * (F * F) / n + 1) * n := Int.lt_ediv_add_one_mul_self _ hn
    have h2 : b * (F * F) / m * m ≤ b * (F * F) := Int.ediv_mul_le _ (by omega)
    have h3 : (a * (F * F) / n + 1) * n ≤ (b * (F * F) / m + 1) * n := Int.mul_le_mul_of_nonneg_right (by omega) (by omega)
    generalize b * (F * F) / m = q at *
    have h4 : a * (F * F) * m < (q + 1) * n * m := Int.mul_lt_mul_of_pos_right (by omega) hm
    have h5 : q * m * n ≤ b * (F * F) * n := Int.mul_le_mul_of_nonneg_right h2 (by omega)
    have h6 : n * m ≤ F * F := Int.mul_le_mul nF mF (by omega) (by omega)
    have h7 : (F * F) * 1 ≤ (F * F) * (a * m - b * n) := Int.mul_le_mul_of_nonneg_left (by omega) (Int.mul_nonneg (by omega) (by omega))
    have e1 : (q + 1) * n * m = q * m * n + n * m := by
      rw [Int.add_mul, Int.one_mul, Int.add_mul, Int.mul_right_comm]
    have e2 : (F * F) * (a * m - b * n) = a * (F * F) * m - b * (F * F) * n := by
      simp only [Int.mul_sub, Int.mul_assoc, Int.mul_comm, Int.mul_left_comm]
    omega
theorem nrm_pos {u : Int × Int} (h : u ≠ (0, 0)) : 0 < nrm u := by
  obtain ⟨x, y⟩ := u
  unfold nrm ab
  have : x ≠ 0 ∨ y ≠ 0 := by
    rcases Int.lt_trichotomy x 0 with z | z | z
    · exact .inl (by omega)
    · right; intro w; exact h (by rw [z, w])
    · exact .inl (by omega)
  dsimp only
  split <;> split <;> omega
/-- signs: what two numbers add up to -/
theorem swing {a c : Int} (h : ¬ (a < 0 ∧ 0 < c)) : 0 ≤ a * ab c - c * ab a := by
  have pos : ∀ {x : Int}, 0 ≤ x → ab x = x := fun {x} q => by unfold ab; rw [if_neg (by omega)]
  have neg : ∀ {x : Int}, x < 0 → ab x = -x := fun {x} q => by unfold ab; rw [if_pos q]
  rcases Int.lt_or_le a 0 with ha | ha <;> rcases Int.lt_or_le c 0 with hc | hc
  · rw [neg ha, neg hc, Int.mul_neg, Int.mul_neg, Int.mul_comm c a]; omega
  · have : c = 0 := by omega
    subst this
    rw [pos (Int.le_refl 0)]
    simp
  · rw [pos ha, neg hc, Int.mul_neg, Int.mul_comm c a]
    have := Int.mul_nonneg ha (show 0 ≤ -c by omega)
    rw [Int.mul_neg] at this
    omega
  · rw [pos ha, pos hc, Int.mul_comm c a]; omega
theorem ahd_dk {F : Int} {u v : Int × Int} (hu : u ≠ (0, 0)) (hv : v ≠ (0, 0)) (uF : nrm u ≤ F) (vF : nrm v ≤ F) (h : ahd u v) : lexl (dk (F * F) u) (dk (F * F) v) := by
  have pu := nrm_pos hu
  have pv := nrm_pos hv
  obtain ⟨a, b⟩ := u
  obtain ⟨c, d⟩ := v
  unfold ahd low crs2 at h
  unfold dk lexl
  dsimp only at h ⊢
  have key : 0 < a * nrm (c, d) - c * nrm (a, b) → c * (F * F) / nrm (c, d) < a * (F * F) / nrm (a, b) := fun z => share_lt pu pv uF vF z
  have key' : 0 < c * nrm (a, b) - a * nrm (c, d) → a * (F * F) / nrm (a, b) < c * (F * F) / nrm (c, d) := fun z => share_lt pv pu vF uF z
  have eN : ∀ x y : Int, nrm (x, y) = ab x + ab y := fun x y => rfl
  rcases Int.lt_or_le b 0 with hb | hb <;> rcases Int.lt_or_le d 0 with hd | hd
  · rw [if_pos hb, if_pos hd]
    refine .inr ⟨rfl, key' ?_⟩
    have cr : 0 < a * d - b * c := by omega
    have sw : ¬ (c < 0 ∧ 0 < a) := fun ⟨z1, z2⟩ => by
      have p1 := Int.mul_pos z2 (show 0 < -d by omega)
      have p2 := Int.mul_pos (show 0 < -b by omega) (show 0 < -c by omega)
      rw [Int.mul_neg] at p1
      rw [Int.neg_mul_neg] at p2
      omega
    have s := swing sw
    rw [eN, eN, Int.mul_add, Int.mul_add]
    have e1 : ab b = -b := by unfold ab; rw [if_pos hb]
    have e2 : ab d = -d := by unfold ab; rw [if_pos hd]
    rw [e1, e2, Int.mul_neg, Int.mul_neg, Int.mul_comm c b]
    omega
  · exfalso
    rcases h with ⟨z, _⟩ | ⟨z, cr⟩
    · omega
    · have hc : d = 0 ∧ c < 0 := by omega
      obtain ⟨rfl, hc⟩ := hc
      have p2 := Int.mul_pos (show 0 < -b by omega) (show 0 < -c by omega)
      rw [Int.neg_mul_neg] at p2
      rw [Int.mul_zero] at cr
      omega
  · rw [if_neg (by omega), if_pos hd]
    exact .inl (show (0 : Int) < 1 by decide)
  · rw [if_neg (by omega), if_neg (by omega)]
    refine .inr ⟨rfl, Int.neg_lt_neg (key ?_)⟩
    rw [eN, eN, Int.mul_add, Int.mul_add]
    have e1 : ab b = b := by unfold ab; rw [if_neg (by omega)]
    have e2 : ab d = d := by unfold ab; rw [if_neg (by omega)]
    rw [e1, e2]
    rcases h with ⟨z, w⟩ | ⟨z, cr⟩
    · have hc : d = 0 ∧ c < 0 := by omega
      obtain ⟨rfl, hc⟩ := hc
      have e3 : ab c = -c := by unfold ab; rw [if_pos hc]
      have pa : 0 < a + ab a + b := by
        unfold ab
        have : a ≠ 0 ∨ b ≠ 0 := by
          rcases Int.lt_trichotomy b 0 with q | q | q
          · exact .inr (by omega)
          · left; intro w'; exact hu (by rw [q, w'])
          · exact .inr (by omega)
        split <;> omega
      have p := Int.mul_pos (show 0 < -c by omega) pa
      rw [e3, Int.mul_zero, Int.mul_neg]
      rw [Int.neg_mul, Int.mul_add, Int.mul_add, Int.mul_comm c a] at p
      omega
    · have sw : ¬ (a < 0 ∧ 0 < c) := fun ⟨z1, z2⟩ => by
        have p1 := Int.mul_nonneg (show 0 ≤ -a by omega) hd
        have p2 := Int.mul_nonneg hb (show 0 ≤ c by omega)
        rw [Int.neg_mul] at p1
        omega
      have s := swing sw
      rw [Int.mul_comm c b]
      omega
theorem lexl_asy {a b : Int × Int} (h : lexl a b) : ¬ lexl b a := by
  unfold lexl at *
  omega
theorem lexl_trans {a b c : Int × Int} (h : lexl a b) (h' : lexl b c) : lexl a c := by
  unfold lexl at *
  omega
theorem ahd_asy {u v : Int × Int} (h : ahd u v) : ¬ ahd v u := by
  have e : crs2 v u = -crs2 u v := by
    unfold crs2
    rw [Int.mul_comm v.1, Int.mul_comm v.2]
    omega
  rintro h'
  unfold ahd at h h'
  rw [e] at h'
  rcases h with ⟨a, b⟩ | ⟨a, b⟩ <;> rcases h' with ⟨c, d⟩ | ⟨c, d⟩
  · exact a d
  · exact a (c.mp b)
  · exact c (a.mp d)
  · omega
/-! ### a direction's least step -/
def dir (u : Int × Int) : Int × Int := (u.1 / (Int.gcd u.1 u.2 : Nat), u.2 / (Int.gcd u.1 u.2 : Nat))
theorem cross_dir {u v : Int × Int} (hu : u ≠ (0, 0)) (hv : v ≠ (0, 0)) (hl : low u ↔ low v) (h : crs2 u v = 0) : dir u = dir v := by
  obtain ⟨x, y⟩ := u
  obtain ⟨x', y'⟩ := v
  have gp : ∀ {x y : Int}, (x, y) ≠ ((0, 0) : Int × Int) → 0 < Int.gcd x y := fun {x y} h => by
    rcases Nat.eq_zero_or_pos (Int.gcd x y) with z | z
    · rw [Int.gcd_eq_zero_iff] at z
      exact absurd (by rw [z.1, z.2]) h
    · exact z
  have g := gp hu
  have g' := gp hv
  unfold dir
  dsimp only
  obtain ⟨a, ea⟩ : ((Int.gcd x y : Nat) : Int) ∣ x := Int.gcd_dvd_left ..
  obtain ⟨b, eb⟩ : ((Int.gcd x y : Nat) : Int) ∣ y := Int.gcd_dvd_right ..
  obtain ⟨c, ec⟩ : ((Int.gcd x' y' : Nat) : Int) ∣ x' := Int.gcd_dvd_left ..
  obtain ⟨d, ed⟩ : ((Int.gcd x' y' : Nat) : Int) ∣ y' := Int.gcd_dvd_right ..
  have cop : ∀ {x y a b : Int}, 0 < Int.gcd x y → x = ((Int.gcd x y : Nat) : Int) * a → y = ((Int.gcd x y : Nat) : Int) * b → Int.gcd a b = 1 := fun {x y a b} g ea eb => by
    have e : Int.gcd x y = Int.gcd x y * Int.gcd a b := by
      have := Int.gcd_mul_left ((Int.gcd x y : Nat) : Int) a b
      rw [← ea, ← eb] at this
      rw [Int.natAbs_natCast] at this
      exact this
    have : Int.gcd x y * 1 = Int.gcd x y * Int.gcd a b := by rw [Nat.mul_one]; exact e
    exact (Nat.eq_of_mul_eq_mul_left g this).symm
  have cab := cop g ea eb
  have ccd := cop g' ec ed
  have pG : (0 : Int) < (Int.gcd x y : Nat) := by omega
  have pG' : (0 : Int) < (Int.gcd x' y' : Nat) := by omega
  have q1 : x / (Int.gcd x y : Nat) = a := Int.ediv_eq_of_eq_mul_right (by omega) ea
  have q2 : y / (Int.gcd x y : Nat) = b := Int.ediv_eq_of_eq_mul_right (by omega) eb
  have q3 : x' / (Int.gcd x' y' : Nat) = c := Int.ediv_eq_of_eq_mul_right (by omega) ec
  have q4 : y' / (Int.gcd x' y' : Nat) = d := Int.ediv_eq_of_eq_mul_right (by omega) ed
  rw [q1, q2, q3, q4]
  unfold crs2 at h
  dsimp only at h
  have h2 : a * d = b * c := by
    generalize ((Int.gcd x y : Nat) : Int) = G at *
    generalize ((Int.gcd x' y' : Nat) : Int) = G' at *
    have e : (G * G') * (a * d) = (G * G') * (b * c) := by
      rw [ea, eb, ec, ed] at h
      simp only [Int.mul_assoc, Int.mul_comm, Int.mul_left_comm] at h ⊢
      omega
    exact Int.eq_of_mul_eq_mul_left (Int.ne_of_gt (Int.mul_pos pG pG')) e
  have hN : a.natAbs * d.natAbs = b.natAbs * c.natAbs := by rw [← Int.natAbs_mul, ← Int.natAbs_mul, h2]
  have b1 : b.natAbs ∣ d.natAbs := (Nat.Coprime.symm (show Nat.Coprime a.natAbs b.natAbs from cab)).dvd_of_dvd_mul_left (by rw [hN]; exact Nat.dvd_mul_right ..)
  have d1 : d.natAbs ∣ b.natAbs := (Nat.Coprime.symm (show Nat.Coprime c.natAbs d.natAbs from ccd)).dvd_of_dvd_mul_right (by rw [← hN]; exact Nat.dvd_mul_left ..)
  have hbd := Nat.dvd_antisymm b1 d1
  have sg : (b < 0 ↔ y < 0) ∧ (a < 0 ↔ x < 0) ∧ (b = 0 ↔ y = 0) := by
    generalize ((Int.gcd x y : Nat) : Int) = G at *
    refine ⟨?_, ?_, ?_⟩
    · rw [eb]; exact ⟨fun z => Int.mul_neg_of_pos_of_neg pG z, fun z => by rcases Int.lt_or_le b 0 with w | w; exact w; have := Int.mul_nonneg (show (0 : Int) ≤ G by omega) w; omega⟩
    · rw [ea]; exact ⟨fun z => Int.mul_neg_of_pos_of_neg pG z, fun z => by rcases Int.lt_or_le a 0 with w | w; exact w; have := Int.mul_nonneg (show (0 : Int) ≤ G by omega) w; omega⟩
    · rw [eb]; exact ⟨fun z => by rw [z, Int.mul_zero], fun z => by rcases Int.mul_eq_zero.mp z with w | w; omega; exact w⟩
  have sg' : (d < 0 ↔ y' < 0) ∧ (c < 0 ↔ x' < 0) ∧ (d = 0 ↔ y' = 0) := by
    generalize ((Int.gcd x' y' : Nat) : Int) = G' at *
    refine ⟨?_, ?_, ?_⟩
    · rw [ed]; exact ⟨fun z => Int.mul_neg_of_pos_of_neg pG' z, fun z => by rcases Int.lt_or_le d 0 with w | w; exact w; have := Int.mul_nonneg (show (0 : Int) ≤ G' by omega) w; omega⟩
    · rw [ec]; exact ⟨fun z => Int.mul_neg_of_pos_of_neg pG' z, fun z => by rcases Int.lt_or_le c 0 with w | w; exact w; have := Int.mul_nonneg (show (0 : Int) ≤ G' by omega) w; omega⟩
    · rw [ed]; exact ⟨fun z => by rw [z, Int.mul_zero], fun z => by rcases Int.mul_eq_zero.mp z with w | w; omega; exact w⟩
  have hl2 : (b < 0 ∨ (b = 0 ∧ a < 0)) ↔ (d < 0 ∨ (d = 0 ∧ c < 0)) := by
    unfold low at hl
    dsimp only at hl
    rw [sg.1, sg.2.1, sg.2.2, sg'.1, sg'.2.1, sg'.2.2]
    exact hl
  rcases Int.lt_trichotomy b 0 with z | z | z
  · have e : b = d := by omega
    subst e
    rw [Int.mul_comm b c] at h2
    rw [Int.eq_of_mul_eq_mul_right (by omega) h2]
  · have e : d = 0 := by omega
    subst z
    subst e
    rw [Int.gcd_zero_right] at cab ccd
    have : a = c := by omega
    rw [this]
  · have e : b = d := by omega
    subst e
    rw [Int.mul_comm b c] at h2
    rw [Int.eq_of_mul_eq_mul_right (by omega) h2]
theorem ahd_tot {u v : Int × Int} (hu : u ≠ (0, 0)) (hv : v ≠ (0, 0)) (h : dir u ≠ dir v) : ahd u v ∨ ahd v u := by
  by_cases hl : low u ↔ low v
  · rcases Int.lt_trichotomy (crs2 u v) 0 with z | z | z
    · refine .inr (.inr ⟨hl.symm, ?_⟩)
      unfold crs2 at *
      rw [Int.mul_comm v.1, Int.mul_comm v.2]
      omega
    · exact absurd (cross_dir hu hv hl z) h
    · exact .inl (.inr ⟨hl, z⟩)
  · by_cases a : low u
    · have b : ¬ low v := fun b => hl ⟨fun _ => b, fun _ => a⟩
      exact .inr (.inl ⟨b, a⟩)
    · have b : low v := Classical.byContradiction fun b => hl ⟨fun z => absurd z a, fun z => absurd z b⟩
      exact .inl (.inl ⟨a, b⟩)
theorem ahd_tr {F : Int} {u v x : Int × Int} (hu : u ≠ (0, 0)) (hv : v ≠ (0, 0)) (hx : x ≠ (0, 0)) (uF : nrm u ≤ F) (vF : nrm v ≤ F) (xF : nrm x ≤ F) (h1 : ahd u v) (h2 : ahd v x) (h : dir u ≠ dir x) : ahd u x := by
  rcases ahd_tot hu hx h with z | z
  · exact z
  · exact absurd (ahd_dk hx hu xF uF z) (lexl_asy (lexl_trans (ahd_dk hu hv uF vF h1) (ahd_dk hv hx vF xF h2)))
end DM

namespace DM
open PySem L2 LamX NdefX
/-! ### a def whose code object has a table of its own -/
section
variable {P : Program} {w : World} {K : PySem.W.Frag} {mg : Str → Option Value} {base : Heap}
theorem okT {x qual : Str} {st : Stmt} {f c : Addr} {fd : FuncData} {N ps : List Str} {k : Nat} {sp : Sp} (F : Fun K x qual st f fd) (mine : fd.code = .ref c) (S : FnScope N ps (defScope st)) (len : ∀ vs H Q E, sp vs H Q E → vs.length = ps.length)
    (body : ∀ (A : Around) (outer : List Env) (s : Shared) (H : Hp) (vs : List V) (Q : VK) (E : XK), Room k (A.deeper (PyProof.Rows.envOfC qual (defScope st) s.heap.objs.size f (.ref c))) → sp vs H Q E →
      ∃ t, PSs (cxOf CX0 P w K mg base N qual (defScope st) f (.ref c) A outer s H E).nox (defBody st) t ∧ t { nx := fun _ H' => Q .non H', rt := Q } (L2.start N vs) H) : FnOk P w K mg base CX0 (k + 1) f fd ps sp := by
  obtain ⟨oc, od, kV, doc, pm, an, cdv, ct, osl, rfl, lk, hcd⟩ := F.ex
  obtain rfl : cdv = .ref c := mine
  refine fn_of lk hcd S len fun A outer s H vs Q E hr hsp => ?_
  obtain ⟨t, h, q⟩ := body A outer s H vs Q E hr hsp
  exact ⟨t, h.nox, q⟩
end
/-- the table at Pt, for lambdas made in the def x -/
abbrev qLamOf (x : Str) (sc : Scope) : Str := (PyProof.Rows.envOfC x sc 0 0 .none).qual ++ "<lambda>"
/-! ### tables of code stay where only lists change -/
def KeepN (H H' : Hp) : Prop := ∀ b o, H b = some o → (∀ xs, o ≠ .lst xs) → H' b = some o
theorem KeepN.of {H H' : Hp} (e : Same H H') : KeepN H H' := fun b o h _ => e b o h
theorem KeepN.trans {H H1 H2 : Hp} (a : KeepN H H1) (b : KeepN H1 H2) : KeepN H H2 := fun c o h n => b c o (a c o h n) n
theorem KeepN.but {H H' : Hp} {b l : Addr} (hB : BagAt H b l) (e : But b H H') : KeepN H H' := fun c o h n => e c o (fun z => by
  obtain ⟨xs, hb⟩ := hB.hasB
  rw [z, hb] at h
  exact n xs (Option.some.inj h).symm) h
theorem KeepN.put {H : Hp} {D : Addr} {xs : List V} {o : HO} (h : H D = some (.lst xs)) : KeepN H (upd H D o) := fun c u hc n => by
  rw [upd_ne (fun z => by rw [z, h] at hc; exact n xs (Option.some.inj hc).symm)]
  exact hc
theorem tabs_keep {T : List (Addr × Str)} {H H' : Hp} (t : Tabs T H) (e : KeepN H H') : Tabs T H' := fun p hp => by
  obtain ⟨ps, h1, h2, h3⟩ := t p hp
  refine ⟨ps, e _ _ h1 (fun xs z => by cases z), h2, fun pos cv hc => ?_⟩
  obtain ⟨cc, z1, z2⟩ := h3 pos cv hc
  exact ⟨cc, z1, e _ _ z2 (fun xs z => by unfold CodeO at z; cases z)⟩
theorem BagAt.extN {H H' : Hp} {b l : Addr} (h : BagAt H b l) (e : ExtN H H') : BagAt H' b l := by
  obtain ⟨ns, i, g, s, h1, h2, r⟩ := h
  exact ⟨ns, i, g, s, e _ _ h1 (fun ps z => by cases z), e _ _ h2 (fun ps z => by cases z), r⟩
theorem PrV.ext {H H' : Hp} {v : V} {p : Int × Int} (h : PrV H v p) (e : ExtN H H') : PrV H' v p := by
  obtain ⟨a, rfl, z⟩ := h
  exact ⟨a, rfl, e _ _ z (fun ps z => by cases z)⟩
theorem Prs.ext {H H' : Hp} {vs : List V} {L : List (Int × Int)} (h : Prs H vs L) (e : ExtN H H') : Prs H' vs L := by
  induction h with
  | nil => exact .nil
  | cons a _ ih => exact .cons (a.ext e) ih
theorem ext_tup {H H' : Hp} (e : ExtN H H') {a : Addr} {xs : List V} (h : H a = some (.tup xs)) : H' a = some (.tup xs) := e _ _ h (fun ps z => by cases z)
theorem ext_lst {H H' : Hp} (e : ExtN H H') {a : Addr} {xs : List V} (h : H a = some (.lst xs)) : H' a = some (.lst xs) := e _ _ h (fun ps z => by cases z)
def spLawTs (K : PySem.W.Frag) (Ps : List Addr) : Sp := fun vs H Q _ => ∃ (a : Addr) (ns : List Int), vs = [.ref a] ∧ SqL K H a (ns.map V.int) ∧ ns.length ≤ 63 ∧ (∀ P ∈ Ps, H P = some (.tbl #[])) ∧ ∀ H', Q (.bl true) H'
end DM

namespace DM
open PySem PySem.Spec PyProof.Rows L2
/-! ### max(l, default=d), l a list of numbers -/
section
variable {prog : Program} {w : World} {A : Around} {R : Result → Shared → Prop} {It : Addr} {fp wr : List Addr} {n : Nat} {Pv : Nat → Value → Prop} {St : Nat → Heap → Prop} {kw : List (Str × Value)}
theorem loop_name : (toString "max" ++ toString ".loop" : String) = "max.loop" := by decide
theorem maxD_loop (Wk : Walks prog w A.in1 It fp wr n Pv St) (bt : Nat → Nat → Bool) (cmp : CmpOf prog w A.in1 .Gt Pv bt) (Z : Addr) (nZ : Z ∉ fp) :
    ∀ (k j : Nat) (s : Shared) (best : Value) (c : Nat), n - (j + 1) = k → j + 1 ≤ n → St (j + 1) s.heap → Pv (argBest bt j) best → s.heap.get? Z = some { cls := .type "list", dict := none, data := .seq #[best, best] c, slots := #[] } →
    (∀ v h' tk, Pv (argBest bt (n - 1)) v → (∀ b o, b ∉ wr → b ≠ Z → s.heap.get? b = some o → h'.get? b = some o) → R (.ok (.ret v)) { s with heap := h', toks := tk }) →
    codeAny (model prog w) A (.builtin "max.loop" ⟨[.ref It, .none, .ref Z], kw⟩) R s := by
  have wZ : Z ∉ wr := fun q => nZ (Wk.sub _ q)
  intro k
  induction k with
  | zero =>
    intro j s best c e1 e2 st hp hZ fin
    have last : j + 1 = n := by omega
    refine codeAny_builtin F.entry_max_loop ?_
    rw [Around.under_plainId F.plain_max_loop _]
    show wpAny _ A.in1 (seqItems? (.ref Z) >>= _) _ _ s
    refine wpAny_bind (wpAny_seqItems hZ rfl ?_)
    show wpAny _ A.in1 (tryCatch (pyNext (.ref It)) _ >>= _) _ _ s
    refine wpAny_bind (wpAny_tryCatch (Wk.done s _ _ (last ▸ st) fun h' tk kept => ?_))
    have hZ1 := kept Z _ wZ hZ
    show wpAny _ A.in1 (updateSeq Z (fun _ => #[]) >>= _) _ _ _
    refine wpAny_bind (wpAny_updateSeq hZ1 rfl (wpAny_bind (wpAny_letGo (wpAny_pure ?_))))
    exact fin best _ tk (by rw [← last]; exact hp) fun b o n1 n2 q => (Heap.get?_update_other _ _ (Ne.symm n2)).trans (kept b o n1 q)
  | succ k ih =>
    intro j s best c e1 e2 st hp hZ fin
    have more : j + 1 < n := by omega
    refine codeAny_builtin F.entry_max_loop ?_
    rw [Around.under_plainId F.plain_max_loop _]
    show wpAny _ A.in1 (seqItems? (.ref Z) >>= _) _ _ s
    refine wpAny_bind (wpAny_seqItems hZ rfl ?_)
    show wpAny _ A.in1 (tryCatch (pyNext (.ref It)) _ >>= _) _ _ s
    refine wpAny_bind (wpAny_tryCatch (Wk.item (j + 1) s _ _ more st fun v h' tk hv st1 kept => ?_))
    have hZ1 := kept Z _ wZ hZ
    show wpAny _ A.in1 (tryCatch (holding [v, v] (richCompare .Gt v best >>= _)) _ >>= _) _ _ _
    refine wpAny_bind (wpAny_tryCatch (wpAny_holding (wpAny_bind (cmp (j + 1) (argBest bt j) v best _ _ _ hv hp (wpAny_bind (wpAny_holding (wpAny_truthy_bool (wpAny_bind (wpAny_letGo (wpAny_pure ?_))))))))))
    cases q : bt (j + 1) (argBest bt j) with
    | true =>
      simp only [if_true]
      refine wpAny_bind (wpAny_updateSeq hZ1 rfl (wpAny_bind (wpAny_letGo ?_)))
      rw [loop_name]
      refine wpAny_pure ⟨plainId_quiet F.plain_max_loop _, ih (j + 1) _ v _ (by omega) more (Wk.frame _ _ _ st1 fun b hb o z => ?_) (by simp only [argBest, q, if_true]; exact hv) (Heap.get?_update_self _ hZ1 rfl) fun v2 h2 tk2 hv2 kept2 => ?_⟩
      · exact (Heap.get?_update_other _ _ (fun z : Z = b => nZ (by rw [z]; exact hb))).trans z
      · exact fin v2 h2 tk2 hv2 fun b o n1 n2 z => kept2 b o n1 n2 ((Heap.get?_update_other _ _ (Ne.symm n2)).trans (kept b o n1 z))
    | false =>
      simp only [Bool.false_eq_true, if_false]
      refine wpAny_bind (wpAny_letGo ?_)
      rw [loop_name]
      exact wpAny_pure ⟨plainId_quiet F.plain_max_loop _, ih (j + 1) _ best c (by omega) more st1 (by simp only [argBest, q, Bool.false_eq_true, if_false]; exact hp) hZ1 fun v2 h2 tk2 hv2 kept2 => fin v2 h2 tk2 hv2 fun b o n1 n2 z => kept2 b o n1 n2 (kept b o n1 z)⟩
theorem maxD_first {d : Value} (Wk : Walks prog w A.in1 It fp wr n Pv St) (bt : Nat → Nat → Bool) (cmp : CmpOf prog w A.in1 .Gt Pv bt) (Z : Addr) (nZ : Z ∉ fp) {s : Shared} {c : Nat} (st : St 0 s.heap) (hZ : s.heap.get? Z = some { cls := .type "list", dict := none, data := .seq #[] c, slots := #[] })
    (none' : n = 0 → ∀ h' tk, (∀ b o, b ∉ wr → b ≠ Z → s.heap.get? b = some o → h'.get? b = some o) → R (.ok (.ret d)) { s with heap := h', toks := tk })
    (fin : 0 < n → ∀ v h' tk, Pv (argBest bt (n - 1)) v → (∀ b o, b ∉ wr → b ≠ Z → s.heap.get? b = some o → h'.get? b = some o) → R (.ok (.ret v)) { s with heap := h', toks := tk }) :
    codeAny (model prog w) A (.builtin "max.loop" ⟨[.ref It, .none, .ref Z], [(Str.ofString "default", d)]⟩) R s := by
  have wZ : Z ∉ wr := fun q => nZ (Wk.sub _ q)
  refine codeAny_builtin F.entry_max_loop ?_
  rw [Around.under_plainId F.plain_max_loop _]
  show wpAny _ A.in1 (seqItems? (.ref Z) >>= _) _ _ s
  refine wpAny_bind (wpAny_seqItems hZ rfl ?_)
  show wpAny _ A.in1 (tryCatch (pyNext (.ref It)) _ >>= _) _ _ s
  rcases Nat.eq_zero_or_pos n with e | more
  · subst e
    refine wpAny_bind (wpAny_tryCatch (Wk.done s _ _ st fun h' tk kept => ?_))
    exact wpAny_bind (wpAny_rule (wpAny_pure (none' rfl h' tk fun b o n1 _ z => kept b o n1 z)))
  · refine wpAny_bind (wpAny_tryCatch (Wk.item 0 s _ _ more st fun v h' tk hv st1 kept => ?_))
    have hZ1 := kept Z _ wZ hZ
    show wpAny _ A.in1 (updateSeq Z (fun _ => #[v, v]) >>= _) _ _ _
    refine wpAny_bind (wpAny_updateSeq hZ1 rfl ?_)
    rw [loop_name]
    refine wpAny_pure ⟨plainId_quiet F.plain_max_loop _, maxD_loop Wk bt cmp Z nZ _ 0 _ v _ rfl more (Wk.frame _ _ _ st1 fun b hb o z => ?_) hv (Heap.get?_update_self _ hZ1 rfl) fun v2 h2 tk2 hv2 kept2 => ?_⟩
    · exact (Heap.get?_update_other _ _ (fun z : Z = b => nZ (by rw [z]; exact hb))).trans z
    · exact fin more v2 h2 tk2 hv2 fun b o n1 n2 z => kept2 b o n1 n2 ((Heap.get?_update_other _ _ (Ne.symm n2)).trans (kept b o n1 z))
end
section
variable {prog : Program} {w : World} {A : Around} {E : Value → Shared → Prop} {s : Shared}
theorem args_maxD (a d : Value) : argsOk "max" ⟨[a], [(Str.ofString "default", d)]⟩ := by unfold argsOk; kernel_rfl
theorem call_maxD {l : Addr} {xs : Array (Int × Tok)} {d : Value} {Q : Value → Shared → Prop} (hh : A.handled = none) (hl : s.heap.IsList l (intItems xs))
    (h0 : xs.size = 0 → ∀ h' tk, (∀ b o, s.heap.get? b = some o → h'.get? b = some o) → Q d { s with heap := h', toks := tk })
    (h1 : 0 < xs.size → ∀ v h' tk, (intItems xs)[argBest (fun i j => decide (numAt xs i > numAt xs j)) (xs.size - 1)]? = some v → (∀ b o, s.heap.get? b = some o → h'.get? b = some o) → Q v { s with heap := h', toks := tk }) :
    wpAny (model prog w) A (call (.builtin "max") [.ref l] [(Str.ofString "default", d)]) Q E s := by
  refine kmk_tree F.kind_max F.plain_max F.entry_max (args_maxD _ _) ?_
  show wpAny _ A.in1 (Builtin.Builtins.bindParams "max" ["key", "default"] 0 ⟨[], [(Str.ofString "default", d)]⟩ >>= _) _ _ s
  refine wpAny_bind (wpAny_of_eq (show Builtin.Builtins.bindParams "max" ["key", "default"] 0 ⟨[], [(Str.ofString "default", d)]⟩ = pure [none, some d] from rfl) (wpAny_bind (wpAny_pure (wpAny_bind (iter_intList hl fun s₂ e st inL hlI => wpAny_bind (wpAny_newObj_type ?_))))))
  subst e
  rw [loop_name]
  have kept : ∀ {h' : Heap} {Z : Addr}, Z = s.heap.objs.size + 1 → (∀ b o, b ∉ [s.heap.objs.size] → b ≠ Z → (((s.heap.push { cls := .type "list_iterator", data := .fields #[.ref l, .int 0 0] }).push { cls := .type "list", data := .seq #[] }).get? b = some o) → h'.get? b = some o) → ∀ b o, s.heap.get? b = some o → h'.get? b = some o := fun {h' Z} eZ k b o z =>
    k b o (fun q => absurd (Heap.lt_size z) (by rw [List.mem_singleton.mp q]; exact Nat.lt_irrefl _)) (by rw [eZ]; exact Nat.ne_of_lt (Nat.lt_succ_of_lt (Heap.lt_size z))) (Heap.get?_push_of_some _ (Heap.get?_push_of_some _ z))
  have sz1 : (s.heap.push { cls := .type "list_iterator", data := .fields #[.ref l, .int 0 0] }).objs.size = s.heap.objs.size + 1 := size_push' ..
  have Wk := Walks.list (prog := prog) (w := w) (A := A.in1.in1) hh s.heap.objs.size l hlI (intItems xs)
  refine wpAny_pure ⟨plainId_quiet F.plain_max_loop _, maxD_first (A := A) (n := (intItems xs).size) (Walks.list (A := A.in1) hh _ l hlI (intItems xs)) _ (CmpOf.ints_gt (numAt xs) (fun _ _ => intItems_at)) _ (fun q => Nat.lt_irrefl _ (inL _ q)) ((Walks.list (prog := prog) (w := w) (A := A.in1) hh _ l hlI (intItems xs)).frame _ _ _ st fun b _ o z => Heap.get?_push_of_some _ z) (Heap.get?_push_size _ rfl) (fun e h' tk k => ?_) fun e v h' tk hv k => ?_⟩
  · exact h0 (by simpa [intItems] using e) h' tk (kept sz1 k)
  · exact h1 (by simpa [intItems] using e) v h' tk (by simpa [intItems] using hv) (kept sz1 k)
end
def rMaxDef (K : PySem.W.Frag) : List V → List V → Hp → VK → Prop := fun vs zs H Q => ∃ (a : Addr) (ns : List Int) (d : Int), vs = [V.ref a] ∧ zs = [.int d] ∧ SqL K H a (ns.map V.int) ∧ (ns = [] → Q (.int d) H) ∧ ∀ m : Int, m ∈ ns → (∀ n, n ∈ ns → n ≤ m) → Q (.int m) H
section
variable {X : Cx}
theorem cr_maxDef (calm : X.calm = true) : CallRK X (.builtin "max") [Str.ofString "default"] (rMaxDef X.K) := by
  intro pins s σ H vs zs us ws Q I r rz h
  obtain ⟨a, ns, d, rfl, rfl, hs, q0, q1⟩ := h
  obtain ⟨its, rv, hl, _⟩ := I.list hs
  rw [Vals.ref1 r]
  obtain ⟨w1, rfl, td, rfl⟩ := vals1 rz
  have hi := rv.ints
  obtain ⟨xs, e⟩ := hi.allInts.items
  have hn : numsOf (intItems xs).toList = ns := by rw [← e]; exact hi.numsOf
  rw [nums_intItems] at hn
  subst hn
  have hl' := hl.isList
  rw [e] at hl'
  refine call_maxD (I.ok.hd calm) hl' (fun z h' tk k => ⟨.int _, H, I.kept k, ⟨_, rfl⟩, q0 ?_⟩) fun z v h' tk hv k => ?_
  · rw [List.map_eq_nil_iff, ← List.length_eq_zero_iff, Array.length_toList]
    exact z
  · obtain ⟨t, rfl⟩ := intItems_at hv
    obtain ⟨h1, h2⟩ := argBest_gt (numAt xs) (xs.size - 1)
    refine ⟨.int _, H, I.kept k, ⟨_, rfl⟩, q1 _ ?_ fun b hb => ?_⟩
    · rw [numAt_eq]
      exact PySem.getD_mem (by rw [List.length_map, Array.length_toList]; omega)
    · obtain ⟨j, hj, rfl⟩ := mem_getD hb
      rw [List.length_map, Array.length_toList] at hj
      rw [← numAt_eq]
      exact h2 j (by omega)
end
end DM

namespace DM
open PySem L2
/-! ### the greatest measure -/
theorem gcd_step {x y : Int} (hx : 0 ≤ x) (hy : 0 < y) : Int.gcd y (x % y) = Int.gcd x y := by
  have e1 : x = (x.toNat : Int) := by omega
  have e2 : y = (y.toNat : Int) := by omega
  rw [e1, e2, ← Int.natCast_emod, Int.gcd_natCast_natCast, Int.gcd_natCast_natCast, Nat.gcd_comm x.toNat, Nat.gcd_rec y.toNat x.toNat, Nat.gcd_comm (x.toNat % y.toNat)]
theorem gcd_end {x : Int} (hx : 0 ≤ x) : ((Int.gcd x 0 : Nat) : Int) = x := by
  rw [Int.gcd_zero_right]
  omega
theorem gcd_abs (a b : Int) : Int.gcd (if a < 0 then -a else a) (if b < 0 then -b else b) = Int.gcd a b := by
  split <;> split <;> simp only [Int.neg_gcd, Int.gcd_neg]
theorem gcd_abs1 (a b : Int) : Int.gcd (if a < 0 then -a else a) b = Int.gcd a b := by
  split <;> simp only [Int.neg_gcd]
theorem gcd_pos {a b : Int} (h : b ≠ 0) : 0 < ((Int.gcd a b : Nat) : Int) := by
  have := Int.gcd_pos_of_ne_zero_right a h
  omega
def spGcd : Sp := fun vs H Q _ => ∃ a b : Int, vs = [.int a, .int b] ∧ 0 ≤ a ∧ 0 ≤ b ∧ Q (.int (Int.gcd a b)) H
def spCom : Sp := fun vs H Q _ => ∃ a b : Int, vs = [.int a, .int b] ∧ Q (.int (Int.gcd a b)) H
def lowA (a b : Int) : Int := (if b < 0 then -a else a) / (Int.gcd a b : Nat)
def lowB (a b : Int) : Int := (if b < 0 then -b else b) / (Int.gcd a b : Nat)
/-- the part of two numbers, as a new pair -/
def spLow : Sp := fun vs H Q _ => ∃ a b : Int, vs = [.int a, .int b] ∧ b ≠ 0 ∧ b.natAbs < 4611686018427387904 ∧ ∀ (p : Addr) (H' : Hp), Same H H' → H' p = some (.tup [.int (lowA a b), .int (lowB a b)]) → Q (.ref p) H'
def spLowP : Sp := fun vs H Q _ => ∃ a b : Int, vs = [.int a, .int b] ∧ 0 < b ∧ b.natAbs < 4611686018427387904 ∧ ∀ (p : Addr) (H' : Hp), Same H H' → H' p = some (.tup [.int (lowA a b), .int (lowB a b)]) → Q (.ref p) H'
theorem gcd_le {a b : Int} (h : b ≠ 0) : ((Int.gcd a b : Nat) : Int) ≤ (b.natAbs : Int) := by
  have h1 : Int.gcd a b ≤ b.natAbs := Nat.le_of_dvd (by omega) (Nat.gcd_dvd_right a.natAbs b.natAbs)
  omega
theorem gcd_wide {i a b : Int} (h : b ≠ 0) (hb : b.natAbs < 4611686018427387904) : CDivW i ((Int.gcd a b : Nat) : Int) := by
  have h1 := gcd_le (a := a) h
  exact wide_div (b := 62) (gcd_pos h) (by omega) (by decide) (by decide)
section
variable {P : Program} {w : World} {K : PySem.W.Frag} {mg : Str → Option Value} {base : Heap} {f : Addr} {fd : FuncData}
abbrev s_common : Stmt := top 8
theorem sc_common : FnScope ["_law_one", "_law_other"] ["_law_one", "_law_other"] (defScope s_common) := ⟨rfl, rfl, rfl, by decide +kernel, rfl, by decide +kernel, by decide +kernel⟩
theorem ok_common (B : Blt mg) (F : Fun K "_law_common" "_law_common" s_common f fd) : FnOk P w K mg base CX0 1 f fd ["_law_one", "_law_other"] spCom := by
  refine F.ok sc_common (fun vs H Q E h => ?_) (fun cdv A outer s H vs Q E hr h => ?_)
  · obtain ⟨a, b, rfl, _⟩ := h
    rfl
  obtain ⟨a, b, rfl, q⟩ := h
  refine ⟨_, (pss_cons (ps_par (i := 0) (j := 1) (by rfl) sc_common.nd rfl rfl (by decide) rfl rfl (pa_cons (pe_callB call_abs rfl B.abs bt_abs (pa_cons (pv 0) pa_nil)) (pa_cons (pe_callB call_abs rfl B.abs bt_abs (pa_cons (pv 1) pa_nil)) pa_nil)) (by rfl))
    (pss_cons (ps_while PassesOwn.never (pt_cmpR op_gt (pv 1) pe_int (nomark _))
    (pss_one (ps_par (i := 0) (j := 1) (by rfl) sc_common.nd rfl rfl (by decide) rfl rfl (pa_cons (pv 1) (pa_cons (pe_op op_mod (pv 0) (pv 1)) pa_nil)) (by rfl))))
    (pss_one (ps_ret (pv 0))))), ?_⟩
  refine ⟨_, rfl, _, rfl, _, rfl, _, rfl, _, _, rfl, ?_⟩
  have ha : 0 ≤ (if a < 0 then -a else a) := by split <;> omega
  have hb : 0 ≤ (if b < 0 then -b else b) := by split <;> omega
  dsimp only
  refine while_by (fun σ H' => H' = H ∧ ∃ x y : Int, σ = [some (.int x), some (.int y)] ∧ 0 ≤ x ∧ 0 ≤ y ∧ Int.gcd x y = Int.gcd a b) (fun σ _ => match σ with | [_, some (.int y)] => y.toNat | _ => 0) ⟨rfl, _, _, rfl, ha, hb, gcd_abs a b⟩ ?_ ?_
  · rintro σ H' ⟨rfl, x, y, rfl, hx, hy, hg⟩
    refine ⟨_, rfl, _, _, rfl, rfl, _, rfl, ?_⟩
    refine ite2 (fun c => ?_) (fun c => ?_)
    · have hy' : 0 < y := of_decide_eq_true c
      refine ⟨_, rfl, _, rfl, _, rfl, _, _, rfl, rfl, hy', _, _, rfl, ?_⟩
      refine ⟨⟨rfl, y, x % y, rfl, hy, Int.emod_nonneg _ (by omega), ?_⟩, ?_⟩
      · rw [gcd_step hx hy']
        exact hg
      · show (x % y).toNat < y.toNat
        have := Int.emod_lt_of_pos x hy'
        omega
    · have hy' : ¬ y > 0 := of_decide_eq_false (Bool.eq_false_iff.mpr c)
      have c' : y = 0 := by omega
      subst c'
      refine ⟨_, rfl, ?_⟩
      have e := gcd_end hx
      rw [hg] at e
      rw [e] at q
      exact q
  · rintro σ H Q Q' hq ⟨v, h1, i, j, e1, e2, k, h3, h4⟩
    exact ⟨v, h1, i, j, e1, e2, k, h3, hq _ _ h4⟩
end
end DM

namespace DM
open PySem L2
/-! ### a list or a tuple, walked -/
inductive SeqIt (K : PySem.W.Frag) (a : Addr) (xs : List V) : It → HO → Prop
  | l : SeqIt K a xs (Itl K a) (.lst xs)
  | t : SeqIt K a xs (Itt K a) (.tup xs)
/-- o is the list or the tuple of xs -/
def SeqO (xs : List V) (o : HO) : Prop := o = .lst xs ∨ o = .tup xs
theorem SeqO.no {xs : List V} {o : HO} (h : SeqO xs o) : ∀ ps, o ≠ .tbl ps := by
  rcases h with rfl | rfl
  · exact fun ps z => by cases z
  · exact fun ps z => by cases z
theorem SeqO.sq {K : PySem.W.Frag} {H : Hp} {a : Addr} {xs : List V} {o : HO} (h : SeqO xs o) (e : H a = some o) : SqL K H a xs ∨ SqT K H a xs := by
  rcases h with rfl | rfl
  · exact .inl (SqL.of e)
  · exact .inr (SqT.of e)
def SqWalk (K : PySem.W.Frag) (H : Hp) (a : Addr) (R : It → Hp → Prop) : Prop := ((∃ xs, SqL K H a xs) ∧ R (Itl K a) H) ∨ ((∃ xs, SqT K H a xs) ∧ R (Itt K a) H)
def iSq (K : PySem.W.Frag) (tl : TE) : TI := fun σ H R => tl σ H fun x H1 => ∃ a, x = .ref a ∧ SqWalk K H1 a R
theorem isq_in {K : PySem.W.Frag} {a : Addr} {xs : List V} {H : Hp} {o : HO} {R : It → Hp → Prop} (so : SeqO xs o) (e : H a = some o) (h : ∀ J, SeqIt K a xs J o → R J H) : SqWalk K H a R := by
  rcases so with rfl | rfl
  · exact .inl ⟨⟨_, SqL.of e⟩, h _ .l⟩
  · exact .inr ⟨⟨_, SqT.of e⟩, h _ .t⟩
section
variable {X : Cx} {tg : Expr}
theorem pi_sq {l : Expr} {tl : TE} (hl : PE X l tl) : PI X tg l (iSq X.K tl) := by
  refine ⟨fun pins s σ H R I h => ?_⟩
  refine thn (hl.run pins s σ H _ I h) fun v s1 ⟨x, H1, I1, r1, a, e, q1⟩ => ?_
  subst e
  cases r1
  rcases q1 with ⟨⟨xs, hq⟩, q⟩ | ⟨⟨xs, hq⟩, q⟩
  · obtain ⟨its, rv, p, hz⟩ := I1.list hq
    refine wpAny_pyIter_list p.isList ⟨s1.heap.objs.size, [s1.heap.objs.size], _, _, H1, rfl, I1.kept (t' := s1.toks) fun b o e => Heap.get?_push_of_some _ e, turn_list a _, ⟨_, Heap.get?_push_size _ rfl, rfl, rfl⟩, fun b hb => ?_, q⟩
    cases List.mem_singleton.mp hb
    exact I1.fpOk (Nat.le_refl _) (I1.hok.fresh (Nat.le_refl _))
  · obtain ⟨its, rv, p, hz⟩ := I1.tuple hq
    refine wpAny_pyIter_tuple (show s1.heap.IsTuple a its.toArray from p) ⟨s1.heap.objs.size, [s1.heap.objs.size], _, _, H1, rfl, I1.kept (t' := s1.toks) fun b o e => Heap.get?_push_of_some _ e, turn_tuple a _, ⟨_, Heap.get?_push_size _ rfl, rfl, rfl⟩, fun b hb => ?_, q⟩
    cases List.mem_singleton.mp hb
    exact I1.fpOk (Nat.le_refl _) (I1.hok.fresh (Nat.le_refl _))
end
theorem lc_any {K : PySem.W.Frag} {a : Addr} {xs : List V} {J : It} {o : HO} {g : TG} {tt : TT} {te : TE} {vs : List Nat} {σ : St} {H1 : Hp} {D : Addr} {Qd : Hp → Prop} (w : SeqIt K a xs J o) (Pv : Nat → Hp → Prop) (h0 : Pv 0 (upd H1 D (.lst []))) (hl : ∀ i H, i ≤ xs.length → Pv i H → H a = some o)
    (hs : ∀ i x H, xs[i]? = some x → Pv i H → g x (wipe σ vs) H fun σ2 H2 => wipe σ2 vs = wipe σ vs ∧ tt σ2 H2 fun b H3 =>
      if b = true then te σ2 H3 fun y H4 => ∃ acc, H4 D = some (.lst acc) ∧ acc.length < sizeLine ∧ Pv (i + 1) (upd H4 D (.lst (acc ++ [y]))) else Pv (i + 1) H3) (hd : ∀ H, Pv xs.length H → Qd H) :
    ∃ W : Nat → Nat → Hp → Prop, (∃ m, W 0 m (upd H1 D (.lst []))) ∧ ∀ i m H, W i m H →
      (J.stop i H ∧ Qd H) ∨ (J.go i H ∧ ∃ Nx : Hp → Prop, (∀ H', Nx H' → ∃ m', m' < m ∧ W (i + 1) m' H') ∧ ∀ x H', J.yld i H x H' → g x (wipe σ vs) H' fun σ2 H2 => wipe σ2 vs = wipe σ vs ∧ tt σ2 H2 fun b H3 =>
        if b = true then te σ2 H3 fun y H4 => ∃ acc, H4 D = some (.lst acc) ∧ acc.length < sizeLine ∧ Nx (upd H4 D (.lst (acc ++ [y]))) else Nx H3) := by
  cases w with
  | l => exact lc_list Pv h0 (fun i H hi p => SqL.of (hl i H hi p)) hs hd
  | t => exact lc_tup Pv h0 (fun i H hi p => SqT.of (hl i H hi p)) hs hd
theorem for_any {K : PySem.W.Frag} {a : Addr} {xs : List V} {J : It} {o : HO} {g : TG} {tb : TS} {D : Ends} {σ : St} {H : Hp} (w : SeqIt K a xs J o) (Pv : Nat → St → Hp → Prop) (h0 : Pv 0 σ H) (hl : ∀ i σ H, i ≤ xs.length → Pv i σ H → H a = some o)
    (hs : ∀ i x σ H, xs[i]? = some x → Pv i σ H → g x σ H fun σ2 H2 => tb { D with nx := Pv (i + 1), ct := Pv (i + 1), bk := D.nx } σ2 H2) (hd : ∀ σ H, Pv xs.length σ H → D.nx σ H) :
    ∃ W : Nat → Nat → St → Hp → Prop, (∃ m, W 0 m σ H) ∧ ∀ i m σ H, W i m σ H →
      (J.stop i H ∧ D.nx σ H) ∨ (J.go i H ∧ ∃ N : St → Hp → Prop, (∀ σ' H', N σ' H' → ∃ m', m' < m ∧ W (i + 1) m' σ' H') ∧ ∀ x H', J.yld i H x H' → g x σ H' fun σ2 H2 => tb { D with nx := N, ct := N, bk := D.nx } σ2 H2) := by
  cases w with
  | l => exact for_list Pv h0 (fun i σ H hi p => SqL.of (hl i σ H hi p)) hs hd
  | t => exact for_tup Pv h0 (fun i σ H hi p => SqT.of (hl i σ H hi p)) hs hd
end DM

namespace DM
open PySem PySem.Spec PyProof.Rows L2 LamX
/-- walk_ofOwn, for the tables of several defs by their names -/
theorem walk_ofTabs {l : PySem.W.OpenLaw} {n k : Nat} {q : Program} {loose : List Str} {XP : (Str → Option Value) → Heap → Prop} {YP : World → Heap → Prop} {d : DefRec} {K : Params → PySem.W.Frag} {CX : World → CXT} {x : Str} (names : List Str)
    (most : l.most = some n) (short : n ≤ sizeLine) (nodef : d.params.defaults = []) (room : Room k callerA) (recs : ∀ nm ∈ names, ((recsOf q).any fun e => e.name == nm) = true) (inK : ∀ (w : World) (h : Heap), YP w h → (K w.params).In h)
    (F : ∀ (w : World) (mg : Str → Option Value) (fa : Addr) (h : Heap), YP w h → (K w.params).In h → h.Ns mainGlobals mg → mg d.name = some (.ref fa) → (∀ nm ∈ names, ∀ g : Addr, mg nm = some (.ref g) → OwnTab (K w.params) g h) → LawAtS l w (K w.params) (CX w) k n x mg fa h)
    (quiet : ∀ (w : World) (H : Hp) (s : Shared) (e : Value) (s' : Shared), CX w [] H s (fun _ _ _ => False) e s' → False) :
    PySem.W.WalkO q loose XP YP l.row.toRowW d [] (fun f vs => PySem.call f vs) := by
  refine Att.attach_callB most nodef fun w s₀ s₁ mg mb fa o pm cd doc a vs ns G Y ho hd hcd hmg hobj hints hlen hbits hg => ?_
  have inH := inK w _ Y
  have own : ∀ nm ∈ names, ∀ g : Addr, mg nm = some (.ref g) → OwnTab (K w.params) g s₁.heap := fun nm hnm g hg' => fun c P o1 fd1 e dd vs1 sl k1 k2 k3 k4 k5 => by
    obtain ⟨dL, inQ, sameN⟩ := List.any_eq_true.mp (recs nm hnm)
    obtain ⟨a', o', fd', c', P', h1, h2, h3, h4, h5, h6⟩ := G.T.tab dL inQ
    rw [beq_iff_eq.mp sameN, hg'] at h1
    cases h1
    have at1 := inH _ _ k1
    rw [at1] at h2
    cases h2
    rw [k2] at h3
    cases h3
    rw [k3] at h4
    cases h4
    obtain ⟨⟨oc, vc, e1, _, e3, e4⟩, hP⟩ := h6
    have at2 := inH _ _ k4
    rw [at2] at e1
    cases e1
    cases e3
    rw [k5] at e4
    cases e4
    exact hP
  obtain ⟨fd, cs, sp, hT, nT, C, hb, hsp, hF⟩ := F w mg fa _ Y inH G.T.g hmg own
  exact law_callTs inH G.T.g G.T.b G.T.builtins G.T.nolimit hg hT nT C G.T.bmain hobj hints (Nat.le_trans hlen short) room hF hb (fun H hH hS => hsp H a ns hlen hbits hH hS) fun H e s' => quiet w H s₁ e s'
end DM

namespace DM
open PySem L2
/-- while, by what holds ahead of each turn and a number that falls: N is what the next turn may begin with -/
theorem while_own {c : TT} {tb : TS} {D : Ends} {σ : St} {H : Hp} (Pv : St → Hp → Prop) (μ : St → Hp → Nat) (h0 : Pv σ H)
    (hs : ∀ σ H (N : St → Hp → Prop), (∀ σ' H', Pv σ' H' → μ σ' H' < μ σ H → N σ' H') → (∀ σ' H', N σ' H' → ∃ m', m' < μ σ H ∧ m' = μ σ' H' ∧ Pv σ' H') → Pv σ H → c σ H fun b H1 => if b = true then ∃ N : St → Hp → Prop, (∀ σ' H', N σ' H' → ∃ m', m' < μ σ H ∧ m' = μ σ' H' ∧ Pv σ' H') ∧ tb { D with nx := N, ct := N, bk := D.nx } σ H1 else D.nx σ H1) : tWhile c tb D σ H := by
  refine ⟨fun m σ H => m = μ σ H ∧ Pv σ H, ⟨_, rfl, h0⟩, ?_⟩
  rintro m σ H ⟨rfl, p⟩
  exact hs σ H (fun σ' H' => Pv σ' H' ∧ μ σ' H' < μ σ H) (fun _ _ a b => ⟨a, b⟩) (fun _ _ z => ⟨_, z.2, rfl, z.1⟩) p
end DM

namespace DM
open PySem L2 LamX NdefX
/-! ### the program's spots round a spot -/
def spDirection : Sp := fun vs H Q _ => ∃ r u g : Int, vs = [.int r, .int u, .int g] ∧ (r, u) ≠ (0, 0) ∧ (-1000 ≤ r ∧ r ≤ 1000 ∧ -1000 ≤ u ∧ u ≤ 1000) ∧ ∀ (p : Addr) (H' : Hp), Same H H' → H' p = some (.tup [.int (dk g (r, u)).1, .int (dk g (r, u)).2]) → Q (.ref p) H'
def subP (p s : Int × Int) : Int × Int := (p.1 - s.1, p.2 - s.2)
/-- spots near, none of them the spot itself, in unlike directions from it -/
def Fan (s : Int × Int) (L : List (Int × Int)) : Prop := (∀ p ∈ L, p ≠ s ∧ -100 ≤ p.1 ∧ p.1 ≤ 100 ∧ -100 ≤ p.2 ∧ p.2 ≤ 100) ∧ L.Pairwise (fun p q => dir (subP p s) ≠ dir (subP q s)) ∧ L.length ≤ 1000
def spAround (T : List (Addr × Str)) : Sp := fun vs H Q _ => ∃ (ps l : Addr) (sp : Int × Int) (xs : List V) (o : HO) (L : List (Int × Int)), vs = [.ref ps, .ref l] ∧ H ps = some (.tup [.int sp.1, .int sp.2]) ∧ (-100 ≤ sp.1 ∧ sp.1 ≤ 100 ∧ -100 ≤ sp.2 ∧ sp.2 ≤ 100) ∧ SeqO xs o ∧ H l = some o ∧ Prs H xs L ∧ Fan sp L ∧ Tabs T H ∧
  ∀ (r : Addr) (H' : Hp) (ys : List V) (M : List (Int × Int)), ExtN H H' → Tabs T H' → (∀ b o, H b = some o → (∀ ps, o ≠ .tbl ps) → b ≠ r) → H' r = some (.lst ys) → Prs H' ys M → M.Perm L → M.Pairwise (fun p q => ahd (subP p sp) (subP q sp)) → Q (.ref r) H'
theorem sub_ne {p s : Int × Int} (h : p ≠ s) : subP p s ≠ (0, 0) := fun z => h (by
  unfold subP at z
  have z1 := congrArg Prod.fst z
  have z2 := congrArg Prod.snd z
  dsimp only at z1 z2
  exact Prod.ext (by omega) (by omega))
instance (a b : Int × Int) : Decidable (lexl a b) := by unfold lexl; infer_instance
theorem lt_prD (a b : Int × Int) : PySem.W.dataLt (prD a) (prD b) = decide (lexl a b) := by
  have e0 : lexl a b ↔ (a.1 < b.1 ∨ (a.1 = b.1 ∧ a.2 < b.2)) := Iff.rfl
  unfold prD
  rw [PySem.W.dataLt_tuple]
  by_cases h : a.1 = b.1
  · rw [PySem.W.dataLt_all_yes (by simp [PySem.W.alike]) (by simp [PyData.eqv, h])]
    by_cases h2 : a.2 = b.2
    · rw [PySem.W.dataLt_all_yes (by simp [PySem.W.alike]) (by simp [PyData.eqv, h2])]
      rw [decide_eq_false (fun z => by have := e0.mp z; omega)]
      rfl
    · rw [PySem.W.dataLt_all_no (by simp [PySem.W.alike]) (by simp [PyData.eqv, h2]), PySem.W.dataLt_int]
      exact decide_eq_decide.mpr (by rw [e0]; omega)
  · rw [PySem.W.dataLt_all_no (by simp [PySem.W.alike]) (by simp [PyData.eqv, h]), PySem.W.dataLt_int]
    exact decide_eq_decide.mpr (by rw [e0]; omega)
section
variable {P : Program} {w : World} {K : PySem.W.Frag} {mg : Str → Option Value} {base : Heap} {f : Addr} {fd : FuncData}
abbrev s_direction : Stmt := top 2
theorem sc_direction : FnScope ["right", "upward", "fine", "share"] ["right", "upward", "fine"] (defScope s_direction) := ⟨rfl, rfl, rfl, by decide +kernel, rfl, by decide +kernel, by decide +kernel⟩
theorem ok_direction (B : Blt mg) (F : Fun K "direction" "direction" s_direction f fd) : FnOk P w K mg base CX0 1 f fd ["right", "upward", "fine"] spDirection := by
  refine F.ok sc_direction (fun vs H Q E h => ?_) (fun cdv A outer s H vs Q E hr h => ?_)
  · obtain ⟨r, u, g, rfl, _⟩ := h
    rfl
  obtain ⟨r, u, g, rfl, h0, bd, q⟩ := h
  refine ⟨_, (pss_cons (ps_set (i := 3) sc_direction.nd rfl (Or.inl rfl) (pe_op op_fdivW (pe_op op_mul (pv 0) (pv 2)) (pe_op op_add (pe_callB call_abs rfl B.abs bt_abs (pa_cons (pv 0) pa_nil)) (pe_callB call_abs rfl B.abs bt_abs (pa_cons (pv 1) pa_nil)))))
    (pss_one (ps_ret (pe_ifExp (pt_cmpR op_lt (pv 1) pe_int (nomark _)) (pe_tup (pa_cons pe_int (pa_cons (pv 3) pa_nil))) (pe_tup (pa_cons pe_int (pa_cons (pe_un un_neg (pv 3)) pa_nil))))))), ?_⟩
  have pn := nrm_pos h0
  have en : nrm (r, u) = (if r < 0 then -r else r) + (if u < 0 then -u else u) := rfl
  have e2 : dk g (r, u) = if u < 0 then (1, r * g / nrm (r, u)) else (0, -(r * g / nrm (r, u))) := rfl
  rw [e2] at q
  refine ⟨_, rfl, _, rfl, _, _, rfl, rfl, .inl ⟨by omega, by omega⟩, _, rfl, _, rfl, _, rfl, _, rfl, _, _, rfl, rfl, _, _, rfl, rfl, ?_, ?_⟩
  · rw [← en]
    exact wide_div (b := 62) pn (by rw [en]; split <;> split <;> omega) (by decide) (by decide)
  rw [← en]
  refine ⟨_, rfl, _, _, rfl, rfl, _, rfl, ?_⟩
  by_cases c : u < 0
  · rw [if_pos c] at q
    refine iteDT c ?_
    exact ⟨_, rfl, sz (by decide : 2 ≤ 100000), fun p hp => q p _ (same_new hp _) upd_same⟩
  · rw [if_neg c] at q
    refine iteDF c ?_
    exact ⟨_, rfl, _, rfl, sz (by decide : 2 ≤ 100000), fun p hp => q p _ (same_new hp _) upd_same⟩
abbrev s_around : Stmt := top 1
theorem sc_around : FnScope ["spot", "others", "far", "x", "y"] ["spot", "others"] (defScope s_around) := ⟨rfl, rfl, rfl, by decide +kernel, rfl, by decide +kernel, by decide +kernel⟩
theorem ok_around (B : Blt mg) (c_direction : Cal P w K mg base 1 "direction" ["right", "upward", "fine"] spDirection) {c Pt : Addr} (F : Fun K "around" "around" s_around f fd) (mine : fd.code = .ref c) (TB : TabB base mg c Pt) :
    FnOk P w K mg base CX0 5 f fd ["spot", "others"] (spAround [(Pt, qLamOf "around" (defScope s_around))]) := by
  refine okT F mine sc_around (fun vs H Q E h => ?_) (fun A outer s H vs Q E hr h => ?_)
  · obtain ⟨ps, l, sp, xs, o, L, rfl, _⟩ := h
    rfl
  obtain ⟨ps, l, sp, xs, o, L, rfl, hps, bs, so, hl, hP, hF, hT, q⟩ := h
  refine ⟨_, (pss_cons (ps_set (i := 2) sc_around.nd rfl (Or.inr rfl) (pe_callBK (cr_maxDef rfl) rfl B.max bt_max (pa_cons (pe_lc (own := [("x", 3), ("y", 4)]) (g := gTup K 2 (gCons (gName 3) (gCons (gName 4) gNil))) (tt := tYes) rfl sc_around.nd (pi_sq (pv 1)) (blkOk_by (own := [("x", 3), ("y", 4)]) (N := ["spot", "others", "far", "x", "y"]) (sc := defScope s_around) (by decide +kernel)) (fun _ _ _ _ _ => pg_tup rfl (pgs_cons (pg_name (i := 3) sc_around.nd rfl (Or.inl rfl)) (pgs_cons (pg_name (i := 4) sc_around.nd rfl (Or.inl rfl)) pgs_nil))) (fun _ _ _ _ _ => pts_nil) (fun _ _ _ _ _ => (pe_op op_add (pe_callB call_abs rfl B.abs bt_abs (pa_cons (pe_op op_sub (pv 3) (pe_ix (r := rIxT K) ix_tup (pv 0) pe_int (fun _ _ => rfl))) pa_nil)) (pe_callB call_abs rfl B.abs bt_abs (pa_cons (pe_op op_sub (pv 4) (pe_ix (r := rIxT K) ix_tup (pv 0) pe_int (fun _ _ => rfl))) pa_nil))))) pa_nil) (pk_cons pe_int pk_nil)))
    (pss_one (ps_ret (pe_sortKey (T := [(Pt, qLamOf "around" (defScope s_around))]) (k := 1) (N := ["other", "spot", "far"]) (fr := ["spot", "far"]) (y := "other") (js := [0, 2]) B.sorted rfl (pa_cons (pv 1) pa_nil) TB rfl List.mem_cons_self (fun p hp _ => by cases List.mem_singleton.mp hp; rfl) (hr.mono (by decide)) (nscope_by (by decide +kernel)) (show ndefB (defScope s_around) _ _ = true from by decide +kernel) rfl rfl (fun _ _ _ _ _ _ => rfl) (fun _ _ _ _ _ hr => (pe_cal c_direction hr (pa_cons (pe_op op_sub (pe_ix (r := rIxT K) ix_tup (pv 0) pe_int (fun _ _ => rfl)) (pe_ix (r := rIxT K) ix_tup (pv 1) pe_int (fun _ _ => rfl))) (pa_cons (pe_op op_sub (pe_ix (r := rIxT K) ix_tup (pv 0) pe_int (fun _ _ => rfl)) (pe_ix (r := rIxT K) ix_tup (pv 1) pe_int (fun _ _ => rfl))) (pa_cons (pe_op op_mul (pv 2) (pv 2)) pa_nil))))))))), ?_⟩
  refine seq_with (fun σ' H' => ∃ m : Int, σ' = [some (.ref ps), some (.ref l), some (.int m), none, none] ∧ Same H H' ∧ 0 ≤ m ∧ m ≤ 400 ∧ ∀ p ∈ L, nrm (subP p sp) ≤ m) (fun R hR => ?_) ?_
  · refine ⟨_, rfl, l, rfl, ?_⟩
    refine isq_in (K := K) so hl ?_
    intro J w D nD
    have lens := hP.len
    refine lc_any w (fun i H' => Same H H' ∧ H' D = some (.lst (((L.map fun p => nrm (subP p sp)).take i).map V.int))) ?_ ?_ ?_ ?_
    · exact ⟨same_new nD _, upd_same⟩
    · rintro i H' _ ⟨e, _⟩
      exact e _ _ hl
    · rintro i x H' hx ⟨e, hd⟩
      obtain ⟨a, ha, ap, rfl, hap⟩ := hP.at hx
      have ha' : (L.map fun p => nrm (subP p sp))[i]? = some (nrm (subP a sp)) := by rw [List.getElem?_map, ha]; rfl
      refine ⟨ap, _, rfl, SqT.of (e _ _ hap), rfl, _, _, rfl, _, _, rfl, rfl, rfl, lc_yes ?_⟩
      refine ⟨_, rfl, _, rfl, ps, _, _, _, rfl, rfl, SqT.of (e _ _ hps), rfl, _, _, rfl, rfl, _, rfl, _, rfl, _, rfl, ps, _, _, _, rfl, rfl, SqT.of (e _ _ hps), rfl, _, _, rfl, rfl, _, rfl, _, _, rfl, rfl, _, hd, ?_, fun b o z => ?_, ?_⟩
      · rw [List.length_map, List.length_take, List.length_map]
        have := hF.2.2
        exact Nat.lt_of_lt_of_le (by omega : min i L.length < 100000) (sz (Nat.le_refl _))
      · rw [upd_ne (ne_of_none z nD)]
        exact e _ _ z
      · rw [take_snoc ha', List.map_append]
        exact upd_same
    · rintro H1 ⟨e1, hd1⟩
      rw [lens, ← List.length_map (f := fun p => nrm (subP p sp)) (as := L), List.take_length] at hd1
      refine ⟨D, L.map fun p => nrm (subP p sp), 0, rfl, rfl, SqL.of hd1, fun z => ?_, fun m hm1 hm2 => ?_⟩
      · have eL : L = [] := List.map_eq_nil_iff.mp z
        exact hR _ _ ⟨0, rfl, e1, by decide, by decide, fun p hp => by rw [eL] at hp; cases hp⟩
      · obtain ⟨p, hp, rfl⟩ := List.mem_map.mp hm1
        have b0 := hF.1 p hp
        have b1 := nrm_pos (sub_ne b0.1)
        refine hR _ _ ⟨_, rfl, e1, by omega, ?_, fun p' hp' => hm2 _ (List.mem_map_of_mem hp')⟩
        unfold nrm ab subP
        dsimp only
        split <;> split <;> omega
  rintro σ H1 ⟨m, rfl, s1, m0, m1, hm⟩
  have hl1 := s1 _ _ hl
  have hP1 := hP.same s1
  have eL := hP1.map_at
  have memL : ∀ {v : V}, v ∈ xs → prAt H1 v ∈ L := fun {v} hv => by rw [← eL]; exact List.mem_map_of_mem hv
  refine ⟨_, rfl, l, xs, fun v => prD (dk (m * m) (subP (prAt H1 v) sp)), rfl, so.sq hl1, hT.ext s1, ?_, ?_, ?_, fun y Hc hy ex => ?_, fun r H' ex hT' hr' hl' => ?_⟩
  · intro d hd d' hd'
    obtain ⟨x, _, rfl⟩ := List.mem_map.mp hd
    obtain ⟨x', _, rfl⟩ := List.mem_map.mp hd'
    simp [prD, PySem.W.alike, PySem.W.alikeAll]
  · left
    intro d hd
    obtain ⟨x, _, rfl⟩ := List.mem_map.mp hd
    exact ⟨_, _, rfl⟩
  · intro y _
    simp [prD, PyData.depth, PyData.depthAll]
  · obtain ⟨ap, rfl, hap⟩ := hP1.mem y hy
    have b0 := hF.1 _ (memL hy)
    have hap' := ext_tup ex hap
    have hps' := ext_tup ex (s1 _ _ hps)
    refine ⟨_, rfl, ap, _, _, _, rfl, rfl, SqT.of hap', rfl, _, rfl, ps, _, _, _, rfl, rfl, SqT.of hps', rfl, _, _, rfl, rfl, ?_⟩
    refine ⟨_, rfl, ap, _, _, _, rfl, rfl, SqT.of hap', rfl, _, rfl, ps, _, _, _, rfl, rfl, SqT.of hps', rfl, _, _, rfl, rfl, ?_⟩
    refine ⟨_, rfl, _, rfl, _, _, rfl, rfl, .inl ⟨by omega, by omega⟩, ?_⟩
    exact ⟨_, _, _, rfl, sub_ne b0.1, by omega, fun p H' sm hp => ⟨sm, .inr ⟨p, _, _, rfl, hp, rfl⟩⟩⟩
  · have pm := List.mergeSort_perm xs (PySem.W.dataLe false fun v => prD (dk (m * m) (subP (prAt H1 v) sp)))
    have tot := PySem.W.sortLe_total (PyProof.Rows.listOrd PyProof.Rows.itemOrd) false fun v : V => PySem.W.keyToks (prD (dk (m * m) (subP (prAt H1 v) sp)))
    have pw := PySem.W.sort_pairwise tot xs
    have hP2 := prs_imp hP1 (us := xs.mergeSort (PySem.W.dataLe false fun v => prD (dk (m * m) (subP (prAt H1 v) sp)))) (fun u hu => pm.mem_iff.mp hu)
    refine q r H' _ _ ((ExtN.of s1).trans ex) hT' (fun b o z n => hr' b o (s1 _ _ z) n) hl' (hP2.ext ex) (by rw [← eL]; exact pm.map _) ?_
    rw [List.pairwise_map]
    have nd : (xs.mergeSort (PySem.W.dataLe false fun v => prD (dk (m * m) (subP (prAt H1 v) sp)))).Pairwise fun u v => dir (subP (prAt H1 u) sp) ≠ dir (subP (prAt H1 v) sp) := by
      have z := hF.2.1
      rw [← eL, List.pairwise_map] at z
      exact (pm.pairwise_iff (fun {a b} h => Ne.symm h)).mpr z
    refine ((pw.and nd).imp_of_mem fun {u v} hu hv z => ?_)
    have bu := hF.1 _ (memL (pm.mem_iff.mp hu))
    have bv := hF.1 _ (memL (pm.mem_iff.mp hv))
    rcases ahd_tot (sub_ne bu.1) (sub_ne bv.1) z.2 with h | h
    · exact h
    · have k := ahd_dk (sub_ne bv.1) (sub_ne bu.1) (hm _ (memL (pm.mem_iff.mp hv))) (hm _ (memL (pm.mem_iff.mp hu))) h
      have z' : (!PySem.W.dataLt (prD (dk (m * m) (subP (prAt H1 v) sp))) (prD (dk (m * m) (subP (prAt H1 u) sp)))) = true := z.1
      rw [lt_prD, decide_eq_true k] at z'
      cases z'
end
end DM

namespace DM
open PySem L2 LamX NdefX
instance (u v : Int × Int) : Decidable (ahd u v) := by unfold ahd; infer_instance
def lowI (u : Int × Int) : Int := if low u then 1 else 0
def spAhead : Sp := fun vs H Q _ => ∃ (a b : Addr) (u v : Int × Int), vs = [.ref a, .ref b] ∧ H a = some (.tup [.int u.1, .int u.2]) ∧ H b = some (.tup [.int v.1, .int v.2]) ∧ (-1000 ≤ u.1 ∧ u.1 ≤ 1000 ∧ -1000 ≤ u.2 ∧ u.2 ≤ 1000) ∧ (-1000 ≤ v.1 ∧ v.1 ≤ 1000 ∧ -1000 ≤ v.2 ∧ v.2 ≤ 1000) ∧ ∀ H' : Hp, Same H H' → Q (.bl (decide (ahd u v))) H'
def spTurned : Sp := fun vs H Q _ => ∃ (ps l : Addr) (sp : Int × Int) (xs : List V) (L : List (Int × Int)), vs = [.ref ps, .ref l] ∧ H ps = some (.tup [.int sp.1, .int sp.2]) ∧ (-100 ≤ sp.1 ∧ sp.1 ≤ 100 ∧ -100 ≤ sp.2 ∧ sp.2 ≤ 100) ∧ H l = some (.lst xs) ∧ Prs H xs L ∧ Fan sp L ∧
  ∀ (r : Addr) (H' : Hp) (ys : List V) (M : List (Int × Int)), Same H H' → H r = none → H' r = some (.lst ys) → Prs H' ys M → M.Perm L → M.Pairwise (fun p q => ahd (subP p sp) (subP q sp)) → Q (.ref r) H'
section
variable {P : Program} {w : World} {K : PySem.W.Frag} {mg : Str → Option Value} {base : Heap} {f : Addr} {fd : FuncData}
abbrev s_ahead : Stmt := top 11
theorem sc_ahead : FnScope ["_law_one", "_law_other", "_law_halves", "_law_step"] ["_law_one", "_law_other"] (defScope s_ahead) := ⟨rfl, rfl, rfl, by decide +kernel, rfl, by decide +kernel, by decide +kernel⟩
theorem ok_ahead (B : Blt mg) (F : Fun K "_law_ahead" "_law_ahead" s_ahead f fd) : FnOk P w K mg base CX0 1 f fd ["_law_one", "_law_other"] spAhead := by
  refine F.ok sc_ahead (fun vs H Q E h => ?_) (fun cdv A outer s H vs Q E hr h => ?_)
  · obtain ⟨a, b, u, v, rfl, _⟩ := h
    rfl
  obtain ⟨a, b, u, v, rfl, ha, hb, bu, bv, q⟩ := h
  refine ⟨_, (pss_cons (ps_setLc (i := 2) (own := [("_law_step", 3)]) (g := gName 3) (tt := tYes) rfl sc_ahead.nd rfl rfl (sw_true rfl rfl rfl (by decide +kernel)) (pi_list (pe_lst (pa_cons (pv 0) (pa_cons (pv 1) pa_nil)))) (blkOk_by (own := [("_law_step", 3)]) (N := ["_law_one", "_law_other", "_law_halves", "_law_step"]) (sc := defScope s_ahead) (by decide +kernel)) (fun _ _ _ _ _ => pg_name (i := 3) sc_ahead.nd rfl (Or.inl rfl)) (fun _ _ _ _ _ => pts_nil) (fun _ _ _ _ _ => (pe_callTy call_int1 rfl B.int bt_int (pa_cons (pe_or (pe_cmpR op_lt (pe_ix (r := rIxT K) ix_tup (pv 3) pe_int (fun _ _ => rfl)) pe_int (nomark _)) (pe_one (pe_and (pe_cmpR op_eq (pe_ix (r := rIxT K) ix_tup (pv 3) pe_int (fun _ _ => rfl)) pe_int (nomark _)) (pe_one (pe_cmpR op_lt (pe_ix (r := rIxT K) ix_tup (pv 3) pe_int (fun _ _ => rfl)) pe_int (nomark _)))))) pa_nil))))
    (pss_cons (ps_if (pt_cmpR op_ne (pe_ix ix_list (pv 2) pe_int (fun _ _ => rfl)) (pe_ix ix_list (pv 2) pe_int (fun _ _ => rfl)) (nomark _))
    (pss_one (ps_ret (pe_cmpR op_lt (pe_ix ix_list (pv 2) pe_int (fun _ _ => rfl)) (pe_ix ix_list (pv 2) pe_int (fun _ _ => rfl)) (nomark _))))
    pss_nil)
    (pss_one (ps_ret (pe_cmpR op_gt (pe_op op_sub (pe_op op_mul (pe_ix ix_tup (pv 0) pe_int (fun _ _ => rfl)) (pe_ix ix_tup (pv 1) pe_int (fun _ _ => rfl))) (pe_op op_mul (pe_ix ix_tup (pv 0) pe_int (fun _ _ => rfl)) (pe_ix ix_tup (pv 1) pe_int (fun _ _ => rfl)))) pe_int (nomark _)))))), ?_⟩
  refine seq_with (fun σ' H' => ∃ D : Addr, σ' = [some (.ref a), some (.ref b), some (.ref D), none] ∧ Same H H' ∧ H' D = some (.lst [.int (lowI u), .int (lowI v)])) (fun R hR => ?_) ?_
  · refine ⟨_, rfl, _, rfl, sz (by decide : 2 ≤ 100000), fun pl nl => ?_⟩
    refine ⟨pl, rfl, ⟨_, SqL.of upd_same⟩, fun D nD => ?_⟩
    have g1 := same_new nl (.lst [.ref a, .ref b])
    refine lc_list (K := K) (a := pl) (xs := [.ref a, .ref b]) (fun i H' => Same H H' ∧ H' pl = some (.lst [.ref a, .ref b]) ∧ H' D = some (.lst (([V.int (lowI u), V.int (lowI v)]).take i))) ?_ ?_ ?_ ?_
    · exact ⟨g1.trans (same_new nD _), (same_new nD _) _ _ upd_same, upd_same⟩
    · rintro i H' _ ⟨_, e, _⟩
      exact SqL.of e
    · have step : ∀ (i : Nat) (c : Addr) (z : Int × Int) (H' : Hp), i < 2 → ([V.int (lowI u), V.int (lowI v)])[i]? = some (V.int (lowI z)) → H' c = some (.tup [.int z.1, .int z.2]) → Same H H' → H' pl = some (.lst [.ref a, .ref b]) → H' D = some (.lst (([V.int (lowI u), V.int (lowI v)]).take i)) →
          ∃ acc, H' D = some (.lst acc) ∧ acc.length < sizeLine ∧ Same H (upd H' D (.lst (acc ++ [V.int (lowI z)]))) ∧ (upd H' D (.lst (acc ++ [V.int (lowI z)]))) pl = some (.lst [.ref a, .ref b]) ∧ (upd H' D (.lst (acc ++ [V.int (lowI z)]))) D = some (.lst (([V.int (lowI u), V.int (lowI v)]).take (i + 1))) := by
        intro i c z H' hi hz hc e epl hD
        have nD' : H D = none := g1.free nD
        refine ⟨_, hD, ?_, fun x o y => ?_, ?_, ?_⟩
        · rw [List.length_take]
          exact Nat.lt_of_lt_of_le (show min i 2 < 100000 by omega) (sz (Nat.le_refl _))
        · rw [upd_ne (ne_of_none y nD')]
          exact e _ _ y
        · rw [upd_ne (fun q => by rw [q] at nl nD; exact absurd (upd_same (H := H) (a := D) (o := .lst [.ref a, .ref b])) (by rw [nD]; exact fun z => by cases z))]
          exact epl
        · rw [upd_same, take_snoc hz]
      rintro i x H' hx ⟨e, epl, hD⟩
      refine ⟨rfl, lc_yes ?_⟩
      obtain ⟨c, z, rfl, hz, hc, hi⟩ : ∃ (c : Addr) (z : Int × Int), x = .ref c ∧ ([V.int (lowI u), V.int (lowI v)])[i]? = some (V.int (lowI z)) ∧ H' c = some (.tup [.int z.1, .int z.2]) ∧ i < 2 := by
        match i, hx with
        | 0, hx => cases hx; exact ⟨a, u, rfl, rfl, e _ _ ha, by decide⟩
        | 1, hx => cases hx; exact ⟨b, v, rfl, rfl, e _ _ hb, by decide⟩
      have fin := step i c z H' hi hz hc e epl hD
      refine ⟨_, rfl, c, _, _, _, rfl, rfl, SqT.of hc, rfl, _, _, rfl, rfl, _, rfl, ?_⟩
      by_cases c1 : z.2 < 0
      · refine iteDT c1 ?_
        refine .inr ⟨_, rfl, ?_⟩
        have e1 : lowI z = 1 := by unfold lowI; rw [if_pos (show low z from .inl c1)]
        rw [e1] at fin
        exact fin
      refine iteDF c1 ?_
      refine ⟨_, rfl, c, _, _, _, rfl, rfl, SqT.of hc, rfl, rfl, _, rfl, ?_⟩
      by_cases c2 : z.2 = 0
      · refine iteDT (congrArg V.int c2) ?_
        refine ⟨_, rfl, c, _, _, _, rfl, rfl, SqT.of hc, rfl, _, _, rfl, rfl, .inr ⟨_, rfl, ?_⟩⟩
        by_cases c3 : z.1 < 0
        · have e1 : lowI z = 1 := by unfold lowI; rw [if_pos (show low z from .inr ⟨c2, c3⟩)]
          rw [decide_eq_true c3]
          rw [e1] at fin
          exact fin
        · have e1 : lowI z = 0 := by unfold lowI; rw [if_neg (fun q : low z => by unfold low at q; omega)]
          rw [decide_eq_false c3]
          rw [e1] at fin
          exact fin
      · refine iteDF (fun q => c2 (V.int.inj q)) ?_
        refine .inr ⟨_, rfl, ?_⟩
        have e1 : lowI z = 0 := by unfold lowI; rw [if_neg (fun q : low z => by unfold low at q; omega)]
        rw [e1] at fin
        exact fin
    · rintro H1 ⟨e1, _, hD⟩
      exact hR _ _ ⟨D, rfl, e1, hD⟩
  rintro σ H1 ⟨D, rfl, s1, hD⟩
  refine ⟨_, rfl, D, _, _, _, rfl, rfl, SqL.of hD, rfl, _, rfl, D, _, _, _, rfl, rfl, SqL.of hD, rfl, rfl, _, rfl, ?_⟩
  have q1 := q H1 s1
  by_cases c1 : lowI u = lowI v
  · rw [decide_eq_true (congrArg V.int c1)]
    refine iteF ?_
    dsimp only [tNext]
    have hl : low u ↔ low v := by
      unfold lowI at c1
      by_cases x : low u <;> by_cases y : low v
      · exact ⟨fun _ => y, fun _ => x⟩
      · rw [if_pos x, if_neg y] at c1; omega
      · rw [if_neg x, if_pos y] at c1; omega
      · exact ⟨fun z => absurd z x, fun z => absurd z y⟩
    refine ⟨_, rfl, a, _, _, _, rfl, rfl, SqT.of (s1 _ _ ha), rfl, _, rfl, b, _, _, _, rfl, rfl, SqT.of (s1 _ _ hb), rfl, _, _, rfl, rfl, .inl ⟨by omega, by omega⟩, _, rfl, a, _, _, _, rfl, rfl, SqT.of (s1 _ _ ha), rfl, _, rfl, b, _, _, _, rfl, rfl, SqT.of (s1 _ _ hb), rfl, _, _, rfl, rfl, .inl ⟨by omega, by omega⟩, _, _, rfl, rfl, _, _, rfl, rfl, ?_⟩
    have e : decide (u.1 * v.2 - u.2 * v.1 > 0) = decide (ahd u v) := decide_eq_decide.mpr ⟨fun z => .inr ⟨hl, z⟩, fun z => by
      rcases z with ⟨x, y⟩ | ⟨_, y⟩
      · exact absurd (hl.mpr y) x
      · exact y⟩
    rw [← e] at q1
    exact q1
  · rw [decide_eq_false (fun z => c1 (V.int.inj z))]
    refine iteT ?_
    refine ⟨_, rfl, D, _, _, _, rfl, rfl, SqL.of hD, rfl, _, rfl, D, _, _, _, rfl, rfl, SqL.of hD, rfl, _, _, rfl, rfl, ?_⟩
    have e : decide (lowI u < lowI v) = decide (ahd u v) := decide_eq_decide.mpr (by
      unfold lowI at *
      by_cases x : low u <;> by_cases y : low v
      · rw [if_pos x, if_pos y] at c1; exact absurd rfl c1
      · rw [if_pos x, if_neg y]
        exact ⟨fun z => absurd z (by decide), fun z => by rcases z with ⟨z, _⟩ | ⟨z, _⟩; exact absurd x z; exact absurd (z.mp x) y⟩
      · rw [if_neg x, if_pos y]
        exact ⟨fun _ => .inl ⟨x, y⟩, fun _ => by decide⟩
      · rw [if_neg x, if_neg y] at c1; exact absurd rfl c1)
    rw [← e] at q1
    exact q1
abbrev s_turned : Stmt := top 12
theorem sc_turned : FnScope ["_law_spot_here", "_law_others", "_law_found", "_law_other", "_law_step", "_law_at"] ["_law_spot_here", "_law_others"] (defScope s_turned) := ⟨rfl, rfl, rfl, by decide +kernel, rfl, by decide +kernel, by decide +kernel⟩
theorem ok_turned (B : Blt mg) (c_ahead : Cal P w K mg base 1 "_law_ahead" ["_law_one", "_law_other"] spAhead) (F : Fun K "_law_turned" "_law_turned" s_turned f fd) : FnOk P w K mg base CX0 2 f fd ["_law_spot_here", "_law_others"] spTurned := by
  refine F.ok sc_turned (fun vs H Q E h => ?_) (fun cdv A outer s H vs Q E hr h => ?_)
  · obtain ⟨ps, l, sp, xs, L, rfl, _⟩ := h
    rfl
  obtain ⟨ps, l, sp, xs, L, rfl, hps, bs, hl, hP, hF, q⟩ := h
  refine ⟨_, (pss_cons (ps_set (i := 2) sc_turned.nd rfl (Or.inl rfl) (pe_lst pa_nil))
    (pss_cons (ps_for PassesOwn.never rfl (pi_list (pv 1)) (pg_name (i := 3) sc_turned.nd rfl (Or.inl rfl))
    (pss_cons (ps_set (i := 4) sc_turned.nd rfl (Or.inl rfl) (pe_tup (pa_cons (pe_op op_sub (pe_ix ix_tup (pv 3) pe_int (fun _ _ => rfl)) (pe_ix ix_tup (pv 0) pe_int (fun _ _ => rfl))) (pa_cons (pe_op op_sub (pe_ix ix_tup (pv 3) pe_int (fun _ _ => rfl)) (pe_ix ix_tup (pv 0) pe_int (fun _ _ => rfl))) pa_nil))))
    (pss_cons (ps_set (i := 5) sc_turned.nd rfl (Or.inl rfl) pe_int)
    (pss_cons (ps_while PassesOwn.never (PW.pt (pw_and (pt_cmpR op_lt (pv 5) (pe_callB call_len_seq rfl B.len bt_len (pa_cons (pv 2) pa_nil)) (nomark _)) (pw_and1 (pt_val (pe_cal c_ahead hr (pa_cons (pe_tup (pa_cons (pe_op op_sub (pe_ix ix_tup (pe_ix ix_list (pv 2) (pv 5) (fun _ _ => rfl)) pe_int (fun _ _ => rfl)) (pe_ix ix_tup (pv 0) pe_int (fun _ _ => rfl))) (pa_cons (pe_op op_sub (pe_ix ix_tup (pe_ix ix_list (pv 2) (pv 5) (fun _ _ => rfl)) pe_int (fun _ _ => rfl)) (pe_ix ix_tup (pv 0) pe_int (fun _ _ => rfl))) pa_nil))) (pa_cons (pv 4) pa_nil)))))))
    (pss_one (ps_set (i := 5) sc_turned.nd rfl (Or.inl rfl) (pe_op op_add (pv 5) pe_int))))
    (pss_one (ps_expr (pe_bm PySem.F.plainAttrs_list PySem.F.slot_list_insert PySem.F.type_list_insert mt_insert (pv 2) (pa_cons (pv 5) (pa_cons (pv 3) pa_nil)))))))))
    (pss_one (ps_ret (pv 2))))), ?_⟩
  refine ⟨sz (by decide : 0 ≤ 100000), fun D nD => ?_⟩
  have lens := hP.len
  refine ⟨_, rfl, l, rfl, ⟨_, SqL.of (same_new nD (.lst []) _ _ hl)⟩, ?_⟩
  refine for_list (K := K) (a := l) (xs := xs) (fun i σ H' => (∃ c3 c4 c5, σ = [some (.ref ps), some (.ref l), some (.ref D), c3, c4, c5]) ∧ Same H H' ∧ ∃ (ys : List V) (M : List (Int × Int)), H' D = some (.lst ys) ∧ Prs H' ys M ∧ M.Perm (L.take i) ∧ M.Pairwise (fun p q => ahd (subP p sp) (subP q sp))) ?_ ?_ ?_ ?_
  · exact ⟨⟨_, _, _, rfl⟩, same_new nD _, [], [], upd_same, .nil, .refl _, .nil⟩
  · rintro i σ H' _ ⟨_, e, _⟩
    exact SqL.of (e _ _ hl)
  · rintro i x σ H' hx ⟨⟨c3, c4, c5, rfl⟩, e, ys, M, hD, hY, pm, pw⟩
    obtain ⟨z, hz, zp, rfl, hzp⟩ := hP.at hx
    have zL := List.mem_of_getElem? hz
    have bz := hF.1 z zL
    dsimp only [gName, tNext, List.set]
    refine seq_with (fun σ' H2 => ∃ st : Addr, σ' = [some (.ref ps), some (.ref l), some (.ref D), some (.ref zp), some (.ref st), c5] ∧ Same H' H2 ∧ H2 st = some (.tup [.int (subP z sp).1, .int (subP z sp).2])) (fun R hR => ?_) ?_
    · refine ⟨_, rfl, zp, _, _, _, rfl, rfl, SqT.of (e _ _ hzp), rfl, _, rfl, ps, _, _, _, rfl, rfl, SqT.of (e _ _ hps), rfl, _, _, rfl, rfl, ?_⟩
      refine ⟨_, rfl, zp, _, _, _, rfl, rfl, SqT.of (e _ _ hzp), rfl, _, rfl, ps, _, _, _, rfl, rfl, SqT.of (e _ _ hps), rfl, _, _, rfl, rfl, sz (by decide : 2 ≤ 100000), fun st nst => ?_⟩
      exact hR _ _ ⟨st, rfl, same_new nst _, upd_same⟩
    rintro _ H2 ⟨st, rfl, s2, hst⟩
    refine seq_with (fun σ' H3 => H2 = H3 ∧ σ' = [some (.ref ps), some (.ref l), some (.ref D), some (.ref zp), some (.ref st), some (.int 0)]) (fun R hR => hR _ _ ⟨rfl, rfl⟩) ?_
    rintro _ _ ⟨rfl, rfl⟩
    have lenM := hY.len
    have ML : M.length ≤ 1000 := by
      rw [pm.length_eq, List.length_take]
      have := hF.2.2
      omega
    refine seq_with (fun σ' H3 => ∃ j : Nat, σ' = [some (.ref ps), some (.ref l), some (.ref D), some (.ref zp), some (.ref st), some (.int (j : Int))] ∧ Same H2 H3 ∧ j ≤ M.length ∧ (∀ p ∈ M.take j, ahd (subP p sp) (subP z sp)) ∧ ∀ p, M[j]? = some p → ¬ ahd (subP p sp) (subP z sp)) (fun R hR => ?_) ?_
    · refine while_own (fun σ' H3 => ∃ j : Nat, σ' = [some (.ref ps), some (.ref l), some (.ref D), some (.ref zp), some (.ref st), some (.int (j : Int))] ∧ Same H2 H3 ∧ j ≤ M.length ∧ ∀ p ∈ M.take j, ahd (subP p sp) (subP z sp)) (fun σ' _ => match σ' with | [_, _, _, _, _, some (.int j)] => M.length - j.toNat | _ => 0) ⟨0, rfl, fun _ _ q => q, Nat.zero_le _, fun p hp => by rw [List.take_zero] at hp; cases hp⟩ ?_
      rintro σ' H3 N kN okN ⟨j, rfl, s3, hj, hall⟩
      have s23 := s2.trans s3
      have hD3 := s23 _ _ hD
      have hY3 := hY.same s23
      refine ⟨_, rfl, _, rfl, D, _, rfl, .inl (SqL.of hD3), _, _, rfl, rfl, _, rfl, ?_⟩
      by_cases c1 : j < M.length
      · refine iteDT (by omega) ?_
        obtain ⟨p, hp⟩ : ∃ p, M[j]? = some p := ⟨_, List.getElem?_eq_getElem c1⟩
        obtain ⟨v, hv, vp, rfl, hvp⟩ := hY3.get hp
        have bp := hF.1 p (List.mem_of_mem_take (pm.mem_iff.mp (List.mem_of_getElem? hp)))
        have hps3 := s23 _ _ (e _ _ hps)
        refine ⟨_, rfl, _, rfl, D, _, _, _, rfl, rfl, SqL.of hD3, atI_nat hv, vp, _, _, _, rfl, rfl, SqT.of hvp, rfl, _, rfl, ps, _, _, _, rfl, rfl, SqT.of hps3, rfl, _, _, rfl, rfl, ?_⟩
        refine ⟨_, rfl, _, rfl, D, _, _, _, rfl, rfl, SqL.of hD3, atI_nat hv, vp, _, _, _, rfl, rfl, SqT.of hvp, rfl, _, rfl, ps, _, _, _, rfl, rfl, SqT.of hps3, rfl, _, _, rfl, rfl, sz (by decide : 2 ≤ 100000), fun tp ntp => ?_⟩
        have gt := same_new ntp (.tup [.int (p.1 - sp.1), .int (p.2 - sp.2)])
        refine ⟨_, rfl, tp, st, subP p sp, subP z sp, rfl, upd_same, gt _ _ (s3 _ _ hst), ?_, ?_, fun H4 s4 => ⟨_, rfl, ?_⟩⟩
        · unfold subP
          dsimp only
          omega
        · unfold subP
          dsimp only
          omega
        · have s34 := s3.trans (gt.trans s4)
          by_cases c2 : ahd (subP p sp) (subP z sp)
          · refine iteDT c2 ?_
            refine ⟨N, okN, _, rfl, _, _, rfl, rfl, ?_⟩
            refine kN _ _ ⟨j + 1, rfl, s34, by omega, fun p' hp' => ?_⟩ ?_
            · rw [take_snoc hp] at hp'
              rcases List.mem_append.mp hp' with y | y
              · exact hall p' y
              · rw [List.mem_singleton.mp y]; exact c2
            · show M.length - ((j : Int) + 1).toNat < M.length - (j : Int).toNat
              omega
          · refine iteDF c2 ?_
            exact hR _ _ ⟨j, rfl, s34, hj, hall, fun p' hp' => by rw [hp] at hp'; cases hp'; exact c2⟩
      · refine iteDF (by omega) ?_
        have ej : j = M.length := by omega
        exact hR _ _ ⟨j, rfl, s3, hj, hall, fun p' hp' => by rw [ej, List.getElem?_eq_none (Nat.le_refl _)] at hp'; cases hp'⟩
    rintro _ H3 ⟨j, rfl, s3, hj, hall, hnot⟩
    have s23 := s2.trans s3
    have hD3 := s23 _ _ hD
    have hY3 := hY.same s23
    refine ⟨_, rfl, .inl ⟨rfl, _, SqL.of hD3⟩, _, rfl, _, rfl, D, ys, (j : Int), .ref zp, rfl, rfl, hD3, ?_, by omega, by omega, ?_⟩
    · exact Nat.lt_of_le_of_lt (by rw [lenM]; exact ML) (by decide)
    rw [Int.toNat_natCast]
    have nHD : ∀ b o, H b = some o → b ≠ D := fun b o z => ne_of_none z nD
    have up : ∀ {vs : List V} {N : List (Int × Int)}, Prs H3 vs N → Prs (upd H3 D (.lst (ys.take j ++ [.ref zp] ++ ys.drop j))) vs N := fun {vs N} z => z.but (l := D) (fun xs' z' => by rw [hD3] at z'; cases z') (fun a' o' na z' => by rw [upd_ne na]; exact z')
    refine ⟨⟨_, _, _, rfl⟩, fun b o z => ?_, _, M.take j ++ [z] ++ M.drop j, upd_same, ?_, ?_, ?_⟩
    · rw [upd_ne (nHD b o z)]
      exact s23 _ _ (e _ _ z)
    · refine up ?_
      have z3 := s23 _ _ (e _ _ hzp)
      exact (((hY3.take j).append (.cons ⟨zp, rfl, z3⟩ .nil)).append (hY3.drop j))
    · rw [take_snoc hz]
      have p1 : (M.take j ++ [z] ++ M.drop j).Perm (M ++ [z]) := by
        have e1 : M ++ [z] = M.take j ++ (M.drop j ++ [z]) := by rw [← List.append_assoc, List.take_append_drop]
        rw [e1, List.append_assoc]
        exact List.Perm.append_left _ List.perm_append_comm
      exact p1.trans (pm.append_right _)
    · have unl : ∀ p ∈ M, dir (subP p sp) ≠ dir (subP z sp) := fun p hp => by
        have hp' := pm.mem_iff.mp hp
        have pwL := hF.2.1
        have e1 : L = L.take i ++ z :: L.drop (i + 1) := by
          obtain ⟨hi', ez⟩ := List.getElem?_eq_some_iff.mp hz
          rw [← ez, List.getElem_cons_drop, List.take_append_drop]
        rw [e1] at pwL
        exact (List.pairwise_append.mp pwL).2.2 p hp' z List.mem_cons_self
      have inF : ∀ p ∈ M, p ≠ sp ∧ nrm (subP p sp) ≤ 400 := fun p hp => by
        have b := hF.1 p (List.mem_of_mem_take (pm.mem_iff.mp hp))
        refine ⟨b.1, ?_⟩
        unfold nrm ab subP
        dsimp only
        split <;> split <;> omega
      have zF : nrm (subP z sp) ≤ 400 := by
        unfold nrm ab subP
        dsimp only
        split <;> split <;> omega
      have behind : ∀ q ∈ M.drop j, ahd (subP z sp) (subP q sp) := fun q hq => by
        cases hM : M.drop j with
        | nil => rw [hM] at hq; cases hq
        | cons p0 r =>
          have h0 : M[j]? = some p0 := by
            have : (M.drop j)[0]? = some p0 := by rw [hM]; rfl
            rw [List.getElem?_drop] at this
            exact this
          have m0 := List.mem_of_getElem? h0
          have z0 : ahd (subP z sp) (subP p0 sp) := (ahd_tot (sub_ne bz.1) (sub_ne (inF _ m0).1) (unl _ m0).symm).resolve_right (hnot p0 h0)
          rw [hM] at hq
          rcases List.mem_cons.mp hq with rfl | hq
          · exact z0
          · have mq : q ∈ M := List.mem_of_mem_drop (by rw [hM]; exact List.mem_cons_of_mem _ hq)
            have pd : (M.drop j).Pairwise (fun p q => ahd (subP p sp) (subP q sp)) := pw.drop
            rw [hM] at pd
            exact ahd_tr (F := 400) (sub_ne bz.1) (sub_ne (inF _ m0).1) (sub_ne (inF _ mq).1) zF (inF _ m0).2 (inF _ mq).2 z0 ((List.pairwise_cons.mp pd).1 q hq) (unl _ mq).symm
      have e2 : M = M.take j ++ M.drop j := (List.take_append_drop j M).symm
      rw [e2] at pw
      obtain ⟨w1, w2, w3⟩ := List.pairwise_append.mp pw
      rw [List.append_assoc]
      refine List.pairwise_append.mpr ⟨w1, List.pairwise_append.mpr ⟨List.pairwise_singleton .., w2, fun a ha b hb => ?_⟩, fun a ha b hb => ?_⟩
      · rw [List.mem_singleton.mp ha]
        exact behind b hb
      · rcases List.mem_append.mp hb with y | y
        · rw [List.mem_singleton.mp y]
          exact hall a ha
        · exact w3 a ha b y
  · rintro σ H' ⟨⟨c3, c4, c5, rfl⟩, e, ys, M, hD, hY, pm, pw⟩
    rw [lens, List.take_length] at pm
    exact ⟨_, rfl, q D H' ys M e nD hD hY pm pw⟩
end
end DM

namespace DM
open PySem L2
/-! ### least and greatest of a tuple of numbers -/
section
variable {X : Cx}
def rMinT (K : PySem.W.Frag) : List V → Hp → VK → Prop := fun vs H Q => ∃ (a : Addr) (n : Int) (ns : List Int), vs = [.ref a] ∧ SqT K H a ((n :: ns).map V.int) ∧ Q (.int (PySem.W.minOf n ns)) H
def rMaxT (K : PySem.W.Frag) : List V → Hp → VK → Prop := fun vs H Q => ∃ (a : Addr) (n : Int) (ns : List Int), vs = [.ref a] ∧ SqT K H a ((n :: ns).map V.int) ∧ Q (.int (PySem.W.maxOf n ns)) H
theorem cr_minT (hc : X.calm = true) (hu : X.A.units + 1 < cLine) : CallR X (.builtin "min") (rMinT X.K) := by
  intro pins s σ H vs us Q I r h
  obtain ⟨a, n, ns, rfl, hs, q⟩ := h
  obtain ⟨its, rv, ht, _⟩ := I.tuple hs
  rw [Vals.ref1 r]
  refine PySem.W.min_tuple_datum (α := Int) (x := n) (xs := ns) (I.ok.hd hc) (show s.heap.IsTuple a its.toArray from ht) (PySem.W.HoldAll.of_ints (Vals.ints (ns := n :: ns) rv)) hu fun i v h' tk hv hh hk => ?_
  obtain ⟨as, rr⟩ := hh
  obtain ⟨t, rfl, _⟩ := PyProof.Rows.reads_int_inv rr
  exact ⟨.int _, H, I.kept hk, ⟨t, rfl⟩, q⟩
theorem cr_maxT (hc : X.calm = true) (hu : X.A.units + 1 < cLine) : CallR X (.builtin "max") (rMaxT X.K) := by
  intro pins s σ H vs us Q I r h
  obtain ⟨a, n, ns, rfl, hs, q⟩ := h
  obtain ⟨its, rv, ht, _⟩ := I.tuple hs
  rw [Vals.ref1 r]
  refine PySem.W.max_tuple_datum (α := Int) (x := n) (xs := ns) (I.ok.hd hc) (show s.heap.IsTuple a its.toArray from ht) (PySem.W.HoldAll.of_ints (Vals.ints (ns := n :: ns) rv)) hu fun i v h' tk hv hh hk => ?_
  obtain ⟨as, rr⟩ := hh
  obtain ⟨t, rfl, _⟩ := PyProof.Rows.reads_int_inv rr
  exact ⟨.int _, H, I.kept hk, ⟨t, rfl⟩, q⟩
end
theorem min_pair (i j : Int) : PySem.W.minOf i [j] = if j < i then j else i := by
  show (if decide (j < i) = true then j else i) = _
  by_cases h : j < i
  · rw [if_pos (decide_eq_true h), if_pos h]
  · rw [if_neg (by simpa using h), if_neg h]
theorem max_pair (i j : Int) : PySem.W.maxOf i [j] = if i < j then j else i := by
  show (if decide (i < j) = true then j else i) = _
  by_cases h : i < j
  · rw [if_pos (decide_eq_true h), if_pos h]
  · rw [if_neg (by simpa using h), if_neg h]
end DM

namespace DM
open PySem L2
/-! ### dict(l) of pairs whose keys are tuples -/
def mergeT (kvL more : List (List Key × V)) : List (List Key × V) := more.foldl (fun acc kv => putK acc kv.1 kv.2) kvL
theorem putT_len (kvL : List (List Key × V)) (k : List Key) (v : V) : (putK kvL k v).length ≤ kvL.length + 1 := by
  unfold putK
  split
  · rw [List.length_map]; omega
  · rw [List.length_append, List.length_singleton]; omega
theorem mergeT_len : ∀ (more kvL : List (List Key × V)), (mergeT kvL more).length ≤ kvL.length + more.length
  | [], kvL => Nat.le_refl _
  | p :: r, kvL => by
    have h := mergeT_len r (putK kvL p.1 p.2)
    have h' := putT_len kvL p.1 p.2
    rw [List.length_cons]
    show (mergeT (putK kvL p.1 p.2) r).length ≤ _
    omega
theorem mergeT_rel {H : Hp} : ∀ {more : List (List Key × V)} {rs : List (List Key × Addr × Value)} {kvL : List (List Key × V)} {xs : List (List Key × Addr × Value)}, KT H more rs → KT H kvL xs → KT H (mergeT kvL more) (storedAllH xs rs) := by
  intro more rs kvL xs r
  unfold KT at r
  induction r generalizing kvL xs with
  | nil => intro h; exact h
  | @cons p q ps qs isList t ih =>
    intro h
    obtain ⟨e1, e2, e3⟩ := isList
    refine ih (kvL := putK kvL p.1 p.2) (xs := storedH xs q.1 q.2.1 q.2.2) ?_
    rw [← e1]
    exact KT.put h p.1 e2 e3
section
variable {X : Cx}
theorem pairsT_of {pins : List (Addr × Obj)} {σ : St} {H : Hp} {s : Shared} (I : Inv X pins σ H s) : ∀ {ps : List Addr} {kvL : List (List Key × V)}, Paired (fun p kv => ∃ b, SqT X.K H p [.ref b, kv.2] ∧ H b = some (.tup (kv.1.map kV))) ps kvL →
    ∃ rs : List (List Key × Addr × Value), KT H kvL rs ∧ rs.length = ps.length ∧ ∀ (j : Nat) (q : List Key × Addr × Value), rs[j]? = some q → ∃ p : Addr, ps[j]? = some p ∧ s.heap.IsTuple p #[.ref q.2.1, q.2.2] ∧ H q.2.1 = some (.tup (q.1.map kV))
  | _, _, .nil => ⟨[], .nil, rfl, fun j q e => by simp at e⟩
  | _, _, .cons (a := p) (b := kv) h t => by
    obtain ⟨rs, r, lenR, isPairs⟩ := pairsT_of I t
    obtain ⟨b, h, hb⟩ := h
    obtain ⟨its, relV, ht, _⟩ := I.tuple h
    obtain ⟨u, y, eIts, ru, ry⟩ := vals2 relV
    subst eIts
    cases (show u = Value.ref b from ru)
    refine ⟨(kv.1, b, y) :: rs, .cons ⟨rfl, hb, ry⟩ r, by rw [List.length_cons, List.length_cons, lenR], fun j q e => ?_⟩
    cases j with
    | zero =>
      have e' : (kv.1, b, y) = q := Option.some.inj e
      subst e'
      exact ⟨p, rfl, ht, hb⟩
    | succ j =>
      obtain ⟨p', e1, e2, e3⟩ := isPairs j q (by simpa using e)
      exact ⟨p', by simpa using e1, e2, e3⟩
def rDictT (K : PySem.W.Frag) : List V → Hp → VK → Prop := fun xs H Q => ∃ (a : Addr) (ps : List Addr) (kvL : List (List Key × V)), xs = [.ref a] ∧ SqL K H a (ps.map V.ref) ∧ Paired (fun p kv => ∃ b, SqT K H p [.ref b, kv.2] ∧ H b = some (.tup (kv.1.map kV))) ps kvL ∧
    ∀ p, H p = none → Q (.ref p) (upd H p (.dT (mergeT [] kvL)))
theorem call_dictT (hcalm : X.calm = true) (hu : X.A.units + 64 < cLine) : CallR X (.type "dict") (rDictT X.K) := by
  intro pins s σ H xs us Q I r q
  obtain ⟨a, ps, kvL, ex, isList, isPairs, q⟩ := q
  subst ex
  obtain ⟨u, eu, rx⟩ := vals1 r
  subst eu
  cases rx
  obtain ⟨its, relV, pl, room⟩ := I.list isList
  have eIts := refs_at relV
  subst eIts
  rw [List.length_map] at room
  obtain ⟨rs, rel, lenR, hpr⟩ := pairsT_of I isPairs
  obtain ⟨o, n, objAt, objTy, hd, dat⟩ := pl
  have hi : PairItems s.heap ((ps.map Value.ref).toArray) (fun j => ps.getD j 0) (rs.map fun x => (Value.ref x.2.1, x.2.2)) := by
    refine ⟨by simp [lenR], fun j k v e => ?_⟩
    rw [List.getElem?_map] at e
    cases e1 : rs[j]? with
    | none => rw [e1] at e; cases e
    | some x =>
      rw [e1] at e
      cases e
      obtain ⟨p, h1, h2, _⟩ := hpr j x e1
      have e2 : ps.getD j 0 = p := by rw [List.getD_eq_getElem?_getD, h1]; rfl
      dsimp only
      rw [e2]
      exact ⟨by simp [h1], .inl h2⟩
  refine call_dict_pairsH (knd := tupleKind (mixKind X.prog X.w)) (ps := rs) (PairArg.list a ((ps.map Value.ref).toArray) (fun j => ps.getD j 0) (rs.map fun x => (Value.ref x.2.1, x.2.2))) (I.ok.hd hcalm) (show X.A.units + 1 + 1 < cLine by omega) ⟨⟨o, n, objAt, objTy, hd, dat⟩, hi⟩ ⟨by rw [List.length_map], fun i key v e => ?_⟩ (fun h' hk x hx => ?_) (by rw [List.length_map, lenR]; exact room) fun h' tk hd' k => ?_
  · have e' : (rs.map fun x => (Value.ref x.2.1, x.2.2))[i]? = some (key, v) := e
    rw [List.getElem?_map] at e'
    cases e1 : rs[i]? with
    | none => rw [e1] at e'; cases e'
    | some x =>
      rw [e1] at e'
      cases e'
      exact ⟨x.1, x.2.1, rfl, rfl⟩
  · obtain ⟨j, hj⟩ := List.mem_iff_getElem?.mp hx
    obtain ⟨p, _, _, h3⟩ := hpr j x hj
    obtain ⟨ob, arr, n', g1, g2, g3, g4⟩ := key_of (P := X.prog) (w := X.w) I.hok h3
    exact ⟨ob, arr, n', hk _ _ (Nat.ne_of_lt (Heap.lt_size g1)) (by simp) g1, g2, g3, g4⟩
  · have noMods : (s.heap.objs.size == sysModules) = false := beq_eq_false_iff_ne.mpr (Nat.ne_of_gt I.big)
    have lenM : (mergeT [] kvL).length ≤ sizeLine := by
      refine Nat.le_trans (mergeT_len kvL []) ?_
      rw [List.length_nil, Nat.zero_add, rel.length, lenR]
      exact room
    obtain ⟨o', es, ep, h1, h2, h3, h4, _, h5⟩ := hd'
    have fresh := I.hok.fresh (Nat.le_refl _)
    have kt : KT (upd H s.heap.objs.size (.dT (mergeT [] kvL))) (mergeT [] kvL) (storedAllH [] rs) := (mergeT_rel rel .nil).keeps fun b ys e => by
      rw [upd_ne (ne_of_none e fresh)]; exact e
    exact ⟨.ref s.heap.objs.size, upd H s.heap.objs.size (.dT (mergeT [] kvL)), I.laid (t' := tk) (fun b o e => k b o (by simp) e) (Nat.le_refl _) (show ObjOk X.prog X.w _ _ _ (.dT (mergeT [] kvL)) from ⟨lenM, noMods, storedAllH [] rs, kt, o', es, ep, h1, h2, h3, h4, h5⟩), rfl, q _ fresh⟩
end
end DM

namespace DM
open PySem L2
/-! ### what is alike, piece by piece -/
theorem alike_tup {n : Nat} {H : Hp} {p q : Addr} {xs ys : List V} (hp : H p = some (.tup xs)) (hq : H q = some (.tup ys)) (hl : xs.length = ys.length) (h1 : xs.length ≤ 1000) (h : ∀ (i : Nat) (x y : V), xs[i]? = some x → ys[i]? = some y → Alike n H x y) : Alike (n + 1) H (.ref p) (.ref q) := .inr (.inl ⟨p, q, xs, ys, rfl, rfl, hp, hq, hl, h1, h⟩)
theorem alike_lst {n : Nat} {H : Hp} {p q : Addr} {xs ys : List V} (hp : H p = some (.lst xs)) (hq : H q = some (.lst ys)) (hl : xs.length = ys.length) (h1 : xs.length ≤ 1000) (h : ∀ (i : Nat) (x y : V), xs[i]? = some x → ys[i]? = some y → Alike n H x y) : Alike (n + 1) H (.ref p) (.ref q) := .inr (.inr ⟨p, q, xs, ys, rfl, rfl, hp, hq, hl, h1, h⟩)
theorem two_of {P : V → V → Prop} {a b c d : V} (h0 : P a c) (h1 : P b d) : ∀ (i : Nat) (x y : V), ([a, b] : List V)[i]? = some x → ([c, d] : List V)[i]? = some y → P x y
  | 0, _, _, hx, hy => by cases hx; cases hy; exact h0
  | 1, _, _, hx, hy => by cases hx; cases hy; exact h1
theorem three_of {P : V → V → Prop} {a b e c d f : V} (h0 : P a c) (h1 : P b d) (h2 : P e f) : ∀ (i : Nat) (x y : V), ([a, b, e] : List V)[i]? = some x → ([c, d, f] : List V)[i]? = some y → P x y
  | 0, _, _, hx, hy => by cases hx; cases hy; exact h0
  | 1, _, _, hx, hy => by cases hx; cases hy; exact h1
  | 2, _, _, hx, hy => by cases hx; cases hy; exact h2
theorem alike_ints {n : Nat} {H : Hp} {p q : Addr} {a b : Int} (hp : H p = some (.tup [.int a, .int b])) (hq : H q = some (.tup [.int a, .int b])) : Alike (n + 1) H (.ref p) (.ref q) := alike_tup hp hq rfl (by show 2 ≤ 1000; decide) alike_pair
end DM

namespace DM
open PySem L2
/-! ### a dict whose keys are pairs -/
def keyP (p : Int × Int) : List Key := [Sum.inl p.1, Sum.inl p.2]
theorem keyP_inj {p q : Int × Int} : keyP p = keyP q ↔ p = q := by
  refine ⟨fun h => ?_, fun h => by rw [h]⟩
  unfold keyP at h
  simp only [List.cons.injEq, Sum.inl.injEq, and_true] at h
  exact Prod.ext h.1 h.2
def tabP (L : List (Int × Int)) : List (List Key × V) := L.map fun p => (keyP p, V.bl true)
theorem val_merge (q : Int × Int) : ∀ (L : List (Int × Int)) (kvs : List (List Key × V)), (valV (mergeT kvs (tabP L)) (keyP q)).isSome = (decide (q ∈ L) || (valV kvs (keyP q)).isSome)
  | [], kvs => rfl
  | p :: L, kvs => by
    show (valV (mergeT (putK kvs (keyP p) (V.bl true)) (tabP L)) (keyP q)).isSome = _
    rw [val_merge q L, valV_put]
    by_cases c : q = p
    · subst c
      rw [if_pos rfl, decide_eq_true (List.mem_cons_self : q ∈ q :: L)]
      simp
    · rw [if_neg (fun z => c (keyP_inj.mp z))]
      have e : decide (q ∈ p :: L) = decide (q ∈ L) := decide_eq_decide.mpr (by rw [List.mem_cons]; exact ⟨fun h => h.resolve_left c, .inr⟩)
      rw [e]
theorem val_known (q : Int × Int) (L : List (Int × Int)) : (valV (mergeT [] (tabP L)) (keyP q)).isSome = decide (q ∈ L) := by
  rw [val_merge, valV_nil]
  simp
theorem Prs.app {H : Hp} {us ws : List V} {L M : List (Int × Int)} (h1 : Prs H us L) (h2 : Prs H ws M) : Prs H (us ++ ws) (L ++ M) := by
  induction h1 with
  | nil => exact h2
  | cons a _ ih => exact .cons a ih
theorem Prs.rev {H : Hp} {vs : List V} {L : List (Int × Int)} (h : Prs H vs L) : Prs H vs.reverse L.reverse := by
  induction h with
  | nil => exact .nil
  | cons a _ ih =>
    rw [List.reverse_cons, List.reverse_cons]
    exact ih.snoc a
theorem alike_prs {n : Nat} {H : Hp} {p q : Addr} {xs ys : List V} {L : List (Int × Int)} (hp : H p = some (.lst xs)) (hq : H q = some (.lst ys)) (h1 : Prs H xs L) (h2 : Prs H ys L) (hl : L.length ≤ 1000) : Alike (n + 2) H (.ref p) (.ref q) := by
  refine alike_lst hp hq (h1.len.trans h2.len.symm) (by rw [h1.len]; exact hl) fun i x y hx hy => ?_
  obtain ⟨a, ha, a1, rfl, z1⟩ := h1.at hx
  obtain ⟨b, hb, b1, rfl, z2⟩ := h2.at hy
  rw [ha] at hb
  cases hb
  exact alike_ints z1 z2
/-- pairs of a key and True, as they lie in the heap -/
def Keyd (H : Hp) (ps : List Addr) (L : List (Int × Int)) : Prop := Paired (fun p kv => ∃ b, H p = some (.tup [.ref b, kv.2]) ∧ H b = some (.tup (kv.1.map kV))) ps (tabP L)
theorem Keyd.snoc {H : Hp} {ps : List Addr} {L : List (Int × Int)} {a b : Addr} {p : Int × Int} (h : Keyd H ps L) (ha : H a = some (.tup [.ref b, .bl true])) (hb : H b = some (.tup [.int p.1, .int p.2])) : Keyd H (ps ++ [a]) (L ++ [p]) := by
  unfold Keyd tabP at *
  rw [List.map_append]
  exact Paired.snoc h ⟨b, ha, hb⟩
end DM

namespace DM
open PySem L2 LamX NdefX
def spApart : Sp := fun vs H Q _ => ∃ (b l ps : Addr) (sp : Int × Int), vs = [.ref b, .ref ps] ∧ BagAt H b l ∧ H ps = some (.tup [.int sp.1, .int sp.2]) ∧ (-40 ≤ sp.1 ∧ sp.1 ≤ 40 ∧ -40 ≤ sp.2 ∧ sp.2 ≤ 40) ∧
  ∀ (r : Addr) (H' : Hp) (xs : List V) (L : List (Int × Int)), BagAt H' b l → But b H H' → H r = none → r ≠ b → H' r = some (.lst xs) → Prs H' xs L → Fan sp L → L.length ≤ 9 → Q (.ref r) H'
/-- the directions that a dict knows -/
def Knows (kvs : List (List Key × V)) (D : List (Int × Int)) : Prop := ∀ q : Int × Int, (valV kvs (keyP q)).isSome = decide (q ∈ D)
theorem Knows.put {kvs : List (List Key × V)} {D : List (Int × Int)} (h : Knows kvs D) (p : Int × Int) (v : V) : Knows (putK kvs (keyP p) v) (D ++ [p]) := fun q => by
  rw [valV_put]
  by_cases c : q = p
  · subst c
    rw [if_pos rfl, decide_eq_true (List.mem_append_right _ (List.mem_singleton.mpr rfl))]
    rfl
  · rw [if_neg (fun z => c (keyP_inj.mp z)), h q]
    exact decide_eq_decide.mpr ⟨fun z => List.mem_append_left _ z, fun z => (List.mem_append.mp z).resolve_right fun w => c (List.mem_singleton.mp w)⟩
section
variable {P : Program} {w : World} {K : PySem.W.Frag} {mg : Str → Option Value} {base : Heap} {f : Addr} {fd : FuncData}
abbrev s_apart : Stmt := top 13
theorem sc_apart : FnScope ["_law_bag_here", "_law_spot_here", "_law_found", "_law_known", "_law_k", "_law_off", "_law_near", "_law_other", "_law_x", "_law_y", "_law_both"] ["_law_bag_here", "_law_spot_here"] (defScope s_apart) := ⟨rfl, rfl, rfl, by decide +kernel, rfl, by decide +kernel, by decide +kernel⟩
theorem ok_apart (B : Blt mg) (c_pull : Cal P w K mg base 1 "_law_pull" ["_law_bag_here", "_law_amount"] spPull) (c_of : Cal P w K mg base 2 "_law_of" ["_law_bag_here", "_law_things"] spOf) (c_spot : Cal P w K mg base 2 "_law_spot" ["_law_bag_here", "_law_base", "_law_wide"] spSpot) (c_common : Cal P w K mg base 1 "_law_common" ["_law_one", "_law_other"] spCom) (F : Fun K "_law_apart" "_law_apart" s_apart f fd) : FnOk P w K mg base CX0 3 f fd ["_law_bag_here", "_law_spot_here"] spApart := by
  refine F.ok sc_apart (fun vs H Q E h => ?_) (fun cdv A outer s H vs Q E hr h => ?_)
  · obtain ⟨b, l, ps, sp, rfl, _⟩ := h
    rfl
  obtain ⟨b, l, ps, sp, rfl, hB, hps, bs, q⟩ := h
  refine ⟨_, (pss_cons (ps_par (i := 2) (j := 3) (by rfl) sc_apart.nd rfl rfl (by decide) rfl rfl (pa_cons (pe_lst pa_nil) (pa_cons pe_dnewT pa_nil)) (by rfl))
    (pss_cons (ps_for PassesOwn.never rfl (pi_range1 rfl B.range (pa_cons (pe_cal c_pull hr (pa_cons (pv 0) (pa_cons pe_int pa_nil))) pa_nil)) (pg_name (i := 4) sc_apart.nd rfl (Or.inl rfl))
    (pss_cons (ps_set (i := 5) sc_apart.nd rfl (Or.inl rfl) (pe_cal c_pull hr (pa_cons (pv 0) (pa_cons pe_int pa_nil))))
    (pss_cons (ps_set (i := 6) sc_apart.nd rfl (Or.inl rfl) (pe_tup (pa_cons (pe_op op_add (pe_op op_add (pe_ix ix_tup (pv 1) pe_int (fun _ _ => rfl)) pe_int) (pv 5)) (pa_cons (pe_op op_add (pe_op op_add (pe_ix ix_tup (pv 1) pe_int (fun _ _ => rfl)) pe_int) (pv 5)) pa_nil))))
    (pss_cons (ps_if (pt_cmpR op_gt (pe_callB (cr_maxT rfl (hu_of hr)) rfl B.max bt_max (pa_cons (pv 6) pa_nil)) pe_int (nomark _))
    (pss_one (ps_set (i := 6) sc_apart.nd rfl (Or.inl rfl) (pe_cal c_spot hr (pa_cons (pv 0) (pa_cons (pv 1) (pa_cons pe_int pa_nil))))))
    pss_nil)
    (pss_cons (ps_set (i := 7) sc_apart.nd rfl (Or.inl rfl) (pe_cal c_of hr (pa_cons (pv 0) (pa_cons (pe_lst (pa_cons (pe_cal c_spot hr (pa_cons (pv 0) (pa_cons (pv 1) (pa_cons pe_int pa_nil)))) (pa_cons (pe_cal c_spot hr (pa_cons (pv 0) (pa_cons (pe_tup (pa_cons pe_int (pa_cons pe_int pa_nil))) (pa_cons pe_int pa_nil)))) (pa_cons (pv 6) pa_nil)))) pa_nil))))
    (pss_cons (ps_set (i := 7) sc_apart.nd rfl (Or.inl rfl) (pe_cal c_of hr (pa_cons (pv 0) (pa_cons (pe_lst (pa_cons (pv 7) (pa_cons (pv 7) (pa_cons (pe_tup (pa_cons (pe_ix ix_tup (pv 7) pe_int (fun _ _ => rfl)) (pa_cons (pe_ix ix_tup (pv 1) pe_int (fun _ _ => rfl)) pa_nil))) (pa_cons (pe_tup (pa_cons (pe_ix ix_tup (pv 1) pe_int (fun _ _ => rfl)) (pa_cons (pe_ix ix_tup (pv 7) pe_int (fun _ _ => rfl)) pa_nil))) pa_nil))))) pa_nil))))
    (pss_cons (ps_par (i := 8) (j := 9) (by rfl) sc_apart.nd rfl rfl (by decide) rfl rfl (pa_cons (pe_op op_sub (pe_ix ix_tup (pv 7) pe_int (fun _ _ => rfl)) (pe_ix ix_tup (pv 1) pe_int (fun _ _ => rfl))) (pa_cons (pe_op op_sub (pe_ix ix_tup (pv 7) pe_int (fun _ _ => rfl)) (pe_ix ix_tup (pv 1) pe_int (fun _ _ => rfl))) pa_nil)) (by rfl))
    (pss_cons (ps_set (i := 10) sc_apart.nd rfl (Or.inl rfl) (pe_cal c_common hr (pa_cons (pv 8) (pa_cons (pv 9) pa_nil))))
    (pss_one (ps_if (PW.pt (pw_and (pt_cmpR op_gt (pv 10) pe_int (nomark _)) (pw_and1 (pt_cmp (pc_dnotin (hu_of hr) (pe_tup (pa_cons (pe_op op_fdivW (pv 8) (pv 10)) (pa_cons (pe_op op_fdivW (pv 9) (pv 10)) pa_nil))) (pv 3))))))
    (pss_cons (ps_asg pe_bl (pg_sub (pv 3) (pe_tup (pa_cons (pe_op op_fdivW (pv 8) (pv 10)) (pa_cons (pe_op op_fdivW (pv 9) (pv 10)) pa_nil))) (set_dict (hu_of hr))))
    (pss_one (ps_expr (pe_bm PySem.F.plainAttrs_list PySem.F.slot_list_append PySem.F.type_list_append mt_append (pv 2) (pa_cons (pv 7) pa_nil)))))
    pss_nil))))))))))
    (pss_one (ps_ret (pv 2))))), ?_⟩
  refine seq_with (fun σ' H' => ∃ F Kn : Addr, σ' = [some (.ref b), some (.ref ps), some (.ref F), some (.ref Kn), none, none, none, none, none, none, none] ∧ Same H H' ∧ H F = none ∧ H Kn = none ∧ F ≠ Kn ∧ H' F = some (.lst []) ∧ H' Kn = some (.dT [])) (fun R hR => ?_) ?_
  · refine ⟨sz (by decide : 0 ≤ 100000), fun F nF => fun Kn nK => ?_⟩
    have g1 := same_new nF (.lst [])
    exact ⟨_, _, rfl, hR _ _ ⟨F, Kn, rfl, g1.trans (same_new nK _), nF, g1.free nK, ne_of_none upd_same nK, same_new nK _ _ _ upd_same, upd_same⟩⟩
  rintro _ H0 ⟨F, Kn, rfl, s0, nF, nK, hne, hF0, hK0⟩
  have hB0 := hB.same s0
  have Fb : F ≠ b := by obtain ⟨ys, e⟩ := hB.hasB; exact Ne.symm (ne_of_none e nF)
  have Kb : Kn ≠ b := by obtain ⟨ys, e⟩ := hB.hasB; exact Ne.symm (ne_of_none e nK)
  have Fl : F ≠ l := by obtain ⟨ys, e⟩ := hB.hasL; exact Ne.symm (ne_of_none e nF)
  have Kl : Kn ≠ l := by obtain ⟨ys, e⟩ := hB.hasL; exact Ne.symm (ne_of_none e nK)
  refine ⟨_, rfl, b, l, _, rfl, hB0, by decide, by decide, fun n H1 hB1 bt1 n0 n1 => ?_⟩
  refine ⟨n, rfl, by omega, by omega, ?_⟩
  refine for_range (lo := 0) (n := n.toNat) (fun i σ H' => (∃ c4 c5 c6 c7 c8 c9 c10, σ = [some (.ref b), some (.ref ps), some (.ref F), some (.ref Kn), c4, c5, c6, c7, c8, c9, c10]) ∧ BagAt H' b l ∧ But b H H' ∧ ∃ (xs : List V) (L : List (Int × Int)) (kvs : List (List Key × V)), H' F = some (.lst xs) ∧ Prs H' xs L ∧ H' Kn = some (.dT kvs) ∧ Knows kvs (L.map fun p => dir (subP p sp)) ∧ kvs.length ≤ i ∧ L.length ≤ i ∧ Fan sp L) ⟨⟨_, _, _, _, _, _, _, rfl⟩, hB1, (But.of s0).trans bt1, [], [], [], bt1 _ _ Fb hF0, .nil, bt1 _ _ Kb hK0, fun q => rfl, Nat.zero_le _, Nat.zero_le _, ⟨fun p hp => absurd hp (by simp), .nil, by decide⟩⟩ ?_ ?_
  · rintro i σ H' hi ⟨⟨c4, c5, c6, c7, c8, c9, c10, rfl⟩, hB', bt', xs, L, kvs, hFx, hPx, hKx, kn, kl, ll, fan⟩
    have hps' : H' ps = some (.tup [.int sp.1, .int sp.2]) := bt' _ _ (bag_tup hB hps) hps
    dsimp only [gName, tNext, List.set]
    -- off
    refine seq_with (fun σ' J => ∃ off : Int, σ' = [some (.ref b), some (.ref ps), some (.ref F), some (.ref Kn), some (.int (0 + (i : Int))), some (.int off), c6, c7, c8, c9, c10] ∧ BagAt J b l ∧ But b H' J ∧ 0 ≤ off ∧ off < 2) (fun R hR => ?_) ?_
    · exact ⟨_, rfl, b, l, _, rfl, hB', by decide, by decide, fun off J hJ btJ o0 o1 => hR _ _ ⟨off, rfl, hJ, btJ, o0, o1⟩⟩
    rintro _ J1 ⟨off, rfl, hJ1, bj1, o0, o1⟩
    have hps1 := bj1 _ _ (bag_tup hB' hps') hps'
    -- near
    refine seq_with (fun σ' J => ∃ np : Addr, σ' = [some (.ref b), some (.ref ps), some (.ref F), some (.ref Kn), some (.int (0 + (i : Int))), some (.int off), some (.ref np), c7, c8, c9, c10] ∧ Same J1 J ∧ J np = some (.tup [.int (sp.1 + 39 + off), .int (sp.2 + 38 + off)])) (fun R hR => ?_) ?_
    · refine ⟨_, rfl, ps, _, _, _, rfl, rfl, SqT.of hps1, rfl, _, _, rfl, rfl, _, rfl, _, _, rfl, rfl, _, rfl, ps, _, _, _, rfl, rfl, SqT.of hps1, rfl, _, _, rfl, rfl, _, rfl, _, _, rfl, rfl, sz (by decide : 2 ≤ 100000), fun np nnp => ?_⟩
      exact hR _ _ ⟨np, rfl, same_new nnp _, upd_same⟩
    rintro _ J2 ⟨np, rfl, sj2, hnp⟩
    have hJ2 := hJ1.same sj2
    have hps2 := sj2 _ _ hps1
    refine seq_with (fun σ' J => ∃ (np : Addr) (z : Int × Int), σ' = [some (.ref b), some (.ref ps), some (.ref F), some (.ref Kn), some (.int (0 + (i : Int))), some (.int off), some (.ref np), c7, c8, c9, c10] ∧ BagAt J b l ∧ But b J2 J ∧ Pt J np z.1 z.2) (fun R hR => ?_) ?_
    · refine ⟨_, rfl, np, _, [_], rfl, SqT.of hnp, _, _, rfl, rfl, _, rfl, ?_⟩
      rw [max_pair]
      by_cases c : (if sp.1 + 39 + off < sp.2 + 38 + off then sp.2 + 38 + off else sp.1 + 39 + off) > 40
      · refine iteDT c ?_
        exact ⟨_, rfl, _, rfl, b, l, ps, _, _, _, rfl, hJ2, hps2, by decide, by decide, fun p J x y hJ bJ hp => hR _ _ ⟨p, (x, y), rfl, hJ, bJ, hp⟩⟩
      · refine iteDF c ?_
        exact hR _ _ ⟨np, (_, _), rfl, hJ2, .refl, hnp, by split at c <;> omega, by split at c <;> omega, by split at c <;> omega, by split at c <;> omega⟩
    rintro _ J3 ⟨np, z, rfl, hJ3, bj3, hnp3⟩
    have hps3 := bj3 _ _ (bag_tup hJ2 hps2) hps2
    -- other
    refine seq_with (fun σ' J => ∃ (op : Addr) (z : Int × Int), σ' = [some (.ref b), some (.ref ps), some (.ref F), some (.ref Kn), some (.int (0 + (i : Int))), some (.int off), some (.ref np), some (.ref op), c8, c9, c10] ∧ BagAt J b l ∧ But b J3 J ∧ Pt J op z.1 z.2) (fun R hR => ?_) ?_
    · refine ⟨_, rfl, _, rfl, _, rfl, b, l, ps, _, _, _, rfl, hJ3, hps3, by decide, by decide, fun p1 J4 x1 y1 hJ4 bj4 hp1 => ?_⟩
      refine ⟨_, rfl, sz (by decide : 2 ≤ 100000), fun p0 n0' => ?_⟩
      have g0 := same_new n0' (.tup [.int 0, .int 0])
      refine ⟨b, l, p0, _, _, _, rfl, hJ4.same g0, upd_same, by decide, by decide, fun p2 J5 x2 y2 hJ5 bj5 hp2 => ?_⟩
      refine ⟨_, rfl, sz (by decide : 3 ≤ 100000), fun pl npl => ?_⟩
      have gl := same_new npl (.lst [.ref p1, .ref p2, .ref np])
      refine ⟨b, l, pl, _, rfl, hJ5.same gl, upd_same, (hJ5.new npl).1, by show 0 < 3; decide, by show 3 ≤ 1000; decide, fun v J6 hJ6 bj6 hv => ?_⟩
      have b36 : But b J3 J6 := bj4.trans ((But.of g0).trans (bj5.trans ((But.of gl).trans bj6)))
      have hp1' : Pt J6 p1 x1 y1 := (((hp1.same g0).but (hJ4.same g0) bj5).same gl).but (hJ5.same gl) bj6
      have hp2' : Pt J6 p2 x2 y2 := (hp2.same gl).but (hJ5.same gl) bj6
      have hp3' : Pt J6 np z.1 z.2 := ((((hnp3.but hJ3 bj4).same g0).but (hJ4.same g0) bj5).same gl).but (hJ5.same gl) bj6
      simp only [List.mem_cons, List.not_mem_nil, or_false] at hv
      rcases hv with rfl | rfl | rfl
      · exact hR _ _ ⟨p1, (x1, y1), rfl, hJ6, b36, hp1'⟩
      · exact hR _ _ ⟨p2, (x2, y2), rfl, hJ6, b36, hp2'⟩
      · exact hR _ _ ⟨np, z, rfl, hJ6, b36, hp3'⟩
    rintro _ J4 ⟨op, u, rfl, hJ4, bj4, hop⟩
    have hps4 := bj4 _ _ (bag_tup hJ3 hps3) hps3
    refine seq_with (fun σ' J => ∃ (op : Addr) (z : Int × Int), σ' = [some (.ref b), some (.ref ps), some (.ref F), some (.ref Kn), some (.int (0 + (i : Int))), some (.int off), some (.ref np), some (.ref op), c8, c9, c10] ∧ BagAt J b l ∧ But b J4 J ∧ Pt J op z.1 z.2) (fun R hR => ?_) ?_
    · refine ⟨_, rfl, _, rfl, _, rfl, _, rfl, op, _, _, _, rfl, rfl, SqT.of hop.1, rfl, _, rfl, ps, _, _, _, rfl, rfl, SqT.of hps4, rfl, sz (by decide : 2 ≤ 100000), fun p1 m1 => ?_⟩
      have g1 := same_new m1 (.tup [.int u.1, .int sp.2])
      refine ⟨_, rfl, ps, _, _, _, rfl, rfl, SqT.of (g1 _ _ hps4), rfl, _, rfl, op, _, _, _, rfl, rfl, SqT.of (g1 _ _ hop.1), rfl, sz (by decide : 2 ≤ 100000), fun p2 m2 => ?_⟩
      have g2 := same_new m2 (.tup [.int sp.1, .int u.2])
      refine ⟨sz (by decide : 4 ≤ 100000), fun pl npl => ?_⟩
      have gl := same_new npl (.lst [.ref op, .ref op, .ref p1, .ref p2])
      have gA := g1.trans (g2.trans gl)
      refine ⟨b, l, pl, _, rfl, hJ4.same gA, upd_same, ((hJ4.same (g1.trans g2)).new npl).1, by show 0 < 4; decide, by show 4 ≤ 1000; decide, fun v J6 hJ6 bj6 hv => ?_⟩
      have b46 : But b J4 J6 := (But.of gA).trans bj6
      have hop' : Pt J6 op u.1 u.2 := (hop.same gA).but (hJ4.same gA) bj6
      have h1' : Pt J6 p1 u.1 sp.2 := Pt.but (H := _) ⟨(g2.trans gl) _ _ upd_same, hop.2.1, hop.2.2.1, bs.2.2.1, bs.2.2.2⟩ (hJ4.same gA) bj6
      have h2' : Pt J6 p2 sp.1 u.2 := Pt.but (H := _) ⟨gl _ _ upd_same, bs.1, bs.2.1, hop.2.2.2.1, hop.2.2.2.2⟩ (hJ4.same gA) bj6
      simp only [List.mem_cons, List.not_mem_nil, or_false] at hv
      rcases hv with rfl | rfl | rfl | rfl
      · exact hR _ _ ⟨op, u, rfl, hJ6, b46, hop'⟩
      · exact hR _ _ ⟨op, u, rfl, hJ6, b46, hop'⟩
      · exact hR _ _ ⟨p1, (u.1, sp.2), rfl, hJ6, b46, h1'⟩
      · exact hR _ _ ⟨p2, (sp.1, u.2), rfl, hJ6, b46, h2'⟩
    rintro _ J5 ⟨op, o, rfl, hJ5, bj5, hop⟩
    have hps5 := bj5 _ _ (bag_tup hJ4 hps4) hps4
    have bAll : But b H' J5 := bj1.trans ((But.of sj2).trans (bj3.trans (bj4.trans bj5)))
    have hF5 := bAll _ _ Fb hFx
    have hK5 := bAll _ _ Kb hKx
    have hP5 : Prs J5 xs L := hPx.but (l := b) (fun zs z => by obtain ⟨ys, e⟩ := hB'.hasB; rw [e] at z; cases z) (fun a o na z => bAll a o na z)
    -- x, y, both
    refine seq_with (fun σ' J => J5 = J ∧ σ' = [some (.ref b), some (.ref ps), some (.ref F), some (.ref Kn), some (.int (0 + (i : Int))), some (.int off), some (.ref np), some (.ref op), some (.int (subP o sp).1), some (.int (subP o sp).2), c10]) (fun R hR => ?_) ?_
    · refine ⟨_, rfl, op, _, _, _, rfl, rfl, SqT.of hop.1, rfl, _, rfl, ps, _, _, _, rfl, rfl, SqT.of hps5, rfl, _, _, rfl, rfl, _, rfl, op, _, _, _, rfl, rfl, SqT.of hop.1, rfl, _, rfl, ps, _, _, _, rfl, rfl, SqT.of hps5, rfl, _, _, rfl, rfl, _, _, rfl, ?_⟩
      exact hR _ _ ⟨rfl, rfl⟩
    rintro _ _ ⟨rfl, rfl⟩
    refine seq_with (fun σ' J => J5 = J ∧ σ' = [some (.ref b), some (.ref ps), some (.ref F), some (.ref Kn), some (.int (0 + (i : Int))), some (.int off), some (.ref np), some (.ref op), some (.int (subP o sp).1), some (.int (subP o sp).2), some (.int (Int.gcd (subP o sp).1 (subP o sp).2 : Nat))]) (fun R hR => ?_) ?_
    · exact ⟨_, rfl, _, rfl, _, _, rfl, hR _ _ ⟨rfl, rfl⟩⟩
    rintro _ _ ⟨rfl, rfl⟩
    generalize hv : subP o sp = v at *
    have bv : -80 ≤ v.1 ∧ v.1 ≤ 80 ∧ -80 ≤ v.2 ∧ v.2 ≤ 80 := by
      rw [← hv]
      have := hop.2
      unfold subP
      dsimp only
      omega
    have stay : ∀ J, But b H' J → BagAt J b l → J F = some (.lst xs) → J Kn = some (.dT kvs) → Prs J xs L → (∃ (xs : List V) (L : List (Int × Int)) (kvs : List (List Key × V)), J F = some (.lst xs) ∧ Prs J xs L ∧ J Kn = some (.dT kvs) ∧ Knows kvs (L.map fun p => dir (subP p sp)) ∧ kvs.length ≤ i + 1 ∧ L.length ≤ i + 1 ∧ Fan sp L) := fun J _ _ h1 h2 h3 => ⟨xs, L, kvs, h1, h3, h2, kn, by omega, by omega, fan⟩
    have gw : ∀ {y : Int}, ((Int.gcd v.1 v.2 : Nat) : Int) > 0 → CDivW y ((Int.gcd v.1 v.2 : Nat) : Int) := fun {y} c => by
      refine wide_div (b := 62) c ?_ (by decide) (by decide)
      rw [Int.natAbs_natCast]
      by_cases z : v.2 = 0
      · rw [z, Int.gcd_zero_right]
        omega
      · have := gcd_le (a := v.1) z
        omega
    refine ⟨_, rfl, _, _, rfl, rfl, _, rfl, ?_⟩
    by_cases c1 : ((Int.gcd v.1 v.2 : Nat) : Int) > 0
    · refine iteDT c1 ?_
      have v0 : v ≠ (0, 0) := fun z => by rw [z] at c1; exact absurd c1 (by decide)
      have os : o ≠ sp := fun z => v0 (by rw [← hv, z]; unfold subP; simp)
      refine ⟨_, rfl, _, rfl, _, _, rfl, rfl, gw c1, _, rfl, _, rfl, _, _, rfl, rfl, gw c1, sz (by decide : 2 ≤ 100000), fun kp nkp => ?_⟩
      have gk := same_new nkp (.tup [.int (dir v).1, .int (dir v).2])
      have hkp : upd J5 kp (.tup [.int (dir v).1, .int (dir v).2]) kp = some (.tup ((keyP (dir v)).map kV)) := upd_same
      refine ⟨_, rfl, Kn, _, rfl, DGet.t (gk _ _ hK5) hkp, _, rfl, ?_⟩
      rw [kn (dir v)]
      by_cases c2 : dir v ∈ L.map fun p => dir (subP p sp)
      · rw [decide_eq_true c2]
        refine iteF ?_
        refine ⟨⟨_, _, _, _, _, _, _, rfl⟩, hJ5.same gk, bt'.trans (bAll.trans (But.of gk)), stay _ (bAll.trans (But.of gk)) (hJ5.same gk) (gk _ _ hF5) (gk _ _ hK5) (hP5.same gk)⟩
      · rw [decide_eq_false c2]
        refine iteT ?_
        refine seq_with (fun σ' J => ∃ J6, Same J5 J6 ∧ J = upd J6 Kn (.dT (putK kvs (keyP (dir v)) (.bl true))) ∧ σ' = [some (.ref b), some (.ref ps), some (.ref F), some (.ref Kn), some (.int (0 + (i : Int))), some (.int off), some (.ref np), some (.ref op), some (.int v.1), some (.int v.2), some (.int (Int.gcd v.1 v.2 : Nat))]) (fun R hR => ?_) ?_
        · refine ⟨_, rfl, _, rfl, _, rfl, _, _, rfl, rfl, gw c1, _, rfl, _, rfl, _, _, rfl, rfl, gw c1, sz (by decide : 2 ≤ 100000), fun k2 nk2 => ?_⟩
          have g2 := same_new nk2 (.tup [.int (dir v).1, .int (dir v).2])
          have hk2 : upd (upd J5 kp (.tup [.int (dir v).1, .int (dir v).2])) k2 (.tup [.int (dir v).1, .int (dir v).2]) k2 = some (.tup ((keyP (dir v)).map kV)) := upd_same
          have gg := gk.trans g2
          exact ⟨Kn, _, rfl, DPut.t (gg _ _ hK5) hk2 (Nat.lt_of_le_of_lt kl (Nat.lt_of_lt_of_le (by omega : i < 100000) (sz (Nat.le_refl _)))), hR _ _ ⟨_, gg, rfl, rfl⟩⟩
        rintro _ _ ⟨J7, gg, rfl, rfl⟩
        have hK6 := gg _ _ hK5
        have hF6 := gg _ _ hF5
        have hB6 := hJ5.same gg
        have hop6 := gg _ _ hop.1
        have hP6 := hP5.same gg
        have hF7 : upd J7 Kn (.dT (putK kvs (keyP (dir v)) (.bl true))) F = some (.lst xs) := by rw [upd_ne hne]; exact hF6
        have lx := hPx.len
        refine ⟨_, rfl, .inl ⟨rfl, _, SqL.of hF7⟩, _, rfl, F, xs, _, rfl, rfl, hF7, Nat.lt_of_le_of_lt (by omega : xs.length ≤ i) (Nat.lt_of_lt_of_le (by omega : i < 100000) (sz (Nat.le_refl _))), ?_⟩
        have tup8 : ∀ {vs : List V} {N : List (Int × Int)}, Prs J7 vs N → Prs (upd (upd J7 Kn (.dT (putK kvs (keyP (dir v)) (.bl true)))) F (.lst (xs ++ [.ref op]))) vs N := fun {vs N} z => by
          have z1 := z.but (l := Kn) (H' := upd J7 Kn (.dT (putK kvs (keyP (dir v)) (.bl true)))) (fun xs' z' => by rw [hK6] at z'; cases z') (fun a' o' na z' => by rw [upd_ne na]; exact z')
          exact z1.but (l := F) (fun xs' z' => by rw [hF7] at z'; cases z') (fun a' o' na z' => by rw [upd_ne na]; exact z')
        refine ⟨⟨_, _, _, _, _, _, _, rfl⟩, (hB6.put Kb Kl).put Fb Fl, ?_, xs ++ [.ref op], L ++ [o], putK kvs (keyP (dir v)) (.bl true), upd_same, tup8 (hP6.snoc ⟨op, rfl, hop6⟩), ?_, ?_, ?_, ?_, ?_⟩
        · intro a' o' na z'
          rw [upd_ne (ne_of_none z' nF), upd_ne (ne_of_none z' nK)]
          exact gg _ _ (bAll _ _ na (bt' _ _ na z'))
        · rw [upd_ne (Ne.symm hne), upd_same]
        · rw [List.map_append, List.map_singleton, hv]
          exact kn.put _ _
        · have := putT_len kvs (keyP (dir v)) (.bl true)
          omega
        · rw [List.length_append, List.length_singleton]
          omega
        · refine ⟨fun p hp => ?_, ?_, ?_⟩
          · rcases List.mem_append.mp hp with y | y
            · exact fan.1 p y
            · rw [List.mem_singleton.mp y]
              have := hop.2
              exact ⟨os, by omega, by omega, by omega, by omega⟩
          · refine List.pairwise_append.mpr ⟨fan.2.1, List.pairwise_singleton .., fun a' ha' b' hb' => ?_⟩
            rw [List.mem_singleton.mp hb', hv]
            exact fun z => c2 (by rw [← z]; exact List.mem_map_of_mem ha')
          · rw [List.length_append, List.length_singleton]
            omega
    · refine iteDF c1 ?_
      exact ⟨⟨_, _, _, _, _, _, _, rfl⟩, hJ5, bt'.trans bAll, stay _ bAll hJ5 hF5 hK5 hP5⟩
  · rintro σ H' ⟨⟨c4, c5, c6, c7, c8, c9, c10, rfl⟩, hB', bt', xs, L, kvs, hFx, hPx, hKx, kn, kl, ll, fan⟩
    exact ⟨_, rfl, q F H' xs L hB' bt' nF Fb hFx hPx fan (by omega)⟩
end
end DM

namespace DM
open PySem L2 LamX NdefX
theorem Prs.rev2 {H : Hp} {vs : List V} {L : List (Int × Int)} (h : Prs H vs L) : Prs H vs.reverse L.reverse := by
  induction h with
  | nil => exact .nil
  | cons a _ ih =>
    rw [List.reverse_cons, List.reverse_cons]
    exact ih.snoc a
theorem Fan.rev {s : Int × Int} {L : List (Int × Int)} (h : Fan s L) : Fan s L.reverse := ⟨fun p hp => h.1 p (List.mem_reverse.mp hp), List.pairwise_reverse.mpr (h.2.1.imp fun {a b} z => Ne.symm z), by rw [List.length_reverse]; exact h.2.2⟩
theorem turned_one {s : Int × Int} {L M N : List (Int × Int)} (pM : M.Perm L) (pN : N.Perm L) (hM : M.Pairwise (fun p q => ahd (subP p s) (subP q s))) (hN : N.Pairwise (fun p q => ahd (subP p s) (subP q s))) : M = N :=
  sorted_one (R := fun p q => ahd (subP p s) (subP q s)) (fun _ _ h => ahd_asy h) (pM.trans pN.symm) hM hN
section
variable {P : Program} {w : World} {K : PySem.W.Frag} {mg : Str → Option Value} {base : Heap} {f : Addr} {fd : FuncData}
abbrev s_law : Stmt := top 14
theorem sc_law : FnScope ["_law_script", "_law_bag_here", "_law_turn", "_law_spot_here", "_law_others", "_law_handed", "_law_due"] ["_law_script"] (defScope s_law) := ⟨rfl, rfl, rfl, by decide +kernel, rfl, by decide +kernel, by decide +kernel⟩
theorem ok_law (B : Blt mg) {Pt' : Addr} {q0 : Str} (c_bag : Cal P w K mg base 1 "_law_bag" ["_law_script"] (spBag K)) (c_of : Cal P w K mg base 2 "_law_of" ["_law_bag_here", "_law_things"] spOf) (c_like : Cal P w K mg base 3 "_law_like" ["_law_found", "_law_due"] (spLike 2)) (c_spot : Cal P w K mg base 2 "_law_spot" ["_law_bag_here", "_law_base", "_law_wide"] spSpot)
    (c_turned : Cal P w K mg base 2 "_law_turned" ["_law_spot_here", "_law_others"] spTurned) (c_apart : Cal P w K mg base 3 "_law_apart" ["_law_bag_here", "_law_spot_here"] spApart) (c_around : Cal P w K mg base 5 "around" ["spot", "others"] (spAround [(Pt', q0)])) (F : Fun K "law" "law" s_law f fd) : FnOk P w K mg base CX0 6 f fd ["_law_script"] (spLawTs K [Pt']) := by
  refine F.ok sc_law (fun vs H Q E h => ?_) (fun cdv A outer s H vs Q E hr h => ?_)
  · obtain ⟨a, ns, rfl, _⟩ := h
    rfl
  obtain ⟨a, ns, rfl, hS, h63, hP, q⟩ := h
  refine ⟨_, (pss_cons (ps_set (i := 1) sc_law.nd rfl (Or.inl rfl) (pe_cal c_bag hr (pa_cons (pv 0) pa_nil)))
    (pss_cons (ps_for PassesOwn.never rfl (pi_range1 rfl B.range (pa_cons pe_int pa_nil)) (pg_name (i := 2) sc_law.nd rfl (Or.inl rfl))
    (pss_cons (ps_set (i := 3) sc_law.nd rfl (Or.inl rfl) (pe_cal c_of hr (pa_cons (pv 1) (pa_cons (pe_lst (pa_cons (pe_tup (pa_cons (pe_un un_neg pe_int) (pa_cons (pe_un un_neg pe_int) pa_nil))) (pa_cons (pe_tup (pa_cons pe_int (pa_cons pe_int pa_nil))) (pa_cons (pe_cal c_spot hr (pa_cons (pv 1) (pa_cons (pe_tup (pa_cons pe_int (pa_cons pe_int pa_nil))) (pa_cons pe_int pa_nil)))) pa_nil)))) pa_nil))))
    (pss_cons (ps_set (i := 4) sc_law.nd rfl (Or.inl rfl) (pe_cal c_apart hr (pa_cons (pv 1) (pa_cons (pv 3) pa_nil))))
    (pss_cons (ps_par (i := 5) (j := 6) (by rfl) sc_law.nd rfl rfl (by decide) rfl rfl (pa_cons (pe_cal c_of hr (pa_cons (pv 1) (pa_cons (pe_lst (pa_cons (pe_callTy call_list_of rfl B.list bt_list (pa_cons (pv 4) pa_nil)) (pa_cons (pe_callTy call_tuple_of rfl B.tuple bt_tuple (pa_cons (pv 4) pa_nil)) pa_nil))) pa_nil))) (pa_cons (pe_cal c_turned hr (pa_cons (pv 3) (pa_cons (pv 4) pa_nil))) pa_nil)) (by rfl))
    (pss_cons (ps_if (PW.pt (pw_or (pt_not (pt_val (pe_cal c_like hr (pa_cons (pe_cal c_around hr (pa_cons (pv 3) (pa_cons (pv 5) pa_nil))) (pa_cons (pv 6) pa_nil))))) (pw_or1 (pt_cmpR (op_neD hr.units) (pe_callTy call_list_of rfl B.list bt_list (pa_cons (pv 5) pa_nil)) (pv 4) (nomark _)))))
    (pss_one (ps_ret pe_bl))
    pss_nil)
    (pss_one (ps_if (pt_not (pt_val (pe_cal c_like hr (pa_cons (pe_cal c_around hr (pa_cons (pv 3) (pa_cons (pe_revL (pv 4)) pa_nil))) (pa_cons (pv 6) pa_nil)))))
    (pss_one (ps_ret pe_bl))
    pss_nil)))))))
    (pss_one (ps_ret (pe_cmpR (op_eqD hr.units) (pe_cal c_around hr (pa_cons (pe_tup (pa_cons pe_int (pa_cons pe_int pa_nil))) (pa_cons (pe_lst (pa_cons (pe_tup (pa_cons pe_int (pa_cons (pe_un un_neg pe_int) pa_nil))) (pa_cons (pe_tup (pa_cons (pe_un un_neg pe_int) (pa_cons pe_int pa_nil))) (pa_cons (pe_tup (pa_cons pe_int (pa_cons pe_int pa_nil))) (pa_cons (pe_tup (pa_cons pe_int (pa_cons pe_int pa_nil))) pa_nil))))) pa_nil))) (pe_lst (pa_cons (pe_tup (pa_cons pe_int (pa_cons pe_int pa_nil))) (pa_cons (pe_tup (pa_cons pe_int (pa_cons pe_int pa_nil))) (pa_cons (pe_tup (pa_cons (pe_un un_neg pe_int) (pa_cons pe_int pa_nil))) (pa_cons (pe_tup (pa_cons pe_int (pa_cons (pe_un un_neg pe_int) pa_nil))) pa_nil))))) (nomark _)))))), ?_⟩
  have hT0 : Tabs [(Pt', q0)] H := fun p hp => by
    cases List.mem_singleton.mp hp
    exact TabS.nil (hP _ List.mem_cons_self)
  refine ⟨_, rfl, a, ns, rfl, hS, h63, fun b l H1 sm1 nb nl hB => ?_⟩
  refine ⟨4, rfl, by decide, by decide, for_range (lo := 0) (n := (4 : Int).toNat) (fun _ σ H' => (∃ c2 c3 c4 c5 c6, σ = [some (.ref a), some (.ref b), c2, c3, c4, c5, c6]) ∧ BagAt H' b l ∧ Tabs [(Pt', q0)] H') ⟨⟨_, _, _, _, _, rfl⟩, hB, tabs_keep hT0 (.of sm1)⟩ ?_ ?_⟩
  · rintro i σ H2 hi ⟨⟨c2, c3, c4, c5, c6, rfl⟩, hB, hT⟩
    dsimp only [gName, tNext, List.set]
    -- the spot
    refine seq_with (fun σ' J => ∃ (ps : Addr) (z : Int × Int), σ' = [some (.ref a), some (.ref b), some (.int (0 + (i : Int))), some (.ref ps), c4, c5, c6] ∧ BagAt J b l ∧ Tabs [(Pt', q0)] J ∧ Pt J ps z.1 z.2) (fun R hR => ?_) ?_
    · refine ⟨_, rfl, _, rfl, _, rfl, sz (by decide : 2 ≤ 100000), fun p1 n1 => ⟨sz (by decide : 2 ≤ 100000), fun p2 n2 => ?_⟩⟩
      have g1 := same_new n1 (.tup [.int (-40), .int (-40)])
      have g2 := same_new n2 (.tup [.int 0, .int 0])
      refine ⟨_, rfl, sz (by decide : 2 ≤ 100000), fun p3 n3 => ?_⟩
      have g3 := same_new n3 (.tup [.int 0, .int 0])
      have g13 := g1.trans (g2.trans g3)
      refine ⟨b, l, p3, _, _, _, rfl, hB.same g13, upd_same, by decide, by decide, fun p4 J x y hJ bJ hp4 => ?_⟩
      refine ⟨sz (by decide : 3 ≤ 100000), fun pl npl => ?_⟩
      have gl := same_new npl (.lst [.ref p1, .ref p2, .ref p4])
      refine ⟨b, l, pl, _, rfl, hJ.same gl, upd_same, (hJ.new npl).1, by show 0 < 3; decide, by show 3 ≤ 1000; decide, fun v J2 hJ2 bJ2 hv => ?_⟩
      have kA : KeepN H2 J2 := (KeepN.of g13).trans ((KeepN.but (hB.same g13) bJ).trans ((KeepN.of gl).trans (KeepN.but (hJ.same gl) bJ2)))
      have f1 : Pt J2 p1 (-40) (-40) := ((Pt.but (H := _) ⟨(g2.trans g3) _ _ upd_same, by decide, by decide, by decide, by decide⟩ (hB.same g13) bJ).same gl).but (hJ.same gl) bJ2
      have f2 : Pt J2 p2 0 0 := ((Pt.but (H := _) ⟨g3 _ _ upd_same, by decide, by decide, by decide, by decide⟩ (hB.same g13) bJ).same gl).but (hJ.same gl) bJ2
      have f3 : Pt J2 p4 x y := (hp4.same gl).but (hJ.same gl) bJ2
      simp only [List.mem_cons, List.not_mem_nil, or_false] at hv
      rcases hv with rfl | rfl | rfl
      · exact hR _ _ ⟨p1, (-40, -40), rfl, hJ2, tabs_keep hT kA, f1⟩
      · exact hR _ _ ⟨p2, (0, 0), rfl, hJ2, tabs_keep hT kA, f2⟩
      · exact hR _ _ ⟨p4, (x, y), rfl, hJ2, tabs_keep hT kA, f3⟩
    rintro _ J1 ⟨ps, sp, rfl, hB1, hT1, hps⟩
    -- the others
    refine seq_with (fun σ' J => ∃ (ol : Addr) (xs : List V) (L : List (Int × Int)), σ' = [some (.ref a), some (.ref b), some (.int (0 + (i : Int))), some (.ref ps), some (.ref ol), c5, c6] ∧ BagAt J b l ∧ Tabs [(Pt', q0)] J ∧ Pt J ps sp.1 sp.2 ∧ ol ≠ b ∧ J ol = some (.lst xs) ∧ Prs J xs L ∧ Fan sp L ∧ L.length ≤ 9) (fun R hR => ?_) ?_
    · exact ⟨_, rfl, _, rfl, b, l, ps, sp, rfl, hB1, hps.1, hps.2, fun r J xs L hJ bJ nr rb hr' hp fan l9 => hR _ _ ⟨r, xs, L, rfl, hJ, tabs_keep hT1 (.but hB1 bJ), hps.but hB1 bJ, rb, hr', hp, fan, l9⟩⟩
    rintro _ J2 ⟨ol, xs, L, rfl, hB2, hT2, hps2, olb, hol, hPx, fan, l9⟩
    have bs : -100 ≤ sp.1 ∧ sp.1 ≤ 100 ∧ -100 ≤ sp.2 ∧ sp.2 ≤ 100 := by have := hps.2; omega
    -- handed, due
    refine seq_with (fun σ' J => ∃ (hd du : Addr) (o : HO) (ys : List V) (M : List (Int × Int)), σ' = [some (.ref a), some (.ref b), some (.int (0 + (i : Int))), some (.ref ps), some (.ref ol), some (.ref hd), some (.ref du)] ∧ BagAt J b l ∧ Tabs [(Pt', q0)] J ∧ Pt J ps sp.1 sp.2 ∧ J ol = some (.lst xs) ∧ Prs J xs L ∧ SeqO xs o ∧ J hd = some o ∧ J du = some (.lst ys) ∧ Prs J ys M ∧ M.Perm L ∧ M.Pairwise (fun p q => ahd (subP p sp) (subP q sp))) (fun R hR => ?_) ?_
    · refine ⟨_, rfl, _, rfl, ol, xs, rfl, .inl (SqL.of hol), fun p1 n1 => ?_⟩
      have g1 := same_new n1 (.lst xs)
      refine ⟨_, rfl, ol, xs, rfl, .inl ⟨SqL.of (g1 _ _ hol), fun p2 n2 => ?_⟩⟩
      have g2 := same_new n2 (.tup xs)
      refine ⟨sz (by decide : 2 ≤ 100000), fun pl npl => ?_⟩
      have gl := same_new npl (.lst [.ref p1, .ref p2])
      have g := g1.trans (g2.trans gl)
      refine ⟨b, l, pl, _, rfl, hB2.same g, upd_same, ((hB2.same (g1.trans g2)).new npl).1, by show 0 < 2; decide, by show 2 ≤ 1000; decide, fun v J3 hJ3 bJ3 hv => ?_⟩
      have kA : KeepN J2 J3 := (KeepN.of g).trans (KeepN.but (hB2.same g) bJ3)
      have hol3 := bJ3 _ _ olb (g _ _ hol)
      have notB : ∀ zs, (upd (upd (upd J2 p1 (.lst xs)) p2 (.tup xs)) pl (.lst [.ref p1, .ref p2])) b ≠ some (.tup zs) := fun zs z => by obtain ⟨ys, e⟩ := (hB2.same g).hasB; rw [e] at z; cases z
      have hP3 : Prs J3 xs L := (hPx.same g).but (l := b) notB (fun a' o' na z => bJ3 a' o' na z)
      have hps3 := (hps2.same g).but (hB2.same g) bJ3
      obtain ⟨hd, o, rfl, so, ho⟩ : ∃ (hd : Addr) (o : HO), v = .ref hd ∧ SeqO xs o ∧ J3 hd = some o := by
        simp only [List.mem_cons, List.not_mem_nil, or_false] at hv
        rcases hv with rfl | rfl
        · exact ⟨p1, _, rfl, .inl rfl, bJ3 _ _ ((hB2.new n1).1) ((g2.trans gl) _ _ upd_same)⟩
        · exact ⟨p2, _, rfl, .inr rfl, bJ3 _ _ (((hB2.same g1).new n2).1) (gl _ _ upd_same)⟩
      refine ⟨_, rfl, _, rfl, ps, ol, sp, xs, L, rfl, hps3.1, bs, hol3, hP3, fan, fun r J4 ys M s4 nr hr' hy pm pw => ?_⟩
      exact ⟨_, _, rfl, hR _ _ ⟨hd, r, o, ys, M, rfl, hJ3.same s4, tabs_keep hT2 (kA.trans (.of s4)), hps3.same s4, s4 _ _ hol3, hP3.same s4, so, s4 _ _ ho, hr', hy, pm, pw⟩⟩
    rintro _ J3 ⟨hd, du, o, ys, M, rfl, hB3, hT3, hps3, hol3, hP3, so, hhd, hdu, hY, pm, pw⟩
    -- the first
    refine ⟨_, rfl, _, rfl, ps, hd, sp, xs, o, L, rfl, hps3.1, bs, so, hhd, hP3, fan, hT3, fun r J4 zs N ex hT4 fr hr' hz pN wN => ?_⟩
    have eN : N = M := turned_one pN pm wN pw
    subst eN
    have n9 : N.length ≤ 1000 := by rw [pN.length_eq]; omega
    refine ⟨_, rfl, _, _, rfl, alike_prs (n := 0) hr' (ext_lst ex hdu) hz (hY.ext ex) n9, fun J5 s5 => ⟨_, rfl, iteF ?_⟩⟩
    have hhd5 := s5 _ _ (ex _ _ hhd so.no)
    have hol5 := s5 _ _ (ext_lst ex hol3)
    have hP5 := (hP3.ext ex).same s5
    refine ⟨_, rfl, hd, xs, rfl, so.sq hhd5, fun p6 n6 => ?_⟩
    have g6 := same_new n6 (.lst xs)
    refine ⟨_, rfl, _, _, dp_prs upd_same (hP5.same g6), dp_prs (g6 _ _ hol5) (hP5.same g6), shaped_prs _, shaped_prs _, _, rfl, ?_⟩
    rw [eqv_prs, decide_eq_true rfl]
    refine iteF ?_
    dsimp only [tNext]
    have ex6 : ExtN J3 (upd J5 p6 (.lst xs)) := ex.trans ((ExtN.of s5).trans (ExtN.of g6))
    have hT6 := (hT4.ext s5).ext g6
    -- the second, turned about
    refine ⟨_, rfl, _, rfl, ol, xs, rfl, SqL.of (ext_lst ex6 hol3), fun p7 n7 => ?_⟩
    have g7 := same_new n7 (.lst xs.reverse)
    have ex7 := ex6.trans (ExtN.of g7)
    refine ⟨ps, p7, sp, xs.reverse, _, L.reverse, rfl, ext_tup ex7 hps3.1, bs, .inl rfl, upd_same, (hP3.ext ex7).rev2, fan.rev, hT6.ext g7, fun r8 J8 ws N8 ex8 hT8 fr8 hr8 hz8 pN8 wN8 => ?_⟩
    have eN8 : N8 = N := turned_one (pN8.trans (List.reverse_perm L)) pN wN8 wN
    subst eN8
    have ex38 := ex7.trans ex8
    refine ⟨_, rfl, _, _, rfl, alike_prs (n := 0) hr8 (ext_lst ex38 hdu) hz8 (hY.ext ex38) n9, fun J9 s9 => ⟨_, rfl, iteF ?_⟩⟩
    exact ⟨⟨_, _, _, _, _, rfl⟩, (hB3.extN ex38).same s9, hT8.ext s9⟩
  · rintro σ H2 ⟨⟨c2, c3, c4, c5, c6, rfl⟩, hB, hT⟩
    refine ⟨sz (by decide : 2 ≤ 100000), fun p0 n0 => ?_⟩
    have g0 := same_new n0 (.tup [.int 0, .int 0])
    refine ⟨_, rfl, sz (by decide : 2 ≤ 100000), fun p1 n1 => ?_⟩
    have g1 := same_new n1 (.tup [.int 0, .int (-1)])
    refine ⟨_, rfl, sz (by decide : 2 ≤ 100000), fun p2 n2 => ?_⟩
    have g2 := same_new n2 (.tup [.int (-1), .int 0])
    refine ⟨sz (by decide : 2 ≤ 100000), fun p3 n3 => ⟨sz (by decide : 2 ≤ 100000), fun p4 n4 => ⟨sz (by decide : 4 ≤ 100000), fun pl npl => ?_⟩⟩⟩
    have g3 := same_new n3 (.tup [.int 0, .int 1])
    have g4 := same_new n4 (.tup [.int 1, .int 0])
    have g5 := same_new npl (.lst [.ref p1, .ref p2, .ref p3, .ref p4])
    have gA := g0.trans (g1.trans (g2.trans (g3.trans (g4.trans g5))))
    have fan : Fan (0, 0) [(0, -1), (-1, 0), (0, 1), (1, 0)] := ⟨by decide, by decide, by decide⟩
    refine ⟨p0, pl, (0, 0), _, _, [(0, -1), (-1, 0), (0, 1), (1, 0)], rfl, (g1.trans (g2.trans (g3.trans (g4.trans g5)))) _ _ upd_same, by decide, .inl rfl, upd_same, .cons ⟨p1, rfl, (g2.trans (g3.trans (g4.trans g5))) _ _ upd_same⟩ (.cons ⟨p2, rfl, (g3.trans (g4.trans g5)) _ _ upd_same⟩ (.cons ⟨p3, rfl, (g4.trans g5) _ _ upd_same⟩ (.cons ⟨p4, rfl, g5 _ _ upd_same⟩ .nil))), fan, hT.ext gA, fun r J ys M ex hTJ fr hr' hy pM wM => ?_⟩
    have eM : M = [(1, 0), (0, 1), (-1, 0), (0, -1)] := turned_one (L := [(0, -1), (-1, 0), (0, 1), (1, 0)]) (s := (0, 0)) pM (by decide) wM (by decide)
    subst eM
    refine ⟨sz (by decide : 2 ≤ 100000), fun q1 m1 => ⟨sz (by decide : 2 ≤ 100000), fun q2 m2 => ⟨_, rfl, sz (by decide : 2 ≤ 100000), fun q3 m3 => ⟨_, rfl, sz (by decide : 2 ≤ 100000), fun q4 m4 => ⟨sz (by decide : 4 ≤ 100000), fun ql mql => ?_⟩⟩⟩⟩⟩
    have k1 := same_new m1 (.tup [.int 1, .int 0])
    have k2 := same_new m2 (.tup [.int 0, .int 1])
    have k3 := same_new m3 (.tup [.int (-1), .int 0])
    have k4 := same_new m4 (.tup [.int 0, .int (-1)])
    have k5 := same_new mql (.lst [.ref q1, .ref q2, .ref q3, .ref q4])
    have kA := k1.trans (k2.trans (k3.trans (k4.trans k5)))
    refine ⟨_, _, dp_prs (kA _ _ hr') (hy.same kA), dp_prs (L := [(1, 0), (0, 1), (-1, 0), (0, -1)]) upd_same (.cons ⟨q1, rfl, (k2.trans (k3.trans (k4.trans k5))) _ _ upd_same⟩ (.cons ⟨q2, rfl, (k3.trans (k4.trans k5)) _ _ upd_same⟩ (.cons ⟨q3, rfl, (k4.trans k5) _ _ upd_same⟩ (.cons ⟨q4, rfl, k5 _ _ upd_same⟩ .nil)))), shaped_prs _, shaped_prs _, ?_⟩
    rw [eqv_prs, decide_eq_true rfl]
    exact q _
end
end DM

namespace DM
open PySem L2 LamX
theorem all_mk {l : PySem.W.OpenLaw} {w : World} {K : PySem.W.Frag} {h : Heap} {mg : Str → Option Value} {fa f1 f2 f3 f4 f5 f6 f7 f8 f9 f10 f11 f12 f13 : Addr} (X : K.In h) (G : h.Ns mainGlobals mg) (hfa : mg "law" = some (.ref fa))
    {od1 an1 od2 an2 od3 an3 od4 an4 od5 an5 od6 an6 od7 an7 od8 an8 od9 an9 od10 an10 od11 an11 od12 an12 od13 an13 : Option Addr} {sl1 sl2 sl3 sl4 sl5 sl6 sl7 sl8 sl9 sl10 sl11 sl12 sl13 : Array (Option Value)} {oc1 kV1 dc1 pm1 ct1 oc2 kV2 dc2 pm2 cd2 ct2 oc3 kV3 dc3 pm3 cd3 ct3 oc4 kV4 dc4 pm4 cd4 ct4 oc5 kV5 dc5 pm5 cd5 ct5 oc6 kV6 dc6 pm6 cd6 ct6 oc7 kV7 dc7 pm7 cd7 ct7 oc8 kV8 dc8 pm8 cd8 ct8 oc9 kV9 dc9 pm9 cd9 ct9 oc10 kV10 dc10 pm10 cd10 ct10 oc11 kV11 dc11 pm11 cd11 ct11 oc12 kV12 dc12 pm12 cd12 ct12 oc13 kV13 dc13 pm13 cd13 ct13 : Value} 
    {cL_around PL_around : Addr} {eL_around : Value} {ddL_around : Option Addr} {vsL_around : Array Value} {slL_around : Array (Option Value)}
    (a1 : PySem.W.nsIn K mainGlobals "around" = some (some (.ref f1))) (l1 : K.lookup f1 = some ⟨oc1, od1, .func (PySem.W.fnOf "around" "around" (defArgs s_around) (defBody s_around) (defScope s_around) .none kV1 dc1 pm1 an1 (.ref cL_around) ct1), sl1⟩) (c1 : PySem.W.codeIn K (.ref cL_around) "around" = true) (k1 : PySem.W.keepIn K (.ref f1) = true)
    (a2 : PySem.W.nsIn K mainGlobals "direction" = some (some (.ref f2))) (l2 : K.lookup f2 = some ⟨oc2, od2, .func (PySem.W.fnOf "direction" "direction" (defArgs s_direction) (defBody s_direction) (defScope s_direction) .none kV2 dc2 pm2 an2 cd2 ct2), sl2⟩) (c2 : PySem.W.codeIn K cd2 "direction" = true) (k2 : PySem.W.keepIn K (.ref f2) = true)
    (a3 : PySem.W.nsIn K mainGlobals "_law_bag" = some (some (.ref f3))) (l3 : K.lookup f3 = some ⟨oc3, od3, .func (PySem.W.fnOf "_law_bag" "_law_bag" (defArgs s_bag) (defBody s_bag) (defScope s_bag) .none kV3 dc3 pm3 an3 cd3 ct3), sl3⟩) (c3 : PySem.W.codeIn K cd3 "_law_bag" = true) (k3 : PySem.W.keepIn K (.ref f3) = true)
    (a4 : PySem.W.nsIn K mainGlobals "_law_pull" = some (some (.ref f4))) (l4 : K.lookup f4 = some ⟨oc4, od4, .func (PySem.W.fnOf "_law_pull" "_law_pull" (defArgs s_pull) (defBody s_pull) (defScope s_pull) .none kV4 dc4 pm4 an4 cd4 ct4), sl4⟩) (c4 : PySem.W.codeIn K cd4 "_law_pull" = true) (k4 : PySem.W.keepIn K (.ref f4) = true)
    (a5 : PySem.W.nsIn K mainGlobals "_law_of" = some (some (.ref f5))) (l5 : K.lookup f5 = some ⟨oc5, od5, .func (PySem.W.fnOf "_law_of" "_law_of" (defArgs s_of) (defBody s_of) (defScope s_of) .none kV5 dc5 pm5 an5 cd5 ct5), sl5⟩) (c5 : PySem.W.codeIn K cd5 "_law_of" = true) (k5 : PySem.W.keepIn K (.ref f5) = true)
    (a6 : PySem.W.nsIn K mainGlobals "_law_like" = some (some (.ref f6))) (l6 : K.lookup f6 = some ⟨oc6, od6, .func (PySem.W.fnOf "_law_like" "_law_like" (defArgs s_like) (defBody s_like) (defScope s_like) .none kV6 dc6 pm6 an6 cd6 ct6), sl6⟩) (c6 : PySem.W.codeIn K cd6 "_law_like" = true) (k6 : PySem.W.keepIn K (.ref f6) = true)
    (a7 : PySem.W.nsIn K mainGlobals "_law_common" = some (some (.ref f7))) (l7 : K.lookup f7 = some ⟨oc7, od7, .func (PySem.W.fnOf "_law_common" "_law_common" (defArgs s_common) (defBody s_common) (defScope s_common) .none kV7 dc7 pm7 an7 cd7 ct7), sl7⟩) (c7 : PySem.W.codeIn K cd7 "_law_common" = true) (k7 : PySem.W.keepIn K (.ref f7) = true)
    (a8 : PySem.W.nsIn K mainGlobals "_law_clipped" = some (some (.ref f8))) (l8 : K.lookup f8 = some ⟨oc8, od8, .func (PySem.W.fnOf "_law_clipped" "_law_clipped" (defArgs s_clipped) (defBody s_clipped) (defScope s_clipped) .none kV8 dc8 pm8 an8 cd8 ct8), sl8⟩) (c8 : PySem.W.codeIn K cd8 "_law_clipped" = true) (k8 : PySem.W.keepIn K (.ref f8) = true)
    (a9 : PySem.W.nsIn K mainGlobals "_law_spot" = some (some (.ref f9))) (l9 : K.lookup f9 = some ⟨oc9, od9, .func (PySem.W.fnOf "_law_spot" "_law_spot" (defArgs s_spot) (defBody s_spot) (defScope s_spot) .none kV9 dc9 pm9 an9 cd9 ct9), sl9⟩) (c9 : PySem.W.codeIn K cd9 "_law_spot" = true) (k9 : PySem.W.keepIn K (.ref f9) = true)
    (a10 : PySem.W.nsIn K mainGlobals "_law_ahead" = some (some (.ref f10))) (l10 : K.lookup f10 = some ⟨oc10, od10, .func (PySem.W.fnOf "_law_ahead" "_law_ahead" (defArgs s_ahead) (defBody s_ahead) (defScope s_ahead) .none kV10 dc10 pm10 an10 cd10 ct10), sl10⟩) (c10 : PySem.W.codeIn K cd10 "_law_ahead" = true) (k10 : PySem.W.keepIn K (.ref f10) = true)
    (a11 : PySem.W.nsIn K mainGlobals "_law_turned" = some (some (.ref f11))) (l11 : K.lookup f11 = some ⟨oc11, od11, .func (PySem.W.fnOf "_law_turned" "_law_turned" (defArgs s_turned) (defBody s_turned) (defScope s_turned) .none kV11 dc11 pm11 an11 cd11 ct11), sl11⟩) (c11 : PySem.W.codeIn K cd11 "_law_turned" = true) (k11 : PySem.W.keepIn K (.ref f11) = true)
    (a12 : PySem.W.nsIn K mainGlobals "_law_apart" = some (some (.ref f12))) (l12 : K.lookup f12 = some ⟨oc12, od12, .func (PySem.W.fnOf "_law_apart" "_law_apart" (defArgs s_apart) (defBody s_apart) (defScope s_apart) .none kV12 dc12 pm12 an12 cd12 ct12), sl12⟩) (c12 : PySem.W.codeIn K cd12 "_law_apart" = true) (k12 : PySem.W.keepIn K (.ref f12) = true)
    (a13 : PySem.W.nsIn K mainGlobals "law" = some (some (.ref f13))) (l13 : K.lookup f13 = some ⟨oc13, od13, .func (PySem.W.fnOf "law" "law" (defArgs s_law) (defBody s_law) (defScope s_law) .none kV13 dc13 pm13 an13 cd13 ct13), sl13⟩) (c13 : PySem.W.codeIn K cd13 "law" = true) (k13 : PySem.W.keepIn K (.ref f13) = true)
    (z_len : PySem.W.nsIn K mainGlobals "len" = some none)
    (z_isinstance : PySem.W.nsIn K mainGlobals "isinstance" = some none)
    (z_all : PySem.W.nsIn K mainGlobals "all" = some none)
    (z_list : PySem.W.nsIn K mainGlobals "list" = some none)
    (z_tuple : PySem.W.nsIn K mainGlobals "tuple" = some none)
    (z_dict : PySem.W.nsIn K mainGlobals "dict" = some none)
    (z_bool : PySem.W.nsIn K mainGlobals "bool" = some none)
    (z_range : PySem.W.nsIn K mainGlobals "range" = some none)
    (z_abs : PySem.W.nsIn K mainGlobals "abs" = some none)
    (z_any : PySem.W.nsIn K mainGlobals "any" = some none)
    (z_sorted : PySem.W.nsIn K mainGlobals "sorted" = some none)
    (z_int : PySem.W.nsIn K mainGlobals "int" = some none)
    (z_max : PySem.W.nsIn K mainGlobals "max" = some none)
    (z_min : PySem.W.nsIn K mainGlobals "min" = some none)
    (z_sum : PySem.W.nsIn K mainGlobals "sum" = some none)
    (z_zip : PySem.W.nsIn K mainGlobals "zip" = some none)
    (z_enumerate : PySem.W.nsIn K mainGlobals "enumerate" = some none)
    (tC_around : K.lookup cL_around = some ⟨eL_around, ddL_around, .fields vsL_around, slL_around⟩) (tP_around : vsL_around[11]? = some (.ref PL_around)) (tN_around : K.lookup PL_around = none) (tH_around : PySem.W.codeHdIn K cL_around PL_around = true)
    (own : ∀ nm ∈ (["around"] : List Str), ∀ g : Addr, mg nm = some (.ref g) → LamX.OwnTab K g h) : LamX.LawAtS l w K CX0 6 63 "_law_script" mg fa h := by
  have e := hfa.symm.trans (PySem.W.mg_of X G a13)
  cases e
  have F_around := fun_mk (st := s_around) l1 c1 k1
  have b_around := F_around.binds (ps := ["spot", "others"]) fun _ _ _ _ _ _ us hl => match us, hl with | [_, _], _ => rfl
  have m_around := PySem.W.mg_of X G a1
  have F_direction := fun_mk (st := s_direction) l2 c2 k2
  have b_direction := F_direction.binds (ps := ["right", "upward", "fine"]) fun _ _ _ _ _ _ us hl => match us, hl with | [_, _, _], _ => rfl
  have m_direction := PySem.W.mg_of X G a2
  have F_bag := fun_mk (st := s_bag) l3 c3 k3
  have b_bag := F_bag.binds (ps := ["_law_script"]) fun _ _ _ _ _ _ us hl => match us, hl with | [_], _ => rfl
  have m_bag := PySem.W.mg_of X G a3
  have F_pull := fun_mk (st := s_pull) l4 c4 k4
  have b_pull := F_pull.binds (ps := ["_law_bag_here", "_law_amount"]) fun _ _ _ _ _ _ us hl => match us, hl with | [_, _], _ => rfl
  have m_pull := PySem.W.mg_of X G a4
  have F_of := fun_mk (st := s_of) l5 c5 k5
  have b_of := F_of.binds (ps := ["_law_bag_here", "_law_things"]) fun _ _ _ _ _ _ us hl => match us, hl with | [_, _], _ => rfl
  have m_of := PySem.W.mg_of X G a5
  have F_like := fun_mk (st := s_like) l6 c6 k6
  have b_like := F_like.binds (ps := ["_law_found", "_law_due"]) fun _ _ _ _ _ _ us hl => match us, hl with | [_, _], _ => rfl
  have m_like := PySem.W.mg_of X G a6
  have F_common := fun_mk (st := s_common) l7 c7 k7
  have b_common := F_common.binds (ps := ["_law_one", "_law_other"]) fun _ _ _ _ _ _ us hl => match us, hl with | [_, _], _ => rfl
  have m_common := PySem.W.mg_of X G a7
  have F_clipped := fun_mk (st := s_clipped) l8 c8 k8
  have b_clipped := F_clipped.binds (ps := ["_law_number"]) fun _ _ _ _ _ _ us hl => match us, hl with | [_], _ => rfl
  have m_clipped := PySem.W.mg_of X G a8
  have F_spot := fun_mk (st := s_spot) l9 c9 k9
  have b_spot := F_spot.binds (ps := ["_law_bag_here", "_law_base", "_law_wide"]) fun _ _ _ _ _ _ us hl => match us, hl with | [_, _, _], _ => rfl
  have m_spot := PySem.W.mg_of X G a9
  have F_ahead := fun_mk (st := s_ahead) l10 c10 k10
  have b_ahead := F_ahead.binds (ps := ["_law_one", "_law_other"]) fun _ _ _ _ _ _ us hl => match us, hl with | [_, _], _ => rfl
  have m_ahead := PySem.W.mg_of X G a10
  have F_turned := fun_mk (st := s_turned) l11 c11 k11
  have b_turned := F_turned.binds (ps := ["_law_spot_here", "_law_others"]) fun _ _ _ _ _ _ us hl => match us, hl with | [_, _], _ => rfl
  have m_turned := PySem.W.mg_of X G a11
  have F_apart := fun_mk (st := s_apart) l12 c12 k12
  have b_apart := F_apart.binds (ps := ["_law_bag_here", "_law_spot_here"]) fun _ _ _ _ _ _ us hl => match us, hl with | [_, _], _ => rfl
  have m_apart := PySem.W.mg_of X G a12
  have F_law := fun_mk (st := s_law) l13 c13 k13
  have b_law := F_law.binds (ps := ["_law_script"]) fun _ _ _ _ _ _ us hl => match us, hl with | [_], _ => rfl
  have m_law := PySem.W.mg_of X G a13
  have B : Blt mg := ⟨PySem.W.mg_none_of X G z_len, PySem.W.mg_none_of X G z_isinstance, PySem.W.mg_none_of X G z_all, PySem.W.mg_none_of X G z_list, PySem.W.mg_none_of X G z_tuple, PySem.W.mg_none_of X G z_dict, PySem.W.mg_none_of X G z_bool, PySem.W.mg_none_of X G z_range, PySem.W.mg_none_of X G z_abs, PySem.W.mg_none_of X G z_any, PySem.W.mg_none_of X G z_sorted, PySem.W.mg_none_of X G z_int, PySem.W.mg_none_of X G z_max, PySem.W.mg_none_of X G z_min, PySem.W.mg_none_of X G z_sum, PySem.W.mg_none_of X G z_zip, PySem.W.mg_none_of X G z_enumerate⟩
  refine ⟨PySem.W.fnOf "law" "law" (defArgs s_law) (defBody s_law) (defScope s_law) .none kV13 dc13 pm13 an13 cd13 ct13, [(cL_around, PL_around)], spLawTs K [PL_around], (fun p hp => ?_), (fun p hp => ?_), (fun p hp => ?_), fun s v => .of_eq rfl, (fun H a ns hl _ hT hS => ⟨a, ns, rfl, hS, hl, fun P hP => ?_, fun _ => rfl⟩), fun base _ _ hTB => ?_⟩
  · simp only [List.mem_cons, List.not_mem_nil, or_false] at hp
    have z := hp
    · rw [z]; exact own "around" (by decide) _ m_around cL_around PL_around _ _ _ _ _ _ l1 rfl rfl tC_around tP_around
  · simp only [List.mem_cons, List.not_mem_nil, or_false] at hp
    have z := hp
    · rw [z]; exact tN_around
  · simp only [List.mem_cons, List.not_mem_nil, or_false] at hp
    have z := hp
    · rw [z]; exact PySem.W.codeHd_of_K X tH_around
  · simp only [List.mem_cons, List.not_mem_nil, or_false] at hP
    have z := hP
    · rw [z]; exact hT (cL_around, PL_around) (by simp)
  have TB_around := hTB (cL_around, PL_around) (by simp)
  have C_like : Cal l.prog w K mg base 3 "_law_like" ["_law_found", "_law_due"] (spLike 2) := ⟨_, _, ok_like B F_like b_like m_like 2, b_like, F_like.kp, m_like⟩
  have C_bag : Cal l.prog w K mg base 1 "_law_bag" ["_law_script"] (spBag K) := ⟨_, _, ok_bag B F_bag, b_bag, F_bag.kp, m_bag⟩
  have C_pull : Cal l.prog w K mg base 1 "_law_pull" ["_law_bag_here", "_law_amount"] spPull := ⟨_, _, ok_pull B F_pull, b_pull, F_pull.kp, m_pull⟩
  have C_of : Cal l.prog w K mg base 2 "_law_of" ["_law_bag_here", "_law_things"] spOf := ⟨_, _, ok_of B C_pull F_of, b_of, F_of.kp, m_of⟩
  have C_clipped : Cal l.prog w K mg base 1 "_law_clipped" ["_law_number"] spClip := ⟨_, _, ok_clipped B F_clipped, b_clipped, F_clipped.kp, m_clipped⟩
  have C_spot : Cal l.prog w K mg base 2 "_law_spot" ["_law_bag_here", "_law_base", "_law_wide"] spSpot := ⟨_, _, ok_spot C_pull C_clipped F_spot, b_spot, F_spot.kp, m_spot⟩
  have C_common : Cal l.prog w K mg base 1 "_law_common" ["_law_one", "_law_other"] spCom := ⟨_, _, ok_common B F_common, b_common, F_common.kp, m_common⟩
  have C_ahead : Cal l.prog w K mg base 1 "_law_ahead" ["_law_one", "_law_other"] spAhead := ⟨_, _, ok_ahead B F_ahead, b_ahead, F_ahead.kp, m_ahead⟩
  have C_turned : Cal l.prog w K mg base 2 "_law_turned" ["_law_spot_here", "_law_others"] spTurned := ⟨_, _, ok_turned B C_ahead F_turned, b_turned, F_turned.kp, m_turned⟩
  have C_apart : Cal l.prog w K mg base 3 "_law_apart" ["_law_bag_here", "_law_spot_here"] spApart := ⟨_, _, ok_apart B C_pull C_of C_spot C_common F_apart, b_apart, F_apart.kp, m_apart⟩
  have C_direction : Cal l.prog w K mg base 1 "direction" ["right", "upward", "fine"] spDirection := ⟨_, _, ok_direction B F_direction, b_direction, F_direction.kp, m_direction⟩
  have C_around : Cal l.prog w K mg base 5 "around" ["spot", "others"] (spAround [(PL_around, qLamOf "around" (defScope s_around))]) := ⟨_, _, ok_around B C_direction F_around rfl TB_around, b_around, F_around.kp, m_around⟩
  exact ok_law B C_bag C_of C_like C_spot C_turned C_apart C_around F_law
theorem walk {l : PySem.W.OpenLaw} {q : Program} {loose : List Str} {XP : (Str → Option Value) → Heap → Prop} {YP : World → Heap → Prop} {d : DefRec} {K : Params → PySem.W.Frag} (hn : l.most = some 63) (hdf : d.params.defaults = []) (hrec : ∀ nm ∈ (["around"] : List Str), ((PyProof.Rows.recsOf q).any fun e => e.name == nm) = true)
    (hY : ∀ (w : World) (h : Heap), YP w h → (K w.params).In h)
    (F : ∀ (w : World) (mg : Str → Option Value) (fa : Addr) (h : Heap), (K w.params).In h → h.Ns mainGlobals mg → mg d.name = some (.ref fa) → (∀ nm ∈ (["around"] : List Str), ∀ g : Addr, mg nm = some (.ref g) → LamX.OwnTab (K w.params) g h) → LamX.LawAtS l w (K w.params) CX0 6 63 "_law_script" mg fa h) :
    PySem.W.WalkO q loose XP YP l.row.toRowW d [] (fun f vs => PySem.call f vs) :=
  walk_ofTabs (["around"] : List Str) (n := 63) (k := 6) (x := "_law_script") (CX := fun _ => CX0) hn (by decide) hdf ⟨rfl, by decide, by decide⟩ hrec hY (fun w mg fa h _ KX G hm own => F w mg fa h KX G hm own) fun _ _ _ _ _ z => z
end DM
open PySem PySem.W PyProof.Rows
set_option maxRecDepth 100000 in
set_option maxHeartbeats 0 in
theorem PySem.Challenge.cw_dotmoor_k25_spots_in_their_order_round_holds : PySem.Challenge.rw_dotmoor_k25_spots_in_their_order_round.Holds := by
  w_on; o_law; k_head; (case hw => w_witness2)
  k_fill
  refine DM.walk (l := PySem.Challenge.rw_dotmoor_k25_spots_in_their_order_round) rfl rfl ?hrec (fun w h Y => PySem.W.km_in_of Y) ?F
  case hrec => first | decide +kernel | (intro nm hnm; simp only [List.mem_cons, List.not_mem_nil, or_false] at hnm; rcases hnm with rfl <;> first | rfl | decide +kernel)
  case F =>
    intro w mg fa h KX G hmg own
    refine' DM.all_mk KX G hmg ?a1 ?l1 ?c1 ?k1 ?a2 ?l2 ?c2 ?k2 ?a3 ?l3 ?c3 ?k3 ?a4 ?l4 ?c4 ?k4 ?a5 ?l5 ?c5 ?k5 ?a6 ?l6 ?c6 ?k6 ?a7 ?l7 ?c7 ?k7 ?a8 ?l8 ?c8 ?k8 ?a9 ?l9 ?c9 ?k9 ?a10 ?l10 ?c10 ?k10 ?a11 ?l11 ?c11 ?k11 ?a12 ?l12 ?c12 ?k12 ?a13 ?l13 ?c13 ?k13 ?z_len ?z_isinstance ?z_all ?z_list ?z_tuple ?z_dict ?z_bool ?z_range ?z_abs ?z_any ?z_sorted ?z_int ?z_max ?z_min ?z_sum ?z_zip ?z_enumerate ?tC_around ?tP_around ?tN_around ?tH_around own
    (case a1 => k_is)
    (case l1 => k_is)
    (case c1 => k_is)
    (case k1 => k_is)
    (case a2 => k_is)
    (case l2 => k_is)
    (case c2 => k_is)
    (case k2 => k_is)
    (case a3 => k_is)
    (case l3 => k_is)
    (case c3 => k_is)
    (case k3 => k_is)
    (case a4 => k_is)
    (case l4 => k_is)
    (case c4 => k_is)
    (case k4 => k_is)
    (case a5 => k_is)
    (case l5 => k_is)
    (case c5 => k_is)
    (case k5 => k_is)
    (case a6 => k_is)
    (case l6 => k_is)
    (case c6 => k_is)
    (case k6 => k_is)
    (case a7 => k_is)
    (case l7 => k_is)
    (case c7 => k_is)
    (case k7 => k_is)
    (case a8 => k_is)
    (case l8 => k_is)
    (case c8 => k_is)
    (case k8 => k_is)
    (case a9 => k_is)
    (case l9 => k_is)
    (case c9 => k_is)
    (case k9 => k_is)
    (case a10 => k_is)
    (case l10 => k_is)
    (case c10 => k_is)
    (case k10 => k_is)
    (case a11 => k_is)
    (case l11 => k_is)
    (case c11 => k_is)
    (case k11 => k_is)
    (case a12 => k_is)
    (case l12 => k_is)
    (case c12 => k_is)
    (case k12 => k_is)
    (case a13 => k_is)
    (case l13 => k_is)
    (case c13 => k_is)
    (case k13 => k_is)
    (case z_len => k_is)
    (case z_isinstance => k_is)
    (case z_all => k_is)
    (case z_list => k_is)
    (case z_tuple => k_is)
    (case z_dict => k_is)
    (case z_bool => k_is)
    (case z_range => k_is)
    (case z_abs => k_is)
    (case z_any => k_is)
    (case z_sorted => k_is)
    (case z_int => k_is)
    (case z_max => k_is)
    (case z_min => k_is)
    (case z_sum => k_is)
    (case z_zip => k_is)
    (case z_enumerate => k_is)
    (case tC_around => k_is)
    (case tP_around => first | rfl | kernel_rfl)
    (case tN_around => first | rfl | kernel_rfl)
    (case tH_around => first | rfl | kernel_rfl)

