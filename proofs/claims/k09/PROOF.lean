import PyProof.Rows.All
import Wide.All
import OpenK.AllK
import Wide.FinOn
import HandS.ForMost
import HandS.IsInst
import HandS.Wide
import HandS.Style
import HandS.Flt
import HandS.Deep
import HandS.Defaults
import KE.DatumOrd
import PySem.Challenge.RW_dotmoor_k09_whole_both_go_through_where
set_option Elab.async false
set_option linter.all false
set_option maxRecDepth 100000
set_option maxHeartbeats 4000000
namespace DM
open PySem L2
/-! ### built-ins by their names -/
theorem bt_len : bootBuiltins "len" = some (.builtin "len") := by decide +kernel
theorem bt_isinstance : bootBuiltins "isinstance" = some (.builtin "isinstance") := by decide +kernel
theorem bt_all : bootBuiltins "all" = some (.builtin "all") := by decide +kernel
theorem bt_any : bootBuiltins "any" = some (.builtin "any") := by decide +kernel
theorem bt_sorted : bootBuiltins "sorted" = some (.builtin "sorted") := by decide +kernel
theorem bt_abs : bootBuiltins "abs" = some (.builtin "abs") := by decide +kernel
theorem bt_max : bootBuiltins "max" = some (.builtin "max") := by decide +kernel
theorem bt_min : bootBuiltins "min" = some (.builtin "min") := by decide +kernel
theorem bt_sum : bootBuiltins "sum" = some (.builtin "sum") := by decide +kernel
theorem bt_list : bootBuiltins "list" = some (.type "list") := by decide +kernel
theorem bt_tuple : bootBuiltins "tuple" = some (.type "tuple") := by decide +kernel
theorem bt_dict : bootBuiltins "dict" = some (.type "dict") := by decide +kernel
theorem bt_bool : bootBuiltins "bool" = some (.type "bool") := by decide +kernel
theorem bt_int : bootBuiltins "int" = some (.type "int") := by decide +kernel
structure Blt (mg : Str → Option Value) : Prop where
  len : mg "len" = none
  isinstance : mg "isinstance" = none
  all : mg "all" = none
  list : mg "list" = none
  tuple : mg "tuple" = none
  dict : mg "dict" = none
  bool : mg "bool" = none
  range : mg "range" = none
  abs : mg "abs" = none
  any : mg "any" = none
  sorted : mg "sorted" = none
  int : mg "int" = none
  max : mg "max" = none
  min : mg "min" = none
  sum : mg "sum" = none
  zip : mg "zip" = none
  enumerate : mg "enumerate" = none
/-! ### a def that may be called by its name -/
def Cal (P : Program) (w : World) (K : PySem.W.Frag) (mg : Str → Option Value) (base : Heap) (k : Nat) (x : Str) (ps : List Str) (sp : Sp) : Prop :=
  ∃ (f : Addr) (fd : FuncData), FnOk P w K mg base CX0 k f fd ps sp ∧ Binds K fd ps [] ∧ PySem.W.keepIn K (.ref f) = true ∧ mg x = some (.ref f)
section
variable {X : Cx}
theorem pe_cal {k k' : Nat} {x : Str} {ps : List Str} {sp : Sp} {e : Expr} {es : List Expr} {t : TA} {p pos : Pos} (C : Cal X.prog X.w X.K X.mg X.base k x ps sp) (hr : Room k' X.A) (ha : PA X (e :: es) t)
    (hk : k ≤ k' := by decide) (hg : Gl X x := by rfl) (hdb : (x == ("__debug__" : Str)) = false := by decide) (he : starEach (e :: es) X.env = (false, eval e X.env) :: starEach es X.env := by rfl) (hpl : (backTo pos (starEach es X.env)).any (·.1) = false := by rfl) :
    PE X (.Call (.Name x p) (e :: es) [] pos) (tCall sp [] E0 t) := by
  obtain ⟨f, fd, F, b, kp, hm⟩ := C
  exact pe_call F (hr.mono hk) hg hm kp b .nil pass0 ha hdb he hpl
end
theorem nil_binds {K : PySem.W.Frag} {fd : FuncData} {ps : List Str} {ds : List Value} (v : Vals [] ds) (b : Binds K fd ps ds) : Binds K fd ps [] := by
  cases v
  exact b
/-! ### statements -/
theorem seq_with {t u : TS} {D : Ends} {σ : St} {H : Hp} (P : St → Hp → Prop) (h1 : ∀ R : St → Hp → Prop, (∀ σ' H', P σ' H' → R σ' H') → t { D with nx := R } σ H) (h2 : ∀ σ' H', P σ' H' → u D σ' H') : tSeq t u D σ H := h1 (u D) h2
theorem iteDF {c : Prop} [Decidable c] {A B : Prop} (hc : ¬ c) (h : B) : if decide c = true then A else B := by
  rw [decide_eq_false hc]
  exact iteF h
theorem iteDT {c : Prop} [Decidable c] {A B : Prop} (hc : c) (h : A) : if decide c = true then A else B := by
  rw [decide_eq_true hc]
  exact iteT h
theorem same_new {H : Hp} {p : Addr} (h : H p = none) (o : HO) : Same H (upd H p o) := fun b u q => by rw [upd_ne (ne_of_none q h)]; exact q
theorem new_at {H : Hp} {p : Addr} {o : HO} (_ : Same H (upd H p o)) : upd H p o p = some o := upd_same
theorem sz {n : Nat} (h : n ≤ 100000) : n ≤ sizeLine := Nat.le_trans h (by decide)
/-! ### the bag -/
/-- all but what stands at b is as it was -/
def But (b : Addr) (H H' : Hp) : Prop := ∀ a o, a ≠ b → H a = some o → H' a = some o
theorem But.refl {b : Addr} {H : Hp} : But b H H := fun _ _ _ h => h
theorem But.trans {b : Addr} {H H1 H2 : Hp} (x : But b H H1) (y : But b H1 H2) : But b H H2 := fun a o h e => y a o h (x a o h e)
theorem But.of {b : Addr} {H H1 : Hp} (x : Same H H1) : But b H H1 := fun a o _ e => x a o e
theorem But.upd {b : Addr} {H : Hp} {o : HO} : But b H (upd H b o) := fun a u h e => by rw [upd_ne h]; exact e
def BagAt (H : Hp) (b l : Addr) : Prop := ∃ (ns : List Int) (i g s : Int), H b = some (.lst [.ref l, .int i, .int g, .int s]) ∧ H l = some (.lst (ns.map V.int)) ∧ ns.length ≤ 63 ∧ 0 ≤ i ∧ 0 ≤ g ∧ 0 ≤ s ∧ s < 2147483647
theorem bag_ne {H : Hp} {b l : Addr} {ns : List Int} {i g s : Int} (h : H b = some (.lst [.ref l, .int i, .int g, .int s])) (h' : H l = some (.lst (ns.map V.int))) : l ≠ b := by
  refine ne_of h' h fun e => ?_
  have e1 := HO.lst.inj e
  cases ns with
  | nil => cases e1
  | cons a r => cases e1
theorem bag_upd {H : Hp} {b l : Addr} {ns : List Int} {i g s : Int} (hl : l ≠ b) (h' : H l = some (.lst (ns.map V.int))) (h63 : ns.length ≤ 63) (hi : 0 ≤ i) (hg : 0 ≤ g) (h0 : 0 ≤ s) (h1 : s < 2147483647) : BagAt (upd H b (.lst [.ref l, .int i, .int g, .int s])) b l :=
  ⟨ns, i, g, s, upd_same, by rw [upd_ne hl]; exact h', h63, hi, hg, h0, h1⟩
theorem BagAt.same {H H' : Hp} {b l : Addr} (h : BagAt H b l) (e : Same H H') : BagAt H' b l := by
  obtain ⟨ns, i, g, s, h1, h2, r⟩ := h
  exact ⟨ns, i, g, s, e _ _ h1, e _ _ h2, r⟩
theorem BagAt.hasB {H : Hp} {b l : Addr} (h : BagAt H b l) : ∃ xs, H b = some (.lst xs) := by
  obtain ⟨ns, i, g, s, h1, _⟩ := h
  exact ⟨_, h1⟩
theorem BagAt.hasL {H : Hp} {b l : Addr} (h : BagAt H b l) : ∃ xs, H l = some (.lst xs) := by
  obtain ⟨ns, i, g, s, h1, h2, _⟩ := h
  exact ⟨_, h2⟩
/-- a store elsewhere leaves the bag -/
theorem BagAt.put {H : Hp} {b l p : Addr} {o : HO} (h : BagAt H b l) (h1 : p ≠ b) (h2 : p ≠ l) : BagAt (upd H p o) b l := by
  obtain ⟨ns, i, g, s, e1, e2, r⟩ := h
  exact ⟨ns, i, g, s, by rw [upd_ne (Ne.symm h1)]; exact e1, by rw [upd_ne (Ne.symm h2)]; exact e2, r⟩
/-- what is new is not the bag's -/
theorem BagAt.new {H : Hp} {b l p : Addr} (h : BagAt H b l) (hp : H p = none) : p ≠ b ∧ p ≠ l := by
  obtain ⟨xs, e1⟩ := h.hasB
  obtain ⟨ys, e2⟩ := h.hasL
  exact ⟨Ne.symm (ne_of_none e1 hp), Ne.symm (ne_of_none e2 hp)⟩
theorem bag_tup {H : Hp} {b l p : Addr} {xs : List V} (hB : BagAt H b l) (h : H p = some (.tup xs)) : p ≠ b := by
  obtain ⟨ys, e⟩ := hB.hasB
  exact ne_of h e (by intro z; cases z)
/-- what the bag's makers and readers promise -/
def spBag (K : PySem.W.Frag) : Sp := fun vs H Q _ => ∃ (a : Addr) (ns : List Int), vs = [.ref a] ∧ SqL K H a (ns.map V.int) ∧ ns.length ≤ 63 ∧ ∀ (b l : Addr) (H' : Hp), Same H H' → H b = none → H l = none → BagAt H' b l → Q (.ref b) H'
def spPull : Sp := fun vs H Q _ => ∃ (b l : Addr) (m : Int), vs = [.ref b, .int m] ∧ BagAt H b l ∧ 0 < m ∧ m < 4611686018427387904 ∧ ∀ (r : Int) (H' : Hp), BagAt H' b l → But b H H' → 0 ≤ r → r < m → Q (.int r) H'
def spOf : Sp := fun vs H Q _ => ∃ (b l p : Addr) (xs : List V), vs = [.ref b, .ref p] ∧ BagAt H b l ∧ H p = some (.lst xs) ∧ p ≠ b ∧ 0 < xs.length ∧ xs.length ≤ 1000 ∧ ∀ (v : V) (H' : Hp), BagAt H' b l → But b H H' → v ∈ xs → Q v H'
def spLaw (K : PySem.W.Frag) : Sp := fun vs H Q _ => ∃ (a : Addr) (ns : List Int), vs = [.ref a] ∧ SqL K H a (ns.map V.int) ∧ ns.length ≤ 63 ∧ ∀ H', Q (.bl true) H'
end DM

namespace DM
open PySem L2
def top (i : Nat) : Stmt := PySem.Challenge.pw_dotmoor_k09_whole_both_go_through_where.main.body.getD i (.Pass ⟨0, 0, 0, 0⟩)
section
variable {P : Program} {w : World} {K : PySem.W.Frag} {mg : Str → Option Value} {base : Heap} {f : Addr} {fd : FuncData}
abbrev s_bag : Stmt := top 21
theorem sc_bag : FnScope ["_law_script", "_law_salt", "_law_cell"] ["_law_script"] (defScope s_bag) := ⟨rfl, rfl, rfl, by decide +kernel, rfl, by decide +kernel, by decide +kernel⟩
theorem cut_ints (ns : List Int) : ∃ ms : List Int, cutV (ns.map V.int) none (some 63) = ms.map V.int ∧ ms.length ≤ ns.length := by
  refine ⟨(ns.drop (HT.sIx ns.length 0 none)).take (HT.sIx ns.length ns.length (some 63) - HT.sIx ns.length 0 none), ?_, ?_⟩
  · unfold cutV
    rw [List.length_map, List.map_take, List.map_drop]
  · rw [List.length_take, List.length_drop]
    omega
theorem ok_bag (B : Blt mg) (F : Fun K "_law_bag" "_law_bag" s_bag f fd) : FnOk P w K mg base CX0 1 f fd ["_law_script"] (spBag K) := by
  refine F.ok sc_bag (fun vs H Q E h => ?_) (fun cdv A outer s H vs Q E hr h => ?_)
  · obtain ⟨a, ns, rfl, _⟩ := h
    rfl
  obtain ⟨a, ns, rfl, hS, h63, q⟩ := h
  refine ⟨_, (pss_cons (ps_set (i := 1) sc_bag.nd rfl (Or.inl rfl) pe_int)
    (pss_cons (ps_for PassesOwn.never rfl (pi_list (pe_slice sl_list (pv 0) po_none (po_some pe_int))) (pg_name (i := 2) sc_bag.nd rfl (Or.inl rfl))
    (pss_one (ps_set (i := 1) sc_bag.nd rfl (Or.inl rfl) (pe_op op_mod (pe_op op_add (pe_op op_add (pe_op op_mul (pv 1) pe_int) (pe_op op_mod (pv 2) pe_int)) pe_int) pe_int))))
    (pss_one (ps_ret (pe_lst (pa_cons (pe_callTy call_list_of rfl B.list bt_list (pa_cons (pe_slice sl_list (pv 0) po_none (po_some pe_int)) pa_nil)) (pa_cons pe_int (pa_cons pe_int (pa_cons (pv 1) pa_nil))))))))), ?_⟩
  obtain ⟨ms, em, lm⟩ := cut_ints ns
  refine ⟨_, rfl, _, rfl, a, _, rfl, hS, fun p hp => ?_⟩
  refine ⟨p, rfl, ⟨_, SqL.of upd_same⟩, ?_⟩
  have g1 : Same H (upd H p (.lst (cutV (ns.map V.int) none (some 63)))) := same_new hp _
  have hp1 : upd H p (.lst (cutV (ns.map V.int) none (some 63))) p = some (.lst (ms.map V.int)) := by rw [upd_same, em]
  refine for_list (K := K) (a := p) (xs := ms.map V.int) (fun _ σ H' => H' = upd H p (.lst (cutV (ns.map V.int) none (some 63))) ∧ ∃ (s : Int) (c : Option V), σ = [some (.ref a), some (.int s), c] ∧ 0 ≤ s ∧ s < 2147483647) ?_ ?_ ?_ ?_
  · exact ⟨rfl, 9117, none, rfl, by decide, by decide⟩
  · rintro i σ H' _ ⟨rfl, _⟩
    exact SqL.of hp1
  · rintro i x σ H' hx ⟨rfl, s, c, rfl, h0, h1⟩
    obtain ⟨n, rfl⟩ : ∃ n, x = V.int n := by
      rw [List.getElem?_map] at hx
      cases e : ms[i]? with
      | none => rw [e] at hx; cases hx
      | some n => rw [e] at hx; exact ⟨n, (Option.some.inj hx).symm⟩
    refine ⟨_, rfl, _, _, rfl, rfl, .inr ⟨by decide, by decide⟩, _, rfl, _, _, rfl, rfl, (by dsimp only; decide), _, _, rfl, rfl, _, _, rfl, rfl, _, _, rfl, rfl, (by dsimp only; decide), ?_⟩
    refine ⟨rfl, _, _, rfl, ?_, ?_⟩
    · exact Int.emod_nonneg _ (by decide)
    · exact Int.emod_lt_of_pos _ (by decide)
  · rintro σ H' ⟨rfl, s, c, rfl, h0, h1⟩
    refine ⟨_, rfl, _, rfl, a, _, rfl, g1.seq hS, fun p2 hp2 => ?_⟩
    refine ⟨p2, _, rfl, .inl (SqL.of upd_same), fun p3 hp3 => ?_⟩
    refine ⟨_, rfl, sz (by decide : 4 ≤ 100000), fun p4 hp4 => ?_⟩
    refine q p4 p3 _ (g1.trans ((same_new hp2 _).trans ((same_new hp3 _).trans (same_new hp4 _)))) ?_ (g1.free ((same_new hp2 _).free hp3)) ?_
    · exact g1.free ((same_new hp2 _).free ((same_new hp3 _).free hp4))
    · refine bag_upd (ns := ms) (Ne.symm (Ne.symm (ne_of_none (H := upd _ p3 _) upd_same hp4))) ?_ (by omega) (by decide) (by decide) h0 h1
      rw [upd_same, em]
abbrev s_pull : Stmt := top 22
theorem sc_pull : FnScope ["_law_bag_here", "_law_amount", "_law_cell", "_law_got", "_law_seed"] ["_law_bag_here", "_law_amount"] (defScope s_pull) := ⟨rfl, rfl, rfl, by decide +kernel, rfl, by decide +kernel, by decide +kernel⟩
theorem ok_pull (B : Blt mg) (F : Fun K "_law_pull" "_law_pull" s_pull f fd) : FnOk P w K mg base CX0 1 f fd ["_law_bag_here", "_law_amount"] spPull := by
  refine F.ok sc_pull (fun vs H Q E h => ?_) (fun cdv A outer s H vs Q E hr h => ?_)
  · obtain ⟨b, l, m, rfl, _⟩ := h
    rfl
  obtain ⟨b, l, m, rfl, hB, hm0, hm1, q⟩ := h
  refine ⟨_, (pss_cons (ps_if (PW.pt (pw_and (pt_cmpR op_eq (pe_ix ix_list (pv 0) pe_int (fun _ _ => rfl)) pe_int (nomark _)) (pw_and1 (pt_cmpR op_lt (pe_ix ix_list (pv 0) pe_int (fun _ _ => rfl)) (pe_callB call_len_seq rfl B.len bt_len (pa_cons (pe_ix ix_list (pv 0) pe_int (fun _ _ => rfl)) pa_nil)) (nomark _)))))
    (pss_cons (ps_set (i := 2) sc_pull.nd rfl (Or.inl rfl) (pe_ix ix_list (pe_ix ix_list (pv 0) pe_int (fun _ _ => rfl)) (pe_ix ix_list (pv 0) pe_int (fun _ _ => rfl)) (fun _ _ => rfl)))
    (pss_cons (ps_asg (pe_op op_add (pe_ix ix_list (pv 0) pe_int (fun _ _ => rfl)) pe_int) (pg_sub (pv 0) pe_int set_list))
    (pss_one (ps_if (pt_cmpR op_ge (pv 2) (pe_op op_pow pe_int pe_int) (nomark _))
    (pss_one (ps_asg (pv 2) (pg_sub (pv 0) pe_int set_list)))
    (pss_one (ps_asg (pe_op op_mod (pe_op op_add (pe_op op_add (pe_op op_mul (pe_ix ix_list (pv 0) pe_int (fun _ _ => rfl)) pe_int) (pe_op op_mul (pe_op op_mod (pv 2) pe_int) pe_int)) pe_int) pe_int) (pg_sub (pv 0) pe_int set_list)))))))
    pss_nil)
    (pss_cons (ps_if (pt_cmpR op_gt (pe_ix ix_list (pv 0) pe_int (fun _ _ => rfl)) pe_int (nomark _))
    (pss_cons (ps_set (i := 3) sc_pull.nd rfl (Or.inl rfl) (pe_op op_mod (pe_ix ix_list (pv 0) pe_int (fun _ _ => rfl)) (pv 1)))
    (pss_cons (ps_asg (pe_op op_fdivW (pe_ix ix_list (pv 0) pe_int (fun _ _ => rfl)) (pv 1)) (pg_sub (pv 0) pe_int set_list))
    (pss_one (ps_ret (pv 3)))))
    pss_nil)
    (pss_cons (ps_set (i := 4) sc_pull.nd rfl (Or.inl rfl) (pe_ix ix_list (pv 0) pe_int (fun _ _ => rfl)))
    (pss_cons (ps_asg (pe_op op_mod (pe_op op_add (pe_op op_add (pe_op op_mul (pv 4) pe_int) (pe_op op_mul (pe_op op_fdiv (pv 4) pe_int) pe_int)) pe_int) pe_int) (pg_sub (pv 0) pe_int set_list))
    (pss_one (ps_ret (pe_op op_mod (pe_op op_add (pe_op op_fdiv (pe_ix ix_list (pv 0) pe_int (fun _ _ => rfl)) pe_int) (pe_op op_mul (pe_op op_mod (pe_ix ix_list (pv 0) pe_int (fun _ _ => rfl)) pe_int) pe_int)) (pv 1)))))))), ?_⟩
  obtain ⟨ns, i, g, z, hb, hl, h63, hi, hg, hz0, hz1⟩ := hB
  have hlb := bag_ne hb hl
  refine seq_with (fun σ' H' => (∃ c, σ' = [some (.ref b), some (.int m), c, none, none]) ∧ BagAt H' b l ∧ But b H H') (fun R hR => ?_) ?_
  · refine ⟨_, rfl, b, _, _, _, rfl, rfl, SqL.of hb, rfl, rfl, _, rfl, ?_⟩
    refine ite2 (fun c => ?_) (fun c => ?_)
    · refine ⟨_, rfl, b, _, _, _, rfl, rfl, SqL.of hb, rfl, _, rfl, b, _, _, _, rfl, rfl, SqL.of hb, rfl, l, _, rfl, .inl (SqL.of hl), _, _, rfl, rfl, _, rfl, ?_⟩
      refine ite2 (fun c2 => ?_) (fun c2 => ?_)
      · have c3 : i < ((ns.map V.int).length : Int) := of_decide_eq_true c2
        rw [List.length_map] at c3
        have hit : i.toNat < ns.length := by omega
        have ei : i = ((i.toNat : Nat) : Int) := by omega
        have hat : atI (ns.map V.int) i = some (.int ns[i.toNat]) := by
          exact at_of ei (by rw [List.getElem?_map, List.getElem?_eq_getElem hit] <;> rfl)
        refine ⟨_, rfl, b, _, _, _, rfl, rfl, SqL.of hb, rfl, _, rfl, b, _, _, _, rfl, rfl, SqL.of hb, rfl, l, _, _, _, rfl, rfl, SqL.of hl, hat, ?_⟩
        refine ⟨_, rfl, b, _, _, _, rfl, rfl, SqL.of hb, rfl, _, _, rfl, rfl, _, rfl, b, _, _, _, rfl, rfl, hb, rfl, ?_⟩
        refine ⟨_, rfl, _, _, rfl, rfl, ⟨by decide, by decide, by decide⟩, _, _, rfl, rfl, _, rfl, ?_⟩
        refine ite2 (fun c4 => ?_) (fun c4 => ?_)
        · have c5 : ns[i.toNat] ≥ (10 : Int) ^ (18 : Int).toNat := of_decide_eq_true c4
          have c6 : (0 : Int) ≤ (10 : Int) ^ (18 : Int).toNat := by decide
          refine ⟨_, rfl, _, rfl, b, _, _, _, rfl, rfl, upd_same, rfl, hR _ _ ⟨⟨_, rfl⟩, ?_, ?_⟩⟩
          · rw [upd_upd]
            exact bag_upd (ns := ns) hlb hl h63 (by omega) (by omega) hz0 hz1
          · rw [upd_upd]
            exact But.upd
        · refine ⟨_, rfl, b, _, _, _, rfl, rfl, SqL.of upd_same, rfl, _, _, rfl, rfl, .inr ⟨by decide, by decide⟩, _, rfl, _, _, rfl, rfl, (by dsimp only; decide), _, _, rfl, rfl, .inr ⟨by decide, by decide⟩, _, _, rfl, rfl, _, _, rfl, rfl, _, _, rfl, rfl, (by dsimp only; decide), ?_⟩
          refine ⟨_, rfl, b, _, _, _, rfl, rfl, upd_same, rfl, hR _ _ ⟨⟨_, rfl⟩, ?_, ?_⟩⟩
          · rw [upd_upd]
            exact bag_upd (ns := ns) hlb hl h63 (by omega) hg (Int.emod_nonneg _ (by decide)) (Int.emod_lt_of_pos _ (by decide))
          · rw [upd_upd]
            exact But.upd
      · refine hR _ _ ⟨⟨_, rfl⟩, ⟨ns, i, g, z, hb, hl, h63, hi, hg, hz0, hz1⟩, But.refl⟩
    · refine iteF ?_
      exact hR _ _ ⟨⟨_, rfl⟩, ⟨ns, i, g, z, hb, hl, h63, hi, hg, hz0, hz1⟩, But.refl⟩
  · rintro σ' H' ⟨⟨c, rfl⟩, hB', hBut⟩
    obtain ⟨ns, i, g, z, hb, hl, h63, hi, hg, hz0, hz1⟩ := hB'
    have hlb := bag_ne hb hl
    refine ⟨_, rfl, b, _, _, _, rfl, rfl, SqL.of hb, rfl, _, _, rfl, rfl, _, rfl, ?_⟩
    refine ite2 (fun c => ?_) (fun c => ?_)
    · refine ⟨_, rfl, b, _, _, _, rfl, rfl, SqL.of hb, rfl, _, rfl, _, _, rfl, rfl, hm0, ?_⟩
      refine ⟨_, rfl, b, _, _, _, rfl, rfl, SqL.of hb, rfl, _, rfl, _, _, rfl, rfl, wide_div (b := 62) hm0 (by omega) (by decide) (by decide), ?_⟩
      refine ⟨_, rfl, b, _, _, _, rfl, rfl, hb, rfl, _, rfl, ?_⟩
      refine q _ _ ?_ (hBut.trans But.upd) (Int.emod_nonneg _ (by omega)) (Int.emod_lt_of_pos _ hm0)
      exact bag_upd (ns := ns) hlb hl h63 hi (Int.ediv_nonneg hg (by omega)) hz0 hz1
    · refine ⟨_, rfl, b, _, _, _, rfl, rfl, SqL.of hb, rfl, ?_⟩
      refine ⟨_, rfl, _, _, rfl, rfl, .inr ⟨by decide, by decide⟩, _, rfl, _, _, rfl, rfl, ⟨by decide, by decide⟩, _, _, rfl, rfl, .inr ⟨by decide, by decide⟩, _, _, rfl, rfl, _, _, rfl, rfl, _, _, rfl, rfl, (by dsimp only; decide), ?_⟩
      refine ⟨_, rfl, b, _, _, _, rfl, rfl, hb, rfl, ?_⟩
      refine ⟨_, rfl, b, _, _, _, rfl, rfl, SqL.of upd_same, rfl, _, _, rfl, rfl, ⟨by decide, by decide⟩, _, rfl, b, _, _, _, rfl, rfl, SqL.of upd_same, rfl, _, _, rfl, rfl, (by dsimp only; decide), _, _, rfl, rfl, .inr ⟨by decide, by decide⟩, _, _, rfl, rfl, _, rfl, _, _, rfl, rfl, hm0, ?_⟩
      refine q _ _ ?_ (hBut.trans But.upd) (Int.emod_nonneg _ (by omega)) (Int.emod_lt_of_pos _ hm0)
      exact bag_upd (ns := ns) hlb hl h63 hi hg (Int.emod_nonneg _ (by decide)) (Int.emod_lt_of_pos _ (by decide))
abbrev s_of : Stmt := top 23
theorem sc_of : FnScope ["_law_bag_here", "_law_things"] ["_law_bag_here", "_law_things"] (defScope s_of) := ⟨rfl, rfl, rfl, by decide +kernel, rfl, by decide +kernel, by decide +kernel⟩
theorem ok_of (B : Blt mg) (c_pull : Cal P w K mg base 1 "_law_pull" ["_law_bag_here", "_law_amount"] spPull) (F : Fun K "_law_of" "_law_of" s_of f fd) : FnOk P w K mg base CX0 2 f fd ["_law_bag_here", "_law_things"] spOf := by
  refine F.ok sc_of (fun vs H Q E h => ?_) (fun cdv A outer s H vs Q E hr h => ?_)
  · obtain ⟨b, l, p, xs, rfl, _⟩ := h
    rfl
  obtain ⟨b, l, p, xs, rfl, hB, hp, hpb, h0, h1, q⟩ := h
  refine ⟨_, (pss_one (ps_ret (pe_ix ix_list (pv 1) (pe_cal c_pull hr (pa_cons (pv 0) (pa_cons (pe_callB call_len_seq rfl B.len bt_len (pa_cons (pv 1) pa_nil)) pa_nil))) (fun _ _ => rfl)))), ?_⟩
  refine ⟨_, rfl, _, rfl, _, rfl, p, xs, rfl, .inl (SqL.of hp), b, _, _, rfl, hB, by omega, by omega, fun r H' hB' hbut r0 r1 => ?_⟩
  have hr' : r.toNat < xs.length := by omega
  have er : r = ((r.toNat : Nat) : Int) := by omega
  have hat : atI xs r = some xs[r.toNat] := by
    exact at_of er (List.getElem?_eq_getElem hr')
  exact ⟨p, xs, r, _, rfl, rfl, SqL.of (hbut _ _ hpb hp), hat, q _ _ hB' hbut (List.getElem_mem hr')⟩
end
end DM

namespace DM
open PySem L2
/-! ### what is like what -/
def scl : V → Bool
  | .non => true | .bl _ => true | .int _ => true | .str _ => true
  | _ => false
def Alike : Nat → Hp → V → V → Prop
  | 0, _, x, y => x = y ∧ scl x = true
  | n + 1, H, x, y => (x = y ∧ scl x = true) ∨
    (∃ p q xs ys, x = .ref p ∧ y = .ref q ∧ H p = some (.tup xs) ∧ H q = some (.tup ys) ∧ xs.length = ys.length ∧ xs.length ≤ 1000 ∧ ∀ (i : Nat) (x y : V), xs[i]? = some x → ys[i]? = some y → Alike n H x y) ∨
    (∃ p q xs ys, x = .ref p ∧ y = .ref q ∧ H p = some (.lst xs) ∧ H q = some (.lst ys) ∧ xs.length = ys.length ∧ xs.length ≤ 1000 ∧ ∀ (i : Nat) (x y : V), xs[i]? = some x → ys[i]? = some y → Alike n H x y)
theorem Alike.same : ∀ {n : Nat} {H H' : Hp} {x y : V}, Alike n H x y → Same H H' → Alike n H' x y
  | 0, _, _, _, _, h, _ => h
  | n + 1, _, _, _, _, h, e => by
    rcases h with h | ⟨p, q, xs, ys, a, b, c, d, l, m, r⟩ | ⟨p, q, xs, ys, a, b, c, d, l, m, r⟩
    · exact .inl h
    · exact .inr (.inl ⟨p, q, xs, ys, a, b, e _ _ c, e _ _ d, l, m, fun i x y hx hy => (r i x y hx hy).same e⟩)
    · exact .inr (.inr ⟨p, q, xs, ys, a, b, e _ _ c, e _ _ d, l, m, fun i x y hx hy => (r i x y hx hy).same e⟩)
theorem Alike.scal {n : Nat} {H : Hp} {x : V} (h : scl x = true) : Alike n H x x := by
  cases n with
  | zero => exact ⟨rfl, h⟩
  | succ n => exact .inl ⟨rfl, h⟩
theorem Alike.of_eq {n : Nat} {H : Hp} {x y : V} (e : x = y) (h : scl x = true) : Alike n H x y := by
  subst e
  exact Alike.scal h
theorem Alike.up : ∀ {n : Nat} {H : Hp} {x y : V}, Alike n H x y → Alike (n + 1) H x y
  | 0, _, _, _, h => .inl h
  | _ + 1, _, _, _, .inl h => .inl h
  | _ + 1, _, _, _, .inr (.inl ⟨p, q, xs, ys, a, b, c, d, e, f, g⟩) => .inr (.inl ⟨p, q, xs, ys, a, b, c, d, e, f, fun i x y hx hy => (g i x y hx hy).up⟩)
  | _ + 1, _, _, _, .inr (.inr ⟨p, q, xs, ys, a, b, c, d, e, f, g⟩) => .inr (.inr ⟨p, q, xs, ys, a, b, c, d, e, f, fun i x y hx hy => (g i x y hx hy).up⟩)
theorem alike_pair {n : Nat} {H : Hp} {u v : Int} : ∀ (i : Nat) (x y : V), ([.int u, .int v] : List V)[i]? = some x → ([.int u, .int v] : List V)[i]? = some y → Alike n H x y
  | 0, _, _, hx, hy => by cases hx; cases hy; exact Alike.scal rfl
  | 1, _, _, hx, hy => by cases hx; cases hy; exact Alike.scal rfl
def spLike (n : Nat) : Sp := fun vs H Q _ => ∃ x y, vs = [x, y] ∧ Alike n H x y ∧ ∀ H', Same H H' → Q (.bl true) H'
theorem if_pos' {c A B : Prop} [Decidable c] (h : c) (a : A) : if c then A else B := by
  rw [if_pos h]
  exact a
theorem lc_yes {σ : St} {H : Hp} {A B : Hp → Prop} (h : A H) : tYes σ H (fun b H3 => if b = true then A H3 else B H3) := by
  show (if true = true then A H else B H)
  rw [if_pos rfl]
  exact h
def tyn : V → String
  | .non => "NoneType" | .bl _ => "bool" | .int _ => "int" | .str _ => "str"
  | _ => ""
theorem tyn_x {K : PySem.W.Frag} {H : Hp} : ∀ {x : V}, scl x = true → TyX K H x (.type (tyn x))
  | .non, _ => .base .non
  | .bl b, _ => .base (.bl b)
  | .int i, _ => .base (.int i)
  | .str s, _ => .base (.str s)
theorem tyn_no {K : PySem.W.Frag} : ∀ {x : V}, scl x = true → PySem.W.kitOne K (.type (tyn x)) (.type "dict") = some false ∧ PySem.W.kitOne K (.type (tyn x)) (.type "tuple") = some false ∧ PySem.W.kitOne K (.type (tyn x)) (.type "list") = some false ∧ ∃ b, PySem.W.kitOne K (.type (tyn x)) (.type "bool") = some b
  | .non, _ => ⟨kit_ty (by decide +kernel : kitB "NoneType" "dict" = some false), kit_ty (by decide +kernel : kitB "NoneType" "tuple" = some false), kit_ty (by decide +kernel : kitB "NoneType" "list" = some false), _, kit_ty (by decide +kernel : kitB "NoneType" "bool" = some false)⟩
  | .bl _, _ => ⟨kit_ty (by decide +kernel : kitB "bool" "dict" = some false), kit_ty (by decide +kernel : kitB "bool" "tuple" = some false), kit_ty (by decide +kernel : kitB "bool" "list" = some false), _, kit_ty (by decide +kernel : kitB "bool" "bool" = some true)⟩
  | .int _, _ => ⟨kit_ty (by decide +kernel : kitB "int" "dict" = some false), kit_ty (by decide +kernel : kitB "int" "tuple" = some false), kit_ty (by decide +kernel : kitB "int" "list" = some false), _, kit_ty (by decide +kernel : kitB "int" "bool" = some false)⟩
  | .str _, _ => ⟨kit_ty (by decide +kernel : kitB "str" "dict" = some false), kit_ty (by decide +kernel : kitB "str" "tuple" = some false), kit_ty (by decide +kernel : kitB "str" "list" = some false), _, kit_ty (by decide +kernel : kitB "str" "bool" = some false)⟩
theorem scl_eq : ∀ {x : V}, scl x = true → L2.scal x x = true
  | .non, _ => rfl
  | .bl _, _ => rfl
  | .int _, _ => rfl
  | .str _, _ => rfl
section
variable {P : Program} {w : World} {K : PySem.W.Frag} {mg : Str → Option Value} {base : Heap} {f : Addr} {fd : FuncData}
end
end DM

namespace DM
open PySem L2
/-- a pair of numbers from -40 to 40 -/
def Pt (H : Hp) (p : Addr) (x y : Int) : Prop := H p = some (.tup [.int x, .int y]) ∧ -40 ≤ x ∧ x ≤ 40 ∧ -40 ≤ y ∧ y ≤ 40
theorem Pt.same {H H' : Hp} {p : Addr} {x y : Int} (h : Pt H p x y) (e : Same H H') : Pt H' p x y := ⟨e _ _ h.1, h.2⟩
theorem Pt.but {H H' : Hp} {b l p : Addr} {x y : Int} (h : Pt H p x y) (hB : BagAt H b l) (e : But b H H') : Pt H' p x y := ⟨e _ _ (bag_tup hB h.1) h.1, h.2⟩
def spClip : Sp := fun vs H Q _ => ∃ n : Int, vs = [.int n] ∧ ∀ r : Int, -40 ≤ r → r ≤ 40 → Q (.int r) H
def spSpot : Sp := fun vs H Q _ => ∃ (b l pb : Addr) (x y m : Int), vs = [.ref b, .ref pb, .int m] ∧ BagAt H b l ∧ H pb = some (.tup [.int x, .int y]) ∧ 0 < m ∧ m ≤ 1000 ∧ ∀ (p : Addr) (H' : Hp) (x' y' : Int), BagAt H' b l → But b H H' → Pt H' p x' y' → Q (.ref p) H'
def spBase : Sp := fun vs H Q _ => ∃ (b l : Addr), vs = [.ref b] ∧ BagAt H b l ∧ ∀ (p : Addr) (H' : Hp) (x y : Int), BagAt H' b l → But b H H' → H' p = some (.tup [.int x, .int y]) → Q (.ref p) H'
section
variable {P : Program} {w : World} {K : PySem.W.Frag} {mg : Str → Option Value} {base : Heap} {f : Addr} {fd : FuncData}
abbrev s_clipped : Stmt := top 24
theorem sc_clipped : FnScope ["_law_number"] ["_law_number"] (defScope s_clipped) := ⟨rfl, rfl, rfl, by decide +kernel, rfl, by decide +kernel, by decide +kernel⟩
theorem ok_clipped (B : Blt mg) (F : Fun K "_law_clipped" "_law_clipped" s_clipped f fd) : FnOk P w K mg base CX0 1 f fd ["_law_number"] spClip := by
  refine F.ok sc_clipped (fun vs H Q E h => ?_) (fun cdv A outer s H vs Q E hr h => ?_)
  · obtain ⟨n, rfl, _⟩ := h
    rfl
  obtain ⟨n, rfl, q⟩ := h
  refine ⟨_, (pss_one (ps_ret (pe_callB (call_max2 rfl) rfl B.max bt_max (pa_cons (pe_un un_neg pe_int) (pa_cons (pe_callB (call_min2 rfl) rfl B.min bt_min (pa_cons pe_int (pa_cons (pv 0) pa_nil))) pa_nil))))), ?_⟩
  refine ⟨_, rfl, _, rfl, _, _, rfl, _, _, rfl, ?_⟩
  refine q _ ?_ ?_ <;> split <;> split <;> omega
abbrev s_spot : Stmt := top 25
theorem sc_spot : FnScope ["_law_bag_here", "_law_base_here", "_law_wide", "_law_x"] ["_law_bag_here", "_law_base_here", "_law_wide"] (defScope s_spot) := ⟨rfl, rfl, rfl, by decide +kernel, rfl, by decide +kernel, by decide +kernel⟩
theorem ok_spot (c_pull : Cal P w K mg base 1 "_law_pull" ["_law_bag_here", "_law_amount"] spPull) (c_clipped : Cal P w K mg base 1 "_law_clipped" ["_law_number"] spClip) (F : Fun K "_law_spot" "_law_spot" s_spot f fd) : FnOk P w K mg base CX0 2 f fd ["_law_bag_here", "_law_base_here", "_law_wide"] spSpot := by
  refine F.ok sc_spot (fun vs H Q E h => ?_) (fun cdv A outer s H vs Q E hr h => ?_)
  · obtain ⟨b, l, pb, x, y, m, rfl, _⟩ := h
    rfl
  obtain ⟨b, l, pb, x, y, m, rfl, hB, hp, m0, m1, q⟩ := h
  refine ⟨_, (pss_cons (ps_set (i := 3) sc_spot.nd rfl (Or.inl rfl) (pe_cal c_clipped hr (pa_cons (pe_op op_sub (pe_op op_add (pe_ix ix_tup (pv 1) pe_int (fun _ _ => rfl)) (pe_cal c_pull hr (pa_cons (pv 0) (pa_cons (pe_op op_add (pe_op op_mul pe_int (pv 2)) pe_int) pa_nil)))) (pv 2)) pa_nil)))
    (pss_one (ps_ret (pe_tup (pa_cons (pv 3) (pa_cons (pe_cal c_clipped hr (pa_cons (pe_op op_sub (pe_op op_add (pe_ix ix_tup (pv 1) pe_int (fun _ _ => rfl)) (pe_cal c_pull hr (pa_cons (pv 0) (pa_cons (pe_op op_add (pe_op op_mul pe_int (pv 2)) pe_int) pa_nil)))) (pv 2)) pa_nil)) pa_nil)))))), ?_⟩
  refine ⟨_, rfl, pb, _, _, _, rfl, rfl, SqT.of hp, rfl, _, rfl, _, rfl, _, _, rfl, rfl, .inl ⟨by decide, by decide⟩, _, _, rfl, rfl, b, _, _, rfl, hB, by omega, by omega, fun r1 H1 hB1 bt1 r10 r11 => ?_⟩
  refine ⟨_, _, rfl, rfl, _, rfl, _, _, rfl, rfl, _, rfl, fun x' hx1 hx2 => ?_⟩
  have hp1 := bt1 _ _ (bag_tup hB hp) hp
  refine ⟨_, rfl, _, rfl, pb, _, _, _, rfl, rfl, SqT.of hp1, rfl, _, rfl, _, rfl, _, _, rfl, rfl, .inl ⟨by decide, by decide⟩, _, _, rfl, rfl, b, _, _, rfl, hB1, by omega, by omega, fun r2 H2 hB2 bt2 r20 r21 => ?_⟩
  refine ⟨_, _, rfl, rfl, _, rfl, _, _, rfl, rfl, _, rfl, fun y' hy1 hy2 => ?_⟩
  refine ⟨sz (by decide : 2 ≤ 100000), fun p hpn => ?_⟩
  exact q p _ x' y' (hB2.same (same_new hpn _)) ((bt1.trans bt2).trans (But.of (same_new hpn _))) ⟨upd_same, hx1, hx2, hy1, hy2⟩
abbrev s_base : Stmt := top 26
theorem sc_base : FnScope ["_law_bag_here", "_law_far"] ["_law_bag_here"] (defScope s_base) := ⟨rfl, rfl, rfl, by decide +kernel, rfl, by decide +kernel, by decide +kernel⟩
theorem ok_base (c_pull : Cal P w K mg base 1 "_law_pull" ["_law_bag_here", "_law_amount"] spPull) (c_of : Cal P w K mg base 2 "_law_of" ["_law_bag_here", "_law_things"] spOf) (F : Fun K "_law_base" "_law_base" s_base f fd) : FnOk P w K mg base CX0 3 f fd ["_law_bag_here"] spBase := by
  refine F.ok sc_base (fun vs H Q E h => ?_) (fun cdv A outer s H vs Q E hr h => ?_)
  · obtain ⟨b, l, rfl, _⟩ := h
    rfl
  obtain ⟨b, l, rfl, hB, q⟩ := h
  refine ⟨_, (pss_cons (ps_set (i := 1) sc_base.nd rfl (Or.inl rfl) (pe_tup (pa_cons (pe_op op_sub (pe_cal c_pull hr (pa_cons (pv 0) (pa_cons pe_int pa_nil))) pe_int) (pa_cons (pe_op op_sub (pe_cal c_pull hr (pa_cons (pv 0) (pa_cons pe_int pa_nil))) pe_int) pa_nil))))
    (pss_one (ps_ret (pe_cal c_of hr (pa_cons (pv 0) (pa_cons (pe_lst (pa_cons (pe_tup (pa_cons pe_int (pa_cons pe_int pa_nil))) (pa_cons (pe_tup (pa_cons pe_int (pa_cons pe_int pa_nil))) (pa_cons (pe_tup (pa_cons pe_int (pa_cons pe_int pa_nil))) (pa_cons (pe_tup (pa_cons (pe_un un_neg pe_int) (pa_cons (pe_un un_neg pe_int) pa_nil))) (pa_cons (pe_tup (pa_cons pe_int (pa_cons pe_int pa_nil))) (pa_cons (pe_tup (pa_cons pe_int (pa_cons (pe_un un_neg pe_int) pa_nil))) (pa_cons (pv 1) pa_nil)))))))) pa_nil)))))), ?_⟩
  refine ⟨_, rfl, b, _, _, rfl, hB, by decide, by decide, fun r1 H1 hB1 bt1 r10 r11 => ?_⟩
  refine ⟨_, _, rfl, rfl, _, rfl, b, _, _, rfl, hB1, by decide, by decide, fun r2 H2 hB2 bt2 r20 r21 => ?_⟩
  refine ⟨_, _, rfl, rfl, sz (by decide : 2 ≤ 100000), fun p0 n0 => ?_⟩
  refine ⟨_, rfl, sz (by decide : 2 ≤ 100000), fun p1 n1 => ⟨sz (by decide : 2 ≤ 100000), fun p2 n2 => ⟨sz (by decide : 2 ≤ 100000), fun p3 n3 => ?_⟩⟩⟩
  refine ⟨_, rfl, _, rfl, sz (by decide : 2 ≤ 100000), fun p4 n4 => ⟨sz (by decide : 2 ≤ 100000), fun p5 n5 => ?_⟩⟩
  refine ⟨_, rfl, sz (by decide : 2 ≤ 100000), fun p6 n6 => ?_⟩
  refine ⟨_, rfl, sz (by decide : 7 ≤ 100000), fun p7 n7 => ?_⟩
  have g0 := same_new n0 (.tup [.int (r1 - 40), .int (r2 - 40)])
  have g1 := same_new n1 (.tup [.int 0, .int 0])
  have g2 := same_new n2 (.tup [.int 0, .int 0])
  have g3 := same_new n3 (.tup [.int 0, .int 0])
  have g4 := same_new n4 (.tup [.int (-38), .int (-38)])
  have g5 := same_new n5 (.tup [.int 38, .int 38])
  have g6 := same_new n6 (.tup [.int 37, .int (-39)])
  have g7 := same_new n7 (.lst [.ref p1, .ref p2, .ref p3, .ref p4, .ref p5, .ref p6, .ref p0])
  have gA := g0.trans (g1.trans (g2.trans (g3.trans (g4.trans (g5.trans (g6.trans g7))))))
  have hB3 := hB2.same gA
  have e0 := (g1.trans (g2.trans (g3.trans (g4.trans (g5.trans (g6.trans g7)))))) _ _ upd_same
  have e1 := (g2.trans (g3.trans (g4.trans (g5.trans (g6.trans g7))))) _ _ upd_same
  have e2 := (g3.trans (g4.trans (g5.trans (g6.trans g7)))) _ _ upd_same
  have e3 := (g4.trans (g5.trans (g6.trans g7))) _ _ upd_same
  have e4 := (g5.trans (g6.trans g7)) _ _ upd_same
  have e5 := (g6.trans g7) _ _ upd_same
  have e6 := g7 _ _ upd_same
  obtain ⟨ys, eb⟩ := (hB2.same (g0.trans (g1.trans (g2.trans (g3.trans (g4.trans (g5.trans g6))))))).hasB
  refine ⟨b, _, p7, _, rfl, hB3, upd_same, Ne.symm (ne_of_none eb n7), by show 0 < 7; decide, by show 7 ≤ 1000; decide, fun v H' hB' bt' hv => ?_⟩
  have btA := (bt1.trans bt2).trans ((But.of gA).trans bt')
  have fin : ∀ (p : Addr) (x y : Int), upd _ p7 _ p = some (.tup [.int x, .int y]) → Q (.ref p) H' := fun p x y e => q p H' x y hB' btA (bt' _ _ (bag_tup hB3 e) e)
  simp only [List.mem_cons, List.not_mem_nil, or_false] at hv
  rcases hv with rfl | rfl | rfl | rfl | rfl | rfl | rfl
  · exact fin _ _ _ e1
  · exact fin _ _ _ e2
  · exact fin _ _ _ e3
  · exact fin _ _ _ e4
  · exact fin _ _ _ e5
  · exact fin _ _ _ e6
  · exact fin _ _ _ e0
end
end DM

namespace DM
open PySem L2
/-- a pair of numbers as data -/
theorem dp_pair {K : PySem.W.Frag} {H : Hp} {p : Addr} {x y : Int} (h : H p = some (.tup [.int x, .int y])) : Dp K H (.ref p) (.tuple [.int x, .int y]) := .tup (SqT.of h) (.cons (.int x) (.cons (.int y) .nil))
theorem dp_four {K : PySem.W.Frag} {H : Hp} {p : Addr} {x y z w : Int} (h : H p = some (.tup [.int x, .int y, .int z, .int w])) : Dp K H (.ref p) (.tuple [.int x, .int y, .int z, .int w]) := .tup (SqT.of h) (.cons (.int x) (.cons (.int y) (.cons (.int z) (.cons (.int w) .nil))))
theorem eqv_pair (a b c d : Int) : PyData.eqv (.tuple [.int a, .int b]) (.tuple [.int c, .int d]) = decide (a = c ∧ b = d) := by
  simp only [PyData.eqv, PyData.eqvAll, Bool.and_true, Bool.decide_and]
  rfl
theorem shaped_pair (a b : Int) : SeqAt.shaped (.tuple [.int a, .int b]) = true := by
  first | rfl | simp [SeqAt.shaped, PyData.canLay0, PyData.depth]
end DM

namespace DM
open PySem L2
/-! ### a stroke as a tuple -/
def Stk (H : Hp) (p : Addr) (x1 y1 x2 y2 : Int) : Prop := H p = some (.tup [.int x1, .int y1, .int x2, .int y2]) ∧ (-40 ≤ x1 ∧ x1 ≤ 40 ∧ -40 ≤ y1 ∧ y1 ≤ 40 ∧ -40 ≤ x2 ∧ x2 ≤ 40 ∧ -40 ≤ y2 ∧ y2 ≤ 40) ∧ ¬ (x1 = x2 ∧ y1 = y2)
theorem Stk.same {H H' : Hp} {p : Addr} {x1 y1 x2 y2 : Int} (h : Stk H p x1 y1 x2 y2) (e : Same H H') : Stk H' p x1 y1 x2 y2 := ⟨e _ _ h.1, h.2⟩
theorem Stk.but {H H' : Hp} {b l p : Addr} {x1 y1 x2 y2 : Int} (h : Stk H p x1 y1 x2 y2) (hB : BagAt H b l) (e : But b H H') : Stk H' p x1 y1 x2 y2 := ⟨e _ _ (bag_tup hB h.1) h.1, h.2⟩
def spStroke : Sp := fun vs H Q _ => ∃ (b l pb : Addr) (x y m : Int), vs = [.ref b, .ref pb, .int m] ∧ BagAt H b l ∧ H pb = some (.tup [.int x, .int y]) ∧ 0 < m ∧ m ≤ 1000 ∧ ∀ (p : Addr) (H' : Hp) (x1 y1 x2 y2 : Int), BagAt H' b l → But b H H' → Stk H' p x1 y1 x2 y2 → Q (.ref p) H'
section
variable {P : Program} {w : World} {K : PySem.W.Frag} {mg : Str → Option Value} {base : Heap} {f : Addr} {fd : FuncData}
abbrev s_stroke : Stmt := top 27
theorem sc_stroke : FnScope ["_law_bag_here", "_law_base_here", "_law_wide", "_law_one", "_law_other"] ["_law_bag_here", "_law_base_here", "_law_wide"] (defScope s_stroke) := ⟨rfl, rfl, rfl, by decide +kernel, rfl, by decide +kernel, by decide +kernel⟩
theorem ok_stroke (c_spot : Cal P w K mg base 2 "_law_spot" ["_law_bag_here", "_law_base_here", "_law_wide"] spSpot) (F : Fun K "_law_stroke" "_law_stroke" s_stroke f fd) : FnOk P w K mg base CX0 3 f fd ["_law_bag_here", "_law_base_here", "_law_wide"] spStroke := by
  refine F.ok sc_stroke (fun vs H Q E h => ?_) (fun cdv A outer s H vs Q E hr h => ?_)
  · obtain ⟨b, l, pb, x, y, m, rfl, _⟩ := h
    rfl
  obtain ⟨b, l, pb, x, y, m, rfl, hB, hp, m0, m1, q⟩ := h
  refine ⟨_, (pss_cons (ps_par (i := 3) (j := 4) (by rfl) sc_stroke.nd rfl rfl (by decide) rfl rfl (pa_cons (pe_cal c_spot hr (pa_cons (pv 0) (pa_cons (pv 1) (pa_cons (pv 2) pa_nil)))) (pa_cons (pe_cal c_spot hr (pa_cons (pv 0) (pa_cons (pv 1) (pa_cons (pv 2) pa_nil)))) pa_nil)) (by rfl))
    (pss_cons (ps_if (pt_cmpR (op_eqD hr.units) (pv 3) (pv 4) (nomark _))
    (pss_one (ps_set (i := 4) sc_stroke.nd rfl (Or.inl rfl) (pe_tup (pa_cons (pe_op op_add (pe_ix ix_tup (pv 4) pe_int (fun _ _ => rfl)) (pe_ifExp (pt_cmpR op_lt (pe_ix ix_tup (pv 4) pe_int (fun _ _ => rfl)) pe_int (nomark _)) pe_int (pe_un un_neg pe_int))) (pa_cons (pe_ix ix_tup (pv 4) pe_int (fun _ _ => rfl)) pa_nil)))))
    pss_nil)
    (pss_one (ps_ret (pe_op op_catT (pv 3) (pv 4)))))), ?_⟩
  refine ⟨_, rfl, _, rfl, _, rfl, b, _, pb, x, y, m, rfl, hB, hp, m0, m1, fun p1 H1 x1 y1 hB1 bt1 h1 => ?_⟩
  have hp1 := bt1 _ _ (bag_tup hB hp) hp
  refine ⟨_, rfl, _, rfl, _, rfl, b, _, pb, x, y, m, rfl, hB1, hp1, m0, m1, fun p2 H2 x2 y2 hB2 bt2 h2 => ?_⟩
  have h1' := h1.but hB1 bt2
  refine ⟨_, _, rfl, ?_⟩
  dsimp only
  have bt := bt1.trans bt2
  refine seq_with (fun σ' H' => ∃ (p : Addr) (u v : Int), σ' = [some (.ref b), some (.ref pb), some (.int m), some (.ref p1), some (.ref p)] ∧ BagAt H' b l ∧ But b H H' ∧ Pt H' p1 x1 y1 ∧ Pt H' p u v ∧ ¬ (x1 = u ∧ y1 = v)) (fun R hR => ?_) ?_
  · refine ⟨_, rfl, _, rfl, _, _, dp_pair h1'.1, dp_pair h2.1, shaped_pair _ _, shaped_pair _ _, _, rfl, ?_⟩
    rw [eqv_pair]
    by_cases c : x1 = x2 ∧ y1 = y2
    · refine iteDT c ?_
      have b2 := h2.2
      refine ⟨_, rfl, p2, _, _, _, rfl, rfl, SqT.of h2.1, rfl, _, rfl, p2, _, _, _, rfl, rfl, SqT.of h2.1, rfl, _, _, rfl, rfl, _, rfl, ?_⟩
      by_cases d : x2 < 40
      · refine iteDT d ?_
        refine ⟨_, _, rfl, rfl, _, rfl, p2, _, _, _, rfl, rfl, SqT.of h2.1, rfl, sz (by decide : 2 ≤ 100000), fun p3 n3 => ?_⟩
        have g := same_new n3 (.tup [.int (x2 + 1), .int y2])
        exact hR _ _ ⟨p3, x2 + 1, y2, rfl, hB2.same g, bt.trans (But.of g), h1'.same g, ⟨upd_same, by omega⟩, by omega⟩
      · refine iteDF d ?_
        refine ⟨_, rfl, _, _, rfl, rfl, _, rfl, p2, _, _, _, rfl, rfl, SqT.of h2.1, rfl, sz (by decide : 2 ≤ 100000), fun p3 n3 => ?_⟩
        have g := same_new n3 (.tup [.int (x2 + -1), .int y2])
        exact hR _ _ ⟨p3, x2 + -1, y2, rfl, hB2.same g, bt.trans (But.of g), h1'.same g, ⟨upd_same, by omega⟩, by omega⟩
    · refine iteDF c ?_
      exact hR _ _ ⟨p2, x2, y2, rfl, hB2, bt, h1', h2, c⟩
  · rintro σ' H' ⟨p, u, v, rfl, hB', bt', k1, k2, hne⟩
    refine ⟨_, rfl, _, rfl, p1, p, _, _, rfl, rfl, SqT.of k1.1, SqT.of k2.1, (by intro z; cases z), sz (by decide : 4 ≤ 100000), (fun z => by cases z), fun _ p4 n4 => ?_⟩
    have g := same_new n4 (.tup [.int x1, .int y1, .int u, .int v])
    obtain ⟨_, c1⟩ := k1
    obtain ⟨_, c2⟩ := k2
    exact q p4 _ x1 y1 u v (hB'.same g) (bt'.trans (But.of g)) ⟨upd_same, by omega, hne⟩
end
end DM

namespace DM
/-! ### fractions as pairs, by products -/
theorem fr_trans {a A b B c C : Int} (hB : 0 < B) (hA : 0 ≤ A) (hC : 0 ≤ C) (h1 : a * B ≤ b * A) (h2 : b * C ≤ c * B) : a * C ≤ c * A := by
  have e1 := Int.mul_le_mul_of_nonneg_right h1 hC
  have e2 := Int.mul_le_mul_of_nonneg_right h2 hA
  have e3 : b * A * C = b * C * A := by simp only [Int.mul_comm, Int.mul_left_comm]
  have e4 : a * B * C = B * (a * C) := by simp only [Int.mul_comm, Int.mul_left_comm]
  have e5 : c * B * A = B * (c * A) := by simp only [Int.mul_comm, Int.mul_left_comm]
  rw [e3] at e1
  exact Int.le_of_mul_le_mul_left (by omega : B * (a * C) ≤ B * (c * A)) hB
def later (p q : Int × Int) : Int × Int := if p.1 * q.2 > q.1 * p.2 then p else q
def sooner (p q : Int × Int) : Int × Int := if p.1 * q.2 < q.1 * p.2 then p else q
theorem later_pos {p q : Int × Int} (h1 : 0 < p.2) (h2 : 0 < q.2) : 0 < (later p q).2 := by
  unfold later
  split
  · exact h1
  · exact h2
theorem sooner_pos {p q : Int × Int} (h1 : 0 < p.2) (h2 : 0 < q.2) : 0 < (sooner p q).2 := by
  unfold sooner
  split
  · exact h1
  · exact h2
/-- no later than n / m: both are -/
theorem later_le {p q : Int × Int} {n m : Int} (h1 : 0 < p.2) (h2 : 0 < q.2) (hm : 0 ≤ m) : (later p q).1 * m ≤ n * (later p q).2 ↔ p.1 * m ≤ n * p.2 ∧ q.1 * m ≤ n * q.2 := by
  unfold later
  split
  · rename_i c
    refine ⟨fun h => ⟨h, ?_⟩, fun h => h.1⟩
    exact fr_trans h1 (by omega) hm (show q.1 * p.2 ≤ p.1 * q.2 by omega) h
  · rename_i c
    refine ⟨fun h => ⟨?_, h⟩, fun h => h.2⟩
    exact fr_trans h2 (by omega) hm (show p.1 * q.2 ≤ q.1 * p.2 by omega) h
theorem sooner_ge {p q : Int × Int} {n m : Int} (h1 : 0 < p.2) (h2 : 0 < q.2) (hm : 0 ≤ m) : n * (sooner p q).2 ≤ (sooner p q).1 * m ↔ n * p.2 ≤ p.1 * m ∧ n * q.2 ≤ q.1 * m := by
  unfold sooner
  split
  · rename_i c
    refine ⟨fun h => ⟨h, ?_⟩, fun h => h.1⟩
    exact fr_trans h1 hm (by omega) h (show p.1 * q.2 ≤ q.1 * p.2 by omega)
  · rename_i c
    refine ⟨fun h => ⟨?_, h⟩, fun h => h.2⟩
    exact fr_trans h2 hm (by omega) h (show q.1 * p.2 ≤ p.1 * q.2 by omega)
/-! ### one axis: begin + step * t from low to high -/
def clip (b s lo hi : Int) : Option ((Int × Int) × (Int × Int)) :=
  if s = 0 then (if lo ≤ b ∧ b ≤ hi then some ((0, 1), (1, 1)) else none) else if s < 0 then some ((b - hi, 0 - s), (b - lo, 0 - s)) else some ((lo - b, s), (hi - b, s))
/-- at n / m within, both rims counted -/
def Clo (b s lo hi n m : Int) : Prop := 0 ≤ (b - lo) * m + s * n ∧ 0 ≤ (hi - b) * m - s * n
theorem clip_none {b s lo hi : Int} (h : clip b s lo hi = none) {n m : Int} (hm : 0 < m) : ¬ Clo b s lo hi n m := by
  unfold clip at h
  split at h
  · rename_i hs
    split at h
    · cases h
    · rename_i c
      subst hs
      unfold Clo
      rw [Int.zero_mul]
      intro ⟨h1, h2⟩
      apply c
      have a1 : 0 ≤ (b - lo) * m := by omega
      have a2 : 0 ≤ (hi - b) * m := by omega
      constructor
      · rcases Int.lt_or_le b lo with z | z
        · have := Int.mul_neg_of_neg_of_pos (show b - lo < 0 by omega) hm
          omega
        · exact z
      · rcases Int.lt_or_le hi b with z | z
        · have := Int.mul_neg_of_neg_of_pos (show hi - b < 0 by omega) hm
          omega
        · exact z
  · split at h <;> cases h
theorem clip_some {b s lo hi : Int} {p q : Int × Int} (h : clip b s lo hi = some (p, q)) : 0 < p.2 ∧ 0 < q.2 ∧ ∀ n m : Int, 0 < m → 0 ≤ n → n ≤ m → (Clo b s lo hi n m ↔ p.1 * m ≤ n * p.2 ∧ n * q.2 ≤ q.1 * m) := by
  unfold clip at h
  split at h
  · rename_i hs
    split at h
    · rename_i c
      cases h
      refine ⟨by decide, by decide, fun n m hm h0 h1 => ?_⟩
      subst hs
      unfold Clo
      rw [Int.zero_mul, Int.zero_mul, Int.mul_one, Int.one_mul]
      refine ⟨fun _ => ⟨h0, h1⟩, fun _ => ?_⟩
      have a1 := Int.mul_nonneg (show 0 ≤ b - lo by omega) (show 0 ≤ m by omega)
      have a2 := Int.mul_nonneg (show 0 ≤ hi - b by omega) (show 0 ≤ m by omega)
      omega
    · cases h
  · split at h
    · rename_i hs
      cases h
      refine ⟨by show 0 < 0 - s; omega, by show 0 < 0 - s; omega, fun n m hm h0 h1 => ?_⟩
      unfold Clo
      have e1 : (b - hi) * m = - ((hi - b) * m) := by rw [← Int.neg_mul]; congr 1; omega
      have e2 : n * (0 - s) = - (s * n) := by rw [Int.zero_sub, Int.mul_neg, Int.mul_comm]
      show _ ↔ (b - hi) * m ≤ n * (0 - s) ∧ n * (0 - s) ≤ (b - lo) * m
      rw [e1, e2]
      omega
    · rename_i hs
      cases h
      refine ⟨by show 0 < s; omega, by show 0 < s; omega, fun n m hm h0 h1 => ?_⟩
      unfold Clo
      have e1 : (lo - b) * m = - ((b - lo) * m) := by rw [← Int.neg_mul]; congr 1; omega
      have e2 : n * s = s * n := Int.mul_comm ..
      show _ ↔ (lo - b) * m ≤ n * s ∧ n * s ≤ (hi - b) * m
      rw [e1, e2]
      omega
/-! ### a stroke and a square -/
/-- at n / m on the stroke, in the square (left and lower rim with it) -/
def Ins (x1 y1 x2 y2 sx sy n m : Int) : Prop :=
  (2 * sx - 1) * m ≤ 2 * x1 * m + 2 * (x2 - x1) * n ∧ 2 * x1 * m + 2 * (x2 - x1) * n < (2 * sx + 1) * m ∧ (2 * sy - 1) * m ≤ 2 * y1 * m + 2 * (y2 - y1) * n ∧ 2 * y1 * m + 2 * (y2 - y1) * n < (2 * sy + 1) * m
instance {x1 y1 x2 y2 sx sy n m : Int} : Decidable (Ins x1 y1 x2 y2 sx sy n m) := by unfold Ins; exact inferInstance
/-- the square of (sx, sy) holds a place of the stroke -/
def Thr (x1 y1 x2 y2 sx sy : Int) : Prop := ∃ n m : Int, 0 < m ∧ 0 ≤ n ∧ n ≤ m ∧ Ins x1 y1 x2 y2 sx sy n m
def goesL (x1 y1 x2 y2 sx sy : Int) : Bool :=
  match clip (2 * x1) (2 * (x2 - x1)) (2 * sx - 1) (2 * sx + 1), clip (2 * y1) (2 * (y2 - y1)) (2 * sy - 1) (2 * sy + 1) with
  | some (px, qx), some (py, qy) =>
    let c := later (0, 1) (later px py)
    let e := sooner (1, 1) (sooner qx qy)
    if e.1 * c.2 < c.1 * e.2 then false else decide (Ins x1 y1 x2 y2 sx sy c.1 c.2) || (decide (Ins x1 y1 x2 y2 sx sy e.1 e.2) || decide (Ins x1 y1 x2 y2 sx sy (c.1 * e.2 + e.1 * c.2) (2 * c.2 * e.2)))
  | _, _ => false
/-- a form in (n, m) -/
def lin (u v n m : Int) : Int := u * m + v * n
theorem lin_add (u v n m n' m' k k' : Int) : lin u v (k * n + k' * n') (k * m + k' * m') = k * lin u v n m + k' * lin u v n' m' := by
  unfold lin
  simp only [Int.mul_add, Int.mul_left_comm]
  omega
theorem ins_lin {x1 y1 x2 y2 sx sy n m : Int} : Ins x1 y1 x2 y2 sx sy n m ↔ 0 ≤ lin (2 * x1 - (2 * sx - 1)) (2 * (x2 - x1)) n m ∧ 0 < lin (2 * sx + 1 - 2 * x1) (-(2 * (x2 - x1))) n m ∧ 0 ≤ lin (2 * y1 - (2 * sy - 1)) (2 * (y2 - y1)) n m ∧ 0 < lin (2 * sy + 1 - 2 * y1) (-(2 * (y2 - y1))) n m := by
  unfold Ins lin
  rw [Int.sub_mul (2 * x1), Int.sub_mul (2 * sx + 1), Int.sub_mul (2 * y1), Int.sub_mul (2 * sy + 1), Int.neg_mul, Int.neg_mul]
  omega
theorem clo_lin {b s lo hi n m : Int} : Clo b s lo hi n m ↔ 0 ≤ lin (b - lo) s n m ∧ 0 ≤ lin (hi - b) (-s) n m := by
  unfold Clo lin
  rw [Int.neg_mul]
  omega
theorem mid_ge {u v c C e E : Int} (hC : 0 < C) (hE : 0 < E) (h1 : 0 ≤ lin u v c C) (h2 : 0 ≤ lin u v e E) : 0 ≤ lin u v (c * E + e * C) (2 * C * E) := by
  have e1 : c * E + e * C = E * c + C * e := by rw [Int.mul_comm c, Int.mul_comm e]
  have e2 : 2 * C * E = E * C + C * E := by rw [Int.mul_assoc, Int.mul_comm E C]; omega
  rw [e1, e2, lin_add]
  have a1 := Int.mul_nonneg (show 0 ≤ E by omega) h1
  have a2 := Int.mul_nonneg (show 0 ≤ C by omega) h2
  omega
/-- the middle of two unlike times is strictly within a form that is nowhere below nought and not nought at all -/
theorem mid_gt {u v c C e E n m : Int} (hC : 0 < C) (hE : 0 < E) (hne : c * E ≠ e * C) (h1 : 0 ≤ lin u v c C) (h2 : 0 ≤ lin u v e E) (h3 : 0 < lin u v n m) : 0 < lin u v (c * E + e * C) (2 * C * E) := by
  have e1 : c * E + e * C = E * c + C * e := by rw [Int.mul_comm c, Int.mul_comm e]
  have e2 : 2 * C * E = E * C + C * E := by rw [Int.mul_assoc, Int.mul_comm E C]; omega
  rw [e1, e2, lin_add]
  have a1 := Int.mul_nonneg (show 0 ≤ E by omega) h1
  have a2 := Int.mul_nonneg (show 0 ≤ C by omega) h2
  rcases Int.lt_or_eq_of_le h1 with z1 | z1
  · have := Int.mul_pos hE z1
    omega
  rcases Int.lt_or_eq_of_le h2 with z2 | z2
  · have := Int.mul_pos hC z2
    omega
  exfalso
  unfold lin at z1 z2 h3
  -- u C + v c = 0, u E + v e = 0
  have k1 : (u * C + v * c) * E = 0 := by rw [← z1]; exact Int.zero_mul _
  have k2 : (u * E + v * e) * C = 0 := by rw [← z2]; exact Int.zero_mul _
  have k3 : v * (c * E - e * C) = 0 := by
    rw [Int.mul_sub]
    rw [Int.add_mul] at k1 k2
    have f1 : u * C * E = u * E * C := by simp only [Int.mul_comm, Int.mul_left_comm]
    rw [f1] at k1
    have f2 : v * c * E = v * (c * E) := Int.mul_assoc ..
    have f3 : v * e * C = v * (e * C) := Int.mul_assoc ..
    rw [f2] at k1
    rw [f3] at k2
    omega
  have k4 : v = 0 := by
    rcases Int.mul_eq_zero.mp k3 with z | z
    · exact z
    · omega
  subst k4
  have k5 : u * C = 0 := by rw [Int.zero_mul] at z1; omega
  have k6 : u = 0 := by
    rcases Int.mul_eq_zero.mp k5 with z | z
    · exact z
    · omega
  subst k6
  rw [Int.zero_mul, Int.zero_mul] at h3
  omega
theorem lin_same {u v c C n m : Int} (h : n * C = c * m) : lin u v c C * m = lin u v n m * C := by
  unfold lin
  rw [Int.add_mul, Int.add_mul]
  have f1 : u * C * m = u * m * C := by simp only [Int.mul_comm, Int.mul_left_comm]
  have f2 : v * c * m = v * (c * m) := Int.mul_assoc ..
  have f3 : v * n * C = v * (n * C) := Int.mul_assoc ..
  rw [f1, f2, f3, h]
theorem same_ge {u v c C n m : Int} (hm : 0 < m) (hC : 0 < C) (h : n * C = c * m) (h1 : 0 ≤ lin u v n m) : 0 ≤ lin u v c C := by
  have e := lin_same (u := u) (v := v) h
  have a := Int.mul_nonneg h1 (show 0 ≤ C by omega)
  rcases Int.lt_or_le (lin u v c C) 0 with z | z
  · have := Int.mul_neg_of_neg_of_pos z hm
    omega
  · exact z
theorem same_gt {u v c C n m : Int} (hm : 0 < m) (hC : 0 < C) (h : n * C = c * m) (h1 : 0 < lin u v n m) : 0 < lin u v c C := by
  have e := lin_same (u := u) (v := v) h
  have a := Int.mul_pos h1 hC
  rcases Int.lt_or_le 0 (lin u v c C) with z | z
  · exact z
  · have := Int.mul_le_mul_of_nonneg_right z (show 0 ≤ m by omega)
    omega
theorem goesL_iff (x1 y1 x2 y2 sx sy : Int) : goesL x1 y1 x2 y2 sx sy = true ↔ Thr x1 y1 x2 y2 sx sy := by
  have cx : ∀ {n m : Int}, Ins x1 y1 x2 y2 sx sy n m → Clo (2 * x1) (2 * (x2 - x1)) (2 * sx - 1) (2 * sx + 1) n m ∧ Clo (2 * y1) (2 * (y2 - y1)) (2 * sy - 1) (2 * sy + 1) n m := fun {n m} h => by
    rw [ins_lin] at h
    rw [clo_lin, clo_lin]
    omega
  unfold goesL
  cases ex : clip (2 * x1) (2 * (x2 - x1)) (2 * sx - 1) (2 * sx + 1) with
  | none =>
    refine ⟨fun h => absurd h Bool.false_ne_true, fun ⟨n, m, hm, h0, h1, hi⟩ => ?_⟩
    exact absurd (cx hi).1 (clip_none ex hm)
  | some pq =>
    obtain ⟨px, qx⟩ := pq
    cases ey : clip (2 * y1) (2 * (y2 - y1)) (2 * sy - 1) (2 * sy + 1) with
    | none =>
      refine ⟨fun h => absurd h Bool.false_ne_true, fun ⟨n, m, hm, h0, h1, hi⟩ => ?_⟩
      exact absurd (cx hi).2 (clip_none ey hm)
    | some pq =>
      obtain ⟨py, qy⟩ := pq
      obtain ⟨ax, bx, hx⟩ := clip_some ex
      obtain ⟨ay, bay, hy⟩ := clip_some ey
      dsimp only
      have pc : 0 < (later (0, 1) (later px py)).2 := later_pos (by decide) (later_pos ax ay)
      have pe : 0 < (sooner (1, 1) (sooner qx qy)).2 := sooner_pos (by decide) (sooner_pos bx bay)
      have lc : ∀ {n m : Int}, 0 ≤ m → ((later (0, 1) (later px py)).1 * m ≤ n * (later (0, 1) (later px py)).2 ↔ 0 ≤ n ∧ px.1 * m ≤ n * px.2 ∧ py.1 * m ≤ n * py.2) := fun {n m} h => by
        rw [later_le (by decide) (later_pos ax ay) h, later_le ax ay h]
        show (0 * m ≤ n * 1 ∧ _) ↔ _
        rw [Int.zero_mul, Int.mul_one]
      have le : ∀ {n m : Int}, 0 ≤ m → (n * (sooner (1, 1) (sooner qx qy)).2 ≤ (sooner (1, 1) (sooner qx qy)).1 * m ↔ n ≤ m ∧ n * qx.2 ≤ qx.1 * m ∧ n * qy.2 ≤ qy.1 * m) := fun {n m} h => by
        rw [sooner_ge (by decide) (sooner_pos bx bay) h, sooner_ge bx bay h]
        show (n * 1 ≤ 1 * m ∧ _) ↔ _
        rw [Int.mul_one, Int.one_mul]
      generalize later (0, 1) (later px py) = c at *
      generalize sooner (1, 1) (sooner qx qy) = e at *
      obtain ⟨c, C⟩ := c
      obtain ⟨e, E⟩ := e
      dsimp only at *
      split
      · rename_i hlt
        refine ⟨fun h => absurd h Bool.false_ne_true, fun ⟨n, m, hm, h0, h1, hi⟩ => ?_⟩
        obtain ⟨k1, k2⟩ := cx hi
        have a := (hx n m hm h0 h1).mp k1
        have b := (hy n m hm h0 h1).mp k2
        have r1 := (lc (n := n) (m := m) (by omega)).mpr ⟨h0, a.1, b.1⟩
        have r2 := (le (n := n) (m := m) (by omega)).mpr ⟨h1, a.2, b.2⟩
        have := fr_trans hm (by omega) (by omega) r1 r2
        omega
      · rename_i hle
        have hce : c * E ≤ e * C := by omega
        -- both lie within, closed
        have lcc := (lc (n := c) (m := C) (by omega)).mp (Int.le_refl _)
        have lec := (le (n := c) (m := C) (by omega)).mp hce
        have lee := (le (n := e) (m := E) (by omega)).mp (Int.le_refl _)
        have lce := (lc (n := e) (m := E) (by omega)).mp hce
        have vc1 := (hx c C pc lcc.1 lec.1).mpr ⟨lcc.2.1, lec.2.1⟩
        have vc2 := (hy c C pc lcc.1 lec.1).mpr ⟨lcc.2.2, lec.2.2⟩
        have ve1 := (hx e E pe lce.1 lee.1).mpr ⟨lce.2.1, lee.2.1⟩
        have ve2 := (hy e E pe lce.1 lee.1).mpr ⟨lce.2.2, lee.2.2⟩
        rw [clo_lin] at vc1 vc2 ve1 ve2
        simp only [Bool.or_eq_true, decide_eq_true_eq]
        constructor
        · rintro (h | h | h)
          · exact ⟨c, C, pc, lcc.1, lec.1, h⟩
          · exact ⟨e, E, pe, lce.1, lee.1, h⟩
          · have z1 := Int.mul_nonneg lcc.1 (show 0 ≤ E by omega)
            have z2 := Int.mul_nonneg lce.1 (show 0 ≤ C by omega)
            have z3 := Int.mul_le_mul_of_nonneg_right lec.1 (show 0 ≤ E by omega)
            have z4 := Int.mul_le_mul_of_nonneg_right lee.1 (show 0 ≤ C by omega)
            have z5 : 2 * C * E = C * E + E * C := by rw [Int.mul_assoc, Int.mul_comm E C]; omega
            have z6 := Int.mul_pos pc pe
            have z7 : E * C = C * E := Int.mul_comm ..
            exact ⟨_, _, by omega, by omega, by omega, h⟩
        · rintro ⟨n, m, hm, h0, h1, hi⟩
          obtain ⟨k1, k2⟩ := cx hi
          have a := (hx n m hm h0 h1).mp k1
          have b := (hy n m hm h0 h1).mp k2
          have r1 := (lc (n := n) (m := m) (by omega)).mpr ⟨h0, a.1, b.1⟩
          have r2 := (le (n := n) (m := m) (by omega)).mpr ⟨h1, a.2, b.2⟩
          rw [ins_lin] at hi
          by_cases hne : c * E = e * C
          · left
            have r3 : n * C ≤ c * m := by
              have := fr_trans (a := n) (A := m) (b := e) (B := E) (c := c) (C := C) pe (by omega) (by omega) r2 (by omega)
              exact this
            have r4 : n * C = c * m := by omega
            rw [ins_lin]
            exact ⟨same_ge hm pc r4 hi.1, same_gt hm pc r4 hi.2.1, same_ge hm pc r4 hi.2.2.1, same_gt hm pc r4 hi.2.2.2⟩
          · right; right
            rw [ins_lin]
            exact ⟨mid_ge pc pe vc1.1 ve1.1, mid_gt pc pe hne vc1.2 ve1.2 hi.2.1, mid_ge pc pe vc2.1 ve2.1, mid_gt pc pe hne vc2.2 ve2.2 hi.2.2.2⟩
end DM

namespace DM
open PySem L2
/-! ### the law's own going through a square -/
def fr (H : Hp) (p : Addr) (a : Int × Int) : Prop := H p = some (.tup [.int a.1, .int a.2])
/-- numbers that stay small -/
def sm (k : Int) (a : Int × Int) : Prop := -k ≤ a.1 ∧ a.1 ≤ k ∧ -k ≤ a.2 ∧ a.2 ≤ k
def spClp : Sp := fun vs H Q _ => ∃ b s lo hi : Int, vs = [.int b, .int s, .int lo, .int hi] ∧
  (clip b s lo hi = none → ∀ (r : Addr) (H' : Hp), Same H H' → H' r = some (.lst []) → Q (.ref r) H') ∧
  (∀ p q : Int × Int, clip b s lo hi = some (p, q) → ∀ (r p1 p2 : Addr) (H' : Hp), Same H H' → H' r = some (.lst [.ref p1, .ref p2]) → fr H' p1 p → fr H' p2 q → Q (.ref r) H')
def spLater : Sp := fun vs H Q _ => ∃ (p1 p2 : Addr) (a b : Int × Int), vs = [.ref p1, .ref p2] ∧ fr H p1 a ∧ fr H p2 b ∧ sm 1000000000 a ∧ ∀ r : Addr, fr H r (later a b) → Q (.ref r) H
def spSooner : Sp := fun vs H Q _ => ∃ (p1 p2 : Addr) (a b : Int × Int), vs = [.ref p1, .ref p2] ∧ fr H p1 a ∧ fr H p2 b ∧ sm 1000000000 a ∧ ∀ r : Addr, fr H r (sooner a b) → Q (.ref r) H
def spInside : Sp := fun vs H Q _ => ∃ (ps pt pw : Addr) (x1 y1 x2 y2 sx sy n m : Int), vs = [.ref ps, .ref pw, .ref pt] ∧ Stk H ps x1 y1 x2 y2 ∧ H pw = some (.tup [.int n, .int m]) ∧ H pt = some (.tup [.int sx, .int sy]) ∧ (-1000 ≤ sx ∧ sx ≤ 1000 ∧ -1000 ≤ sy ∧ sy ≤ 1000) ∧ Q (.bl (decide (Ins x1 y1 x2 y2 sx sy n m))) H
def spGoes : Sp := fun vs H Q _ => ∃ (ps pt : Addr) (x1 y1 x2 y2 sx sy : Int), vs = [.ref ps, .ref pt] ∧ Stk H ps x1 y1 x2 y2 ∧ H pt = some (.tup [.int sx, .int sy]) ∧ (-1000 ≤ sx ∧ sx ≤ 1000 ∧ -1000 ≤ sy ∧ sy ≤ 1000) ∧ ∀ H', Same H H' → Q (.bl (goesL x1 y1 x2 y2 sx sy)) H'
theorem sm_later {a b : Int × Int} {k : Int} (h1 : sm k a) (h2 : sm k b) : sm k (later a b) := by
  unfold later
  split
  · exact h1
  · exact h2
theorem sm_sooner {a b : Int × Int} {k : Int} (h1 : sm k a) (h2 : sm k b) : sm k (sooner a b) := by
  unfold sooner
  split
  · exact h1
  · exact h2
theorem sm_clip {b s lo hi : Int} {p q : Int × Int} (h : clip b s lo hi = some (p, q)) (hb : -80 ≤ b ∧ b ≤ 80) (hs : -160 ≤ s ∧ s ≤ 160) (hl : -3000 ≤ lo ∧ lo ≤ 3000) (hh : -3000 ≤ hi ∧ hi ≤ 3000) : sm 10000 p ∧ sm 10000 q := by
  unfold clip at h
  split at h
  · split at h
    · cases h
      exact ⟨⟨by decide, by decide, by decide, by decide⟩, ⟨by decide, by decide, by decide, by decide⟩⟩
    · cases h
  · split at h
    · cases h
      exact ⟨⟨by show -10000 ≤ b - hi; omega, by show b - hi ≤ 10000; omega, by show -10000 ≤ 0 - s; omega, by show 0 - s ≤ 10000; omega⟩, ⟨by show -10000 ≤ b - lo; omega, by show b - lo ≤ 10000; omega, by show -10000 ≤ 0 - s; omega, by show 0 - s ≤ 10000; omega⟩⟩
    · cases h
      exact ⟨⟨by show -10000 ≤ lo - b; omega, by show lo - b ≤ 10000; omega, by show -10000 ≤ s; omega, by show s ≤ 10000; omega⟩, ⟨by show -10000 ≤ hi - b; omega, by show hi - b ≤ 10000; omega, by show -10000 ≤ s; omega, by show s ≤ 10000; omega⟩⟩
section
variable {P : Program} {w : World} {K : PySem.W.Frag} {mg : Str → Option Value} {base : Heap} {f : Addr} {fd : FuncData}
end
end DM

namespace DM
/-! ### a stroke goes through a box of squares -/
def InBox (x1 y1 x2 y2 lx ly gx gy n m : Int) : Prop :=
  (2 * lx - 1) * m ≤ 2 * x1 * m + 2 * (x2 - x1) * n ∧ 2 * x1 * m + 2 * (x2 - x1) * n < (2 * gx + 1) * m ∧ (2 * ly - 1) * m ≤ 2 * y1 * m + 2 * (y2 - y1) * n ∧ 2 * y1 * m + 2 * (y2 - y1) * n < (2 * gy + 1) * m
def Box (x1 y1 x2 y2 lx ly gx gy : Int) : Prop := ∃ n m : Int, 0 < m ∧ 0 ≤ n ∧ n ≤ m ∧ InBox x1 y1 x2 y2 lx ly gx gy n m
theorem box_thr {x1 y1 x2 y2 sx sy : Int} : Box x1 y1 x2 y2 sx sy sx sy ↔ Thr x1 y1 x2 y2 sx sy := Iff.rfl
theorem box_of_thr {x1 y1 x2 y2 lx ly gx gy sx sy : Int} (h : Thr x1 y1 x2 y2 sx sy) (h1 : lx ≤ sx) (h2 : sx ≤ gx) (h3 : ly ≤ sy) (h4 : sy ≤ gy) : Box x1 y1 x2 y2 lx ly gx gy := by
  obtain ⟨n, m, hm, h0, h1', a, b, c, d⟩ := h
  have e1 := Int.mul_le_mul_of_nonneg_right (show 2 * lx - 1 ≤ 2 * sx - 1 by omega) (show 0 ≤ m by omega)
  have e2 := Int.mul_le_mul_of_nonneg_right (show 2 * sx + 1 ≤ 2 * gx + 1 by omega) (show 0 ≤ m by omega)
  have e3 := Int.mul_le_mul_of_nonneg_right (show 2 * ly - 1 ≤ 2 * sy - 1 by omega) (show 0 ≤ m by omega)
  have e4 := Int.mul_le_mul_of_nonneg_right (show 2 * sy + 1 ≤ 2 * gy + 1 by omega) (show 0 ≤ m by omega)
  exact ⟨n, m, hm, h0, h1', by omega, by omega, by omega, by omega⟩
theorem conv_le {a b c n m : Int} (hn : 0 ≤ n) (hnm : n ≤ m) (h1 : a ≤ c) (h2 : b ≤ c) : 2 * a * m + 2 * (b - a) * n ≤ 2 * c * m := by
  have e1 := Int.mul_nonneg (show 0 ≤ c - a by omega) (show 0 ≤ m - n by omega)
  have e2 := Int.mul_nonneg (show 0 ≤ c - b by omega) hn
  simp only [Int.sub_mul, Int.mul_sub, Int.mul_assoc] at *
  omega
theorem conv_ge {a b c n m : Int} (hn : 0 ≤ n) (hnm : n ≤ m) (h1 : c ≤ a) (h2 : c ≤ b) : 2 * c * m ≤ 2 * a * m + 2 * (b - a) * n := by
  have e1 := Int.mul_nonneg (show 0 ≤ a - c by omega) (show 0 ≤ m - n by omega)
  have e2 := Int.mul_nonneg (show 0 ≤ b - c by omega) hn
  simp only [Int.sub_mul, Int.mul_sub, Int.mul_assoc] at *
  omega
theorem out_low {a b l n m : Int} (hm : 0 < m) (hn : 0 ≤ n) (hnm : n ≤ m) (h1 : a < l) (h2 : b < l) (h : (2 * l - 1) * m ≤ 2 * a * m + 2 * (b - a) * n) : False := by
  have e := conv_le hn hnm (show a ≤ l - 1 by omega) (show b ≤ l - 1 by omega)
  have f : 2 * (l - 1) * m = (2 * l - 1) * m - m := by simp only [Int.sub_mul, Int.mul_sub]; omega
  omega
theorem out_high {a b g n m : Int} (hm : 0 < m) (hn : 0 ≤ n) (hnm : n ≤ m) (h1 : g < a) (h2 : g < b) (h : 2 * a * m + 2 * (b - a) * n < (2 * g + 1) * m) : False := by
  have e := conv_ge hn hnm (show g + 1 ≤ a by omega) (show g + 1 ≤ b by omega)
  have f : 2 * (g + 1) * m = (2 * g + 1) * m + m := by simp only [Int.add_mul, Int.mul_add]; omega
  omega
/-- one number between both ends and within the bounds -/
theorem mid_some {a b l g : Int} (h1 : ¬ (a < l ∧ b < l)) (h2 : ¬ (g < a ∧ g < b)) (hlg : l ≤ g) : ∃ c n m : Int, 0 < m ∧ 0 ≤ n ∧ n ≤ m ∧ 2 * a * m + 2 * (b - a) * n = 2 * c * m ∧ l ≤ c ∧ c ≤ g := by
  by_cases e : l ≤ a ∧ a ≤ g
  · exact ⟨a, 0, 1, by decide, by decide, by decide, by omega, by omega, by omega⟩
  · by_cases c : a < l
    · refine ⟨l, l - a, b - a, by omega, by omega, by omega, ?_, by omega, by omega⟩
      have : 2 * (b - a) * (l - a) = 2 * (l - a) * (b - a) := by rw [Int.mul_assoc, Int.mul_assoc, Int.mul_comm (b - a)]
      rw [this, ← Int.add_mul]
      congr 1
      omega
    · refine ⟨g, a - g, a - b, by omega, by omega, by omega, ?_, by omega, by omega⟩
      have : 2 * (b - a) * (a - g) = 2 * (g - a) * (a - b) := by
        have z : (b - a) * (a - g) = (g - a) * (a - b) := by rw [← Int.neg_mul_neg (b - a), Int.mul_comm]; congr 1 <;> omega
        rw [Int.mul_assoc, z, Int.mul_assoc]
      rw [this, ← Int.add_mul]
      congr 1
      omega
theorem half_in {c l g m V : Int} (hm : 0 < m) (e : V = 2 * c * m) (h1 : l ≤ c) (h2 : c ≤ g) : (2 * l - 1) * m ≤ V ∧ V < (2 * g + 1) * m := by
  have e1 := Int.mul_le_mul_of_nonneg_right (show 2 * l - 1 ≤ 2 * c - 1 by omega) (show 0 ≤ m by omega)
  have e2 := Int.mul_le_mul_of_nonneg_right (show 2 * c + 1 ≤ 2 * g + 1 by omega) (show 0 ≤ m by omega)
  rw [Int.sub_mul (2 * c)] at e1
  rw [Int.add_mul (2 * c)] at e2
  omega
/-- a bound from below, from above, by moments -/
def LoOk (v W m : Int) : Prop := (∃ k : Int, v = 2 * k ∧ 2 * k * m ≤ W) ∨ (∃ k : Int, v = 2 * k + 1 ∧ 2 * k * m < W)
def HiOk (v W m : Int) : Prop := (∃ k : Int, v = 2 * k ∧ W ≤ 2 * k * m) ∨ (∃ k : Int, v = 2 * k - 1 ∧ W < 2 * k * m)
theorem lo_hi {v v' W m : Int} (hm : 0 < m) (h : LoOk v W m) (h' : HiOk v' W m) : v ≤ v' := by
  have lt : ∀ a b : Int, a * m < b * m → a < b := fun a b z => Int.lt_of_mul_lt_mul_right z (by omega)
  have le : ∀ a b : Int, a * m ≤ b * m → a ≤ b := fun a b z => Int.le_of_mul_le_mul_right z hm
  rcases h with ⟨k, rfl, h⟩ | ⟨k, rfl, h⟩ <;> rcases h' with ⟨j, rfl, h'⟩ | ⟨j, rfl, h'⟩
  · have := le _ _ (Int.le_trans h h'); omega
  · have := lt _ _ (Int.lt_of_le_of_lt h h'); omega
  · have := lt _ _ (Int.lt_of_lt_of_le h h'); omega
  · have := lt _ _ (Int.lt_trans h h'); omega
def inM (a b t l g : Int) : Int := if a < b then 2 * t * (2 * (l - a) - 1) else 1 - 2 * t * (2 * (g - a) + 1)
def outM (a b t l g : Int) : Int := if a < b then 2 * t * (2 * (g - a) + 1) - 1 else -2 * t * (2 * (l - a) - 1)
theorem axis_up {a b t l g n m : Int} (hm : 0 < m) (ht : 0 < t) (hab : a < b) : ((2 * l - 1) * m ≤ 2 * a * m + 2 * (b - a) * n ↔ 2 * (t * (2 * (l - a) - 1)) * m ≤ 4 * (b - a) * t * n) ∧ (2 * a * m + 2 * (b - a) * n < (2 * g + 1) * m ↔ 4 * (b - a) * t * n < 2 * (t * (2 * (g - a) + 1)) * m) := by
  have e1 : 2 * (t * (2 * (l - a) - 1)) * m = (2 * t) * ((2 * l - 1) * m - 2 * a * m) := by
    rw [← Int.sub_mul, ← Int.mul_assoc, ← Int.mul_assoc]; congr 2; omega
  have e2 : 4 * (b - a) * t * n = (2 * t) * (2 * (b - a) * n) := by
    rw [show 4 * (b - a) * t = 2 * t * (2 * (b - a)) by rw [Int.mul_assoc, Int.mul_assoc, Int.mul_left_comm t, ← Int.mul_assoc 2 2, Int.mul_comm t]; rfl]
    rw [Int.mul_assoc]
  have e3 : 2 * (t * (2 * (g - a) + 1)) * m = (2 * t) * ((2 * g + 1) * m - 2 * a * m) := by
    rw [← Int.sub_mul, ← Int.mul_assoc, ← Int.mul_assoc]; congr 2; omega
  rw [e1, e2, e3]
  have le : ∀ x y : Int, (2 * t) * x ≤ (2 * t) * y ↔ x ≤ y := fun x y => ⟨fun z => Int.le_of_mul_le_mul_left z (by omega), fun z => Int.mul_le_mul_of_nonneg_left z (by omega)⟩
  have lt : ∀ x y : Int, (2 * t) * x < (2 * t) * y ↔ x < y := fun x y => ⟨fun z => Int.lt_of_mul_lt_mul_left z (by omega), fun z => Int.mul_lt_mul_of_pos_left z (by omega)⟩
  rw [le, lt]
  omega
theorem axis_down {a b t l g n m : Int} (hm : 0 < m) (ht : 0 < t) (hab : b < a) : ((2 * l - 1) * m ≤ 2 * a * m + 2 * (b - a) * n ↔ 4 * (a - b) * t * n ≤ 2 * (-(t * (2 * (l - a) - 1))) * m) ∧ (2 * a * m + 2 * (b - a) * n < (2 * g + 1) * m ↔ 2 * (-(t * (2 * (g - a) + 1))) * m < 4 * (a - b) * t * n) := by
  have e1 : 2 * (-(t * (2 * (l - a) - 1))) * m = (2 * t) * (2 * a * m - (2 * l - 1) * m) := by
    rw [← Int.sub_mul, ← Int.mul_assoc]; congr 1; rw [← Int.mul_neg, ← Int.mul_assoc]; congr 1; omega
  have e2 : 4 * (a - b) * t * n = (2 * t) * (-(2 * (b - a) * n)) := by
    rw [show 4 * (a - b) * t = 2 * t * (2 * (a - b)) by rw [Int.mul_assoc, Int.mul_assoc, Int.mul_left_comm t, ← Int.mul_assoc 2 2, Int.mul_comm t]; rfl]
    rw [Int.mul_assoc]; congr 1; rw [← Int.neg_mul]; congr 1; omega
  have e3 : 2 * (-(t * (2 * (g - a) + 1))) * m = (2 * t) * (2 * a * m - (2 * g + 1) * m) := by
    rw [← Int.sub_mul, ← Int.mul_assoc]; congr 1; rw [← Int.mul_neg, ← Int.mul_assoc]; congr 1; omega
  rw [e1, e2, e3]
  have le : ∀ x y : Int, (2 * t) * x ≤ (2 * t) * y ↔ x ≤ y := fun x y => ⟨fun z => Int.le_of_mul_le_mul_left z (by omega), fun z => Int.mul_le_mul_of_nonneg_left z (by omega)⟩
  have lt : ∀ x y : Int, (2 * t) * x < (2 * t) * y ↔ x < y := fun x y => ⟨fun z => Int.lt_of_mul_lt_mul_left z (by omega), fun z => Int.mul_lt_mul_of_pos_left z (by omega)⟩
  rw [le, lt]
  omega
def aw (a b : Int) : Int := if b - a < 0 then -(b - a) else b - a
theorem aw_up {a b : Int} (h : a < b) : aw a b = b - a := by unfold aw; rw [if_neg (by omega)]
theorem aw_down {a b : Int} (h : b < a) : aw a b = a - b := by unfold aw; rw [if_pos (by omega)]; omega
theorem axis_bounds {a b t l g n m : Int} (hm : 0 < m) (ht : 0 < t) (hab : a ≠ b) (h1 : (2 * l - 1) * m ≤ 2 * a * m + 2 * (b - a) * n) (h2 : 2 * a * m + 2 * (b - a) * n < (2 * g + 1) * m) : LoOk (inM a b t l g) (4 * aw a b * t * n) m ∧ HiOk (outM a b t l g) (4 * aw a b * t * n) m := by
  unfold inM outM
  rcases Int.lt_or_lt_of_ne hab with c | c
  · rw [if_pos c, if_pos c, aw_up c]
    have e := axis_up (t := t) (l := l) (g := g) (n := n) hm ht c
    exact ⟨.inl ⟨t * (2 * (l - a) - 1), by rw [Int.mul_assoc], e.1.mp h1⟩, .inr ⟨t * (2 * (g - a) + 1), by rw [Int.mul_assoc], e.2.mp h2⟩⟩
  · rw [if_neg (by omega), if_neg (by omega), aw_down c]
    have e := axis_down (t := t) (l := l) (g := g) (n := n) hm ht c
    exact ⟨.inr ⟨-(t * (2 * (g - a) + 1)), by rw [Int.mul_assoc 2 t]; omega, e.2.mp h2⟩, .inl ⟨-(t * (2 * (l - a) - 1)), by rw [Int.mul_assoc, Int.neg_mul]; omega, e.1.mp h1⟩⟩
theorem axis_of {a b t l g n m : Int} (ht : 0 < t) (hab : a ≠ b) (em : m = 4 * aw a b * t) (h1 : inM a b t l g ≤ n) (h2 : n ≤ outM a b t l g) : (2 * l - 1) * m ≤ 2 * a * m + 2 * (b - a) * n ∧ 2 * a * m + 2 * (b - a) * n < (2 * g + 1) * m := by
  unfold inM at h1
  unfold outM at h2
  have hm : 0 < m := by
    rw [em]
    refine Int.mul_pos (Int.mul_pos (by decide) ?_) ht
    unfold aw
    split <;> omega
  have le : ∀ x y : Int, x * m ≤ m * y ↔ x ≤ y := fun x y => by rw [Int.mul_comm x]; exact ⟨fun z => Int.le_of_mul_le_mul_left z hm, fun z => Int.mul_le_mul_of_nonneg_left z (by omega)⟩
  have ge : ∀ x y : Int, m * y ≤ x * m ↔ y ≤ x := fun x y => by rw [Int.mul_comm x]; exact ⟨fun z => Int.le_of_mul_le_mul_left z hm, fun z => Int.mul_le_mul_of_nonneg_left z (by omega)⟩
  have lt : ∀ x y : Int, m * y < x * m ↔ y < x := fun x y => by rw [Int.mul_comm x]; exact ⟨fun z => Int.lt_of_mul_lt_mul_left z (by omega), fun z => Int.mul_lt_mul_of_pos_left z hm⟩
  have gt : ∀ x y : Int, x * m < m * y ↔ x < y := fun x y => by rw [Int.mul_comm x]; exact ⟨fun z => Int.lt_of_mul_lt_mul_left z (by omega), fun z => Int.mul_lt_mul_of_pos_left z hm⟩
  rcases Int.lt_or_lt_of_ne hab with c | c
  · rw [if_pos c, Int.mul_assoc] at h1 h2
    rw [aw_up c] at em
    have e := axis_up (t := t) (l := l) (g := g) (n := n) hm ht c
    rw [e.1, e.2, ← em, le, lt]
    omega
  · rw [if_neg (by omega), Int.mul_assoc] at h1 h2
    rw [aw_down c] at em
    have e := axis_down (t := t) (l := l) (g := g) (n := n) hm ht c
    rw [e.1, e.2, ← em, ge, gt]
    omega
def mx2 (i j : Int) : Int := if j > i then j else i
def mn2 (i j : Int) : Int := if j < i then j else i
theorem mx2_lt {i j k : Int} : mx2 i j < k ↔ i < k ∧ j < k := by unfold mx2; split <;> omega
theorem lt_mn2 {i j k : Int} : k < mn2 i j ↔ k < i ∧ k < j := by unfold mn2; split <;> omega
def mx3 (i j k : Int) : Int := mx2 (mx2 i j) k
def mn3 (i j k : Int) : Int := mn2 (mn2 i j) k
theorem le_mx3 (i j k : Int) : i ≤ mx3 i j k ∧ j ≤ mx3 i j k ∧ k ≤ mx3 i j k := by unfold mx3 mx2; split <;> split <;> omega
theorem mn3_le (i j k : Int) : mn3 i j k ≤ i ∧ mn3 i j k ≤ j ∧ mn3 i j k ≤ k := by unfold mn3 mn2; split <;> split <;> omega
theorem mx3_le_mn3 {a b c d e f : Int} (h1 : a ≤ d ∧ a ≤ e ∧ a ≤ f) (h2 : b ≤ d ∧ b ≤ e ∧ b ≤ f) (h3 : c ≤ d ∧ c ≤ e ∧ c ≤ f) : mx3 a b c ≤ mn3 d e f := by unfold mx3 mx2 mn3 mn2; split <;> split <;> split <;> split <;> omega
/-- the program's own passing of a box -/
def passL (x1 y1 x2 y2 lx ly gx gy : Int) : Bool :=
  if mx2 x1 x2 < lx ∨ gx < mn2 x1 x2 then false else if mx2 y1 y2 < ly ∨ gy < mn2 y1 y2 then false else
  if aw x1 x2 = 0 ∨ aw y1 y2 = 0 then true else
  decide (mx3 0 (inM x1 x2 (aw y1 y2) lx gx) (inM y1 y2 (aw x1 x2) ly gy) ≤ mn3 (4 * aw x1 x2 * aw y1 y2) (outM x1 x2 (aw y1 y2) lx gx) (outM y1 y2 (aw x1 x2) ly gy))
theorem aw_zero {a b : Int} : aw a b = 0 ↔ a = b := by unfold aw; split <;> omega
theorem aw_pos {a b : Int} (h : a ≠ b) : 0 < aw a b := by unfold aw; split <;> omega
theorem passL_iff {x1 y1 x2 y2 lx ly gx gy : Int} (hx : lx ≤ gx) (hy : ly ≤ gy) : passL x1 y1 x2 y2 lx ly gx gy = true ↔ Box x1 y1 x2 y2 lx ly gx gy := by
  unfold passL
  split
  · rename_i c
    rw [mx2_lt, lt_mn2] at c
    refine ⟨fun z => (nomatch z), fun ⟨n, m, hm, h0, h1, a, b, _, _⟩ => ?_⟩
    rcases c with c | c
    · exact (out_low hm h0 h1 c.1 c.2 a).elim
    · exact (out_high hm h0 h1 c.1 c.2 b).elim
  rename_i cx
  rw [mx2_lt, lt_mn2] at cx
  split
  · rename_i c
    rw [mx2_lt, lt_mn2] at c
    refine ⟨fun z => (nomatch z), fun ⟨n, m, hm, h0, h1, _, _, a, b⟩ => ?_⟩
    rcases c with c | c
    · exact (out_low hm h0 h1 c.1 c.2 a).elim
    · exact (out_high hm h0 h1 c.1 c.2 b).elim
  rename_i cy
  rw [mx2_lt, lt_mn2] at cy
  split
  · rename_i c
    refine ⟨fun _ => ?_, fun _ => rfl⟩
    rw [aw_zero, aw_zero] at c
    rcases c with c | c
    · subst c
      obtain ⟨d, n, m, hm, h0, h1, e, e1, e2⟩ := mid_some (a := y1) (b := y2) (l := ly) (g := gy) (by omega) (by omega) hy
      have i1 := half_in hm e e1 e2
      have i2 := half_in (l := lx) (g := gx) (c := x1) (V := 2 * x1 * m + 2 * (x1 - x1) * n) hm (by rw [Int.sub_self, Int.mul_zero, Int.zero_mul, Int.add_zero]) (by omega) (by omega)
      exact ⟨n, m, hm, h0, h1, i2.1, i2.2, i1.1, i1.2⟩
    · subst c
      obtain ⟨d, n, m, hm, h0, h1, e, e1, e2⟩ := mid_some (a := x1) (b := x2) (l := lx) (g := gx) (by omega) (by omega) hx
      have i1 := half_in hm e e1 e2
      have i2 := half_in (l := ly) (g := gy) (c := y1) (V := 2 * y1 * m + 2 * (y1 - y1) * n) hm (by rw [Int.sub_self, Int.mul_zero, Int.zero_mul, Int.add_zero]) (by omega) (by omega)
      exact ⟨n, m, hm, h0, h1, i1.1, i1.2, i2.1, i2.2⟩
  · rename_i c
    rw [aw_zero, aw_zero] at c
    have nx : x1 ≠ x2 := fun z => c (.inl z)
    have ny : y1 ≠ y2 := fun z => c (.inr z)
    have px := aw_pos nx
    have py := aw_pos ny
    rw [decide_eq_true_eq]
    have eW : 4 * aw y1 y2 * aw x1 x2 = 4 * aw x1 x2 * aw y1 y2 := by rw [Int.mul_assoc, Int.mul_comm (aw y1 y2), Int.mul_assoc]
    have pW : 0 < 4 * aw x1 x2 * aw y1 y2 := Int.mul_pos (Int.mul_pos (by decide) px) py
    constructor
    · intro h
      have a1 := le_mx3 0 (inM x1 x2 (aw y1 y2) lx gx) (inM y1 y2 (aw x1 x2) ly gy)
      have a2 := mn3_le (4 * aw x1 x2 * aw y1 y2) (outM x1 x2 (aw y1 y2) lx gx) (outM y1 y2 (aw x1 x2) ly gy)
      have k1 := axis_of (n := mx3 0 (inM x1 x2 (aw y1 y2) lx gx) (inM y1 y2 (aw x1 x2) ly gy)) py nx rfl a1.2.1 (by omega)
      have k2 := axis_of (n := mx3 0 (inM x1 x2 (aw y1 y2) lx gx) (inM y1 y2 (aw x1 x2) ly gy)) px ny eW.symm a1.2.2 (by omega)
      exact ⟨_, _, pW, a1.1, by omega, k1.1, k1.2, k2.1, k2.2⟩
    · rintro ⟨n, m, hm, h0, h1, a, b, c, d⟩
      have k1 := axis_bounds (t := aw y1 y2) hm py nx a b
      have k2 := axis_bounds (t := aw x1 x2) hm px ny c d
      rw [eW] at k2
      have l0 : LoOk 0 (4 * aw x1 x2 * aw y1 y2 * n) m := .inl ⟨0, rfl, by rw [Int.mul_zero, Int.zero_mul]; exact Int.mul_nonneg (by omega) h0⟩
      have h4 : HiOk (4 * aw x1 x2 * aw y1 y2) (4 * aw x1 x2 * aw y1 y2 * n) m := .inl ⟨2 * aw x1 x2 * aw y1 y2, by simp only [Int.mul_assoc]; omega, by
        rw [show 2 * (2 * aw x1 x2 * aw y1 y2) = 4 * aw x1 x2 * aw y1 y2 by simp only [Int.mul_assoc]; omega]
        exact Int.mul_le_mul_of_nonneg_left h1 (by omega)⟩
      exact mx3_le_mn3 ⟨lo_hi hm l0 h4, lo_hi hm l0 k1.2, lo_hi hm l0 k2.2⟩ ⟨lo_hi hm k1.1 h4, lo_hi hm k1.1 k1.2, lo_hi hm k1.1 k2.2⟩ ⟨lo_hi hm k2.1 h4, lo_hi hm k2.1 k1.2, lo_hi hm k2.1 k2.2⟩
theorem passL_goes (x1 y1 x2 y2 sx sy : Int) : passL x1 y1 x2 y2 sx sy sx sy = goesL x1 y1 x2 y2 sx sy :=
  Bool.eq_iff_iff.mpr ((passL_iff (Int.le_refl _) (Int.le_refl _)).trans (box_thr.trans (goesL_iff ..).symm))
end DM

namespace DM
open PySem L2
/-! ### the program's own strokes and squares -/
theorem nu_mx2 (i j : Int) : nuMax2 (.int i) (.int j) = some (.int (mx2 i j)) := by
  show some (if decide (i < j) = true then V.int j else V.int i) = _
  unfold mx2
  by_cases c : i < j
  · rw [if_pos (decide_eq_true c), if_pos c]
  · rw [if_neg (by rw [decide_eq_false c]; decide), if_neg c]
theorem nu_mn2 (i j : Int) : nuMin2 (.int i) (.int j) = some (.int (mn2 i j)) := by
  show some (if decide (j < i) = true then V.int j else V.int i) = _
  unfold mn2
  by_cases c : j < i
  · rw [if_pos (decide_eq_true c), if_pos c]
  · rw [if_neg (by rw [decide_eq_false c]; decide), if_neg c]
theorem nu_mx3 (i j k : Int) : nuMax3 (.int i) (.int j) (.int k) = some (.int (mx3 i j k)) := by
  unfold nuMax3 mx3
  rw [nu_mx2]
  exact nu_mx2 _ _
theorem nu_mn3 (i j k : Int) : nuMin3 (.int i) (.int j) (.int k) = some (.int (mn3 i j k)) := by
  unfold nuMin3 mn3
  rw [nu_mn2]
  exact nu_mn2 _ _
def spMoments : Sp := fun vs H Q _ => ∃ a b t l g : Int, vs = [.int a, .int b, .int t, .int l, .int g] ∧ 0 ≤ t ∧ t ≤ 1000 ∧ ∀ (r : Addr) (H' : Hp), Same H H' → H' r = some (.tup [.int (inM a b t l g), .int (outM a b t l g)]) → Q (.ref r) H'
def spPasses : Sp := fun vs H Q _ => ∃ (ps pl pg : Addr) (x1 y1 x2 y2 lx ly gx gy : Int), vs = [.ref ps, .ref pl, .ref pg] ∧ Stk H ps x1 y1 x2 y2 ∧ H pl = some (.tup [.int lx, .int ly]) ∧ H pg = some (.tup [.int gx, .int gy]) ∧ ∀ H', Same H H' → Q (.bl (passL x1 y1 x2 y2 lx ly gx gy)) H'
theorem aw_small {a b : Int} (h1 : -40 ≤ a ∧ a ≤ 40) (h2 : -40 ≤ b ∧ b ≤ 40) : 0 ≤ aw a b ∧ aw a b ≤ 80 := by unfold aw; split <;> omega
section
variable {P : Program} {w : World} {K : PySem.W.Frag} {mg : Str → Option Value} {base : Heap} {f : Addr} {fd : FuncData}
abbrev s_moments : Stmt := top 14
theorem sc_moments : FnScope ["start", "end", "unit", "least", "greatest", "lower", "upper"] ["start", "end", "unit", "least", "greatest"] (defScope s_moments) := ⟨rfl, rfl, rfl, by decide +kernel, rfl, by decide +kernel, by decide +kernel⟩
theorem ok_moments (F : Fun K "moments" "moments" s_moments f fd) : FnOk P w K mg base CX0 1 f fd ["start", "end", "unit", "least", "greatest"] spMoments := by
  refine F.ok sc_moments (fun vs H Q E h => ?_) (fun cdv A outer s H vs Q E hr h => ?_)
  · obtain ⟨a, b, t, l, g, rfl, _⟩ := h
    rfl
  obtain ⟨a, b, t, l, g, rfl, t0, t1, q⟩ := h
  refine ⟨_, (pss_cons (ps_par (i := 5) (j := 6) (by rfl) sc_moments.nd rfl rfl (by decide) rfl rfl (pa_cons (pe_op op_sub (pe_op op_mul pe_int (pe_op op_sub (pv 3) (pv 0))) pe_int) (pa_cons (pe_op op_add (pe_op op_mul pe_int (pe_op op_sub (pv 4) (pv 0))) pe_int) pa_nil)) (by rfl))
    (pss_cons (ps_if (pt_cmpR op_lt (pv 0) (pv 1) (nomark _))
    (pss_one (ps_ret (pe_tup (pa_cons (pe_op op_mul (pe_op op_mul pe_int (pv 2)) (pv 5)) (pa_cons (pe_op op_sub (pe_op op_mul (pe_op op_mul pe_int (pv 2)) (pv 6)) pe_int) pa_nil)))))
    pss_nil)
    (pss_one (ps_ret (pe_tup (pa_cons (pe_op op_sub pe_int (pe_op op_mul (pe_op op_mul pe_int (pv 2)) (pv 6))) (pa_cons (pe_op op_mul (pe_op op_mul (pe_un un_neg pe_int) (pv 2)) (pv 5)) pa_nil))))))), ?_⟩
  unfold inM outM at q
  refine ⟨_, rfl, _, rfl, _, _, rfl, rfl, _, _, rfl, rfl, .inl ⟨by decide, by decide⟩, _, _, rfl, rfl, ?_⟩
  refine ⟨_, rfl, _, rfl, _, _, rfl, rfl, _, _, rfl, rfl, .inl ⟨by decide, by decide⟩, _, _, rfl, rfl, _, _, rfl, ?_⟩
  refine ⟨_, rfl, _, rfl, _, _, rfl, rfl, _, rfl, ?_⟩
  by_cases c : a < b
  · refine iteDT c ?_
    rw [if_pos c, if_pos c] at q
    refine ⟨_, rfl, _, _, rfl, rfl, .inl ⟨by decide, by decide⟩, _, rfl, _, _, rfl, rfl, .inl ⟨by omega, by omega⟩, ?_⟩
    refine ⟨_, rfl, _, _, rfl, rfl, .inl ⟨by decide, by decide⟩, _, rfl, _, _, rfl, rfl, .inl ⟨by omega, by omega⟩, _, _, rfl, rfl, ?_⟩
    exact ⟨sz (by decide : 2 ≤ 100000), fun r nr => q r _ (same_new nr _) upd_same⟩
  · refine iteDF c ?_
    rw [if_neg c, if_neg c] at q
    refine ⟨_, rfl, _, _, rfl, rfl, .inl ⟨by decide, by decide⟩, _, rfl, _, _, rfl, rfl, .inl ⟨by omega, by omega⟩, _, _, rfl, rfl, ?_⟩
    refine ⟨_, rfl, _, rfl, _, _, rfl, rfl, .inl ⟨by decide, by decide⟩, _, rfl, _, _, rfl, rfl, .inl ⟨by omega, by omega⟩, ?_⟩
    exact ⟨sz (by decide : 2 ≤ 100000), fun r nr => q r _ (same_new nr _) upd_same⟩
abbrev s_passes : Stmt := top 13
theorem sc_passes : FnScope ["stroke", "least", "greatest", "x1", "y1", "x2", "y2", "wide", "tall", "in_x", "out_x", "in_y", "out_y"] ["stroke", "least", "greatest"] (defScope s_passes) := ⟨rfl, rfl, rfl, by decide +kernel, rfl, by decide +kernel, by decide +kernel⟩
theorem ok_passes (B : Blt mg) (c_moments : Cal P w K mg base 1 "moments" ["start", "end", "unit", "least", "greatest"] spMoments) (F : Fun K "passes" "passes" s_passes f fd) : FnOk P w K mg base CX0 2 f fd ["stroke", "least", "greatest"] spPasses := by
  refine F.ok sc_passes (fun vs H Q E h => ?_) (fun cdv A outer s H vs Q E hr h => ?_)
  · obtain ⟨ps, pl, pg, x1, y1, x2, y2, lx, ly, gx, gy, rfl, _⟩ := h
    rfl
  obtain ⟨ps, pl, pg, x1, y1, x2, y2, lx, ly, gx, gy, rfl, hst, hl, hg, q⟩ := h
  have bs := hst.2.1
  refine ⟨_, (pss_cons (ps_asg (pv 0) (pg_tup rfl (pgs_cons (pg_name (i := 3) sc_passes.nd rfl (Or.inl rfl)) (pgs_cons (pg_name (i := 4) sc_passes.nd rfl (Or.inl rfl)) (pgs_cons (pg_name (i := 5) sc_passes.nd rfl (Or.inl rfl)) (pgs_cons (pg_name (i := 6) sc_passes.nd rfl (Or.inl rfl)) pgs_nil))))))
    (pss_cons (ps_if (PW.pt (pw_or (pt_cmpR op_lt (pe_callB (call_max2 rfl) rfl B.max bt_max (pa_cons (pv 3) (pa_cons (pv 5) pa_nil))) (pe_ix ix_tup (pv 1) pe_int (fun _ _ => rfl)) (nomark _)) (pw_or1 (pt_cmpR op_lt (pe_ix ix_tup (pv 2) pe_int (fun _ _ => rfl)) (pe_callB (call_min2 rfl) rfl B.min bt_min (pa_cons (pv 3) (pa_cons (pv 5) pa_nil))) (nomark _)))))
    (pss_one (ps_ret pe_bl))
    pss_nil)
    (pss_cons (ps_if (PW.pt (pw_or (pt_cmpR op_lt (pe_callB (call_max2 rfl) rfl B.max bt_max (pa_cons (pv 4) (pa_cons (pv 6) pa_nil))) (pe_ix ix_tup (pv 1) pe_int (fun _ _ => rfl)) (nomark _)) (pw_or1 (pt_cmpR op_lt (pe_ix ix_tup (pv 2) pe_int (fun _ _ => rfl)) (pe_callB (call_min2 rfl) rfl B.min bt_min (pa_cons (pv 4) (pa_cons (pv 6) pa_nil))) (nomark _)))))
    (pss_one (ps_ret pe_bl))
    pss_nil)
    (pss_cons (ps_par (i := 7) (j := 8) (by rfl) sc_passes.nd rfl rfl (by decide) rfl rfl (pa_cons (pe_callB call_abs rfl B.abs bt_abs (pa_cons (pe_op op_sub (pv 5) (pv 3)) pa_nil)) (pa_cons (pe_callB call_abs rfl B.abs bt_abs (pa_cons (pe_op op_sub (pv 6) (pv 4)) pa_nil)) pa_nil)) (by rfl))
    (pss_cons (ps_if (PW.pt (pw_or (pt_cmpR op_eq (pv 7) pe_int (nomark _)) (pw_or1 (pt_cmpR op_eq (pv 8) pe_int (nomark _)))))
    (pss_one (ps_ret pe_bl))
    pss_nil)
    (pss_cons (ps_asg (pe_cal c_moments hr (pa_cons (pv 3) (pa_cons (pv 5) (pa_cons (pv 8) (pa_cons (pe_ix ix_tup (pv 1) pe_int (fun _ _ => rfl)) (pa_cons (pe_ix ix_tup (pv 2) pe_int (fun _ _ => rfl)) pa_nil)))))) (pg_tup rfl (pgs_cons (pg_name (i := 9) sc_passes.nd rfl (Or.inl rfl)) (pgs_cons (pg_name (i := 10) sc_passes.nd rfl (Or.inl rfl)) pgs_nil))))
    (pss_cons (ps_asg (pe_cal c_moments hr (pa_cons (pv 4) (pa_cons (pv 6) (pa_cons (pv 7) (pa_cons (pe_ix ix_tup (pv 1) pe_int (fun _ _ => rfl)) (pa_cons (pe_ix ix_tup (pv 2) pe_int (fun _ _ => rfl)) pa_nil)))))) (pg_tup rfl (pgs_cons (pg_name (i := 11) sc_passes.nd rfl (Or.inl rfl)) (pgs_cons (pg_name (i := 12) sc_passes.nd rfl (Or.inl rfl)) pgs_nil))))
    (pss_one (ps_ret (pe_cmpR op_le (pe_callB (call_max3Nu rfl) rfl B.max bt_max (pa_cons pe_int (pa_cons (pv 9) (pa_cons (pv 11) pa_nil)))) (pe_callB (call_min3Nu rfl) rfl B.min bt_min (pa_cons (pe_op op_mul (pe_op op_mul pe_int (pv 7)) (pv 8)) (pa_cons (pv 10) (pa_cons (pv 12) pa_nil)))) (nomark _))))))))))), ?_⟩
  unfold passL at q
  refine seq_with (fun σ' H' => H = H' ∧ σ' = [some (.ref ps), some (.ref pl), some (.ref pg), some (.int x1), some (.int y1), some (.int x2), some (.int y2), none, none, none, none, none, none]) (fun R hR => ⟨_, rfl, ps, _, rfl, SqT.of hst.1, rfl, _, _, rfl, _, _, rfl, _, _, rfl, _, _, rfl, rfl, hR _ _ ⟨rfl, rfl⟩⟩) ?_
  rintro _ _ ⟨rfl, rfl⟩
  refine ⟨_, rfl, _, rfl, _, _, rfl, _, rfl, pl, _, _, _, rfl, rfl, SqT.of hl, rfl, _, _, rfl, rfl, _, rfl, ?_⟩
  by_cases c1 : mx2 x1 x2 < lx
  · refine iteDT c1 ?_
    rw [if_pos (.inl c1)] at q
    exact q H (Same.refl H)
  refine iteDF c1 ?_
  refine ⟨_, rfl, pg, _, _, _, rfl, rfl, SqT.of hg, rfl, _, rfl, _, rfl, _, _, rfl, _, _, rfl, rfl, _, rfl, ?_⟩
  by_cases c2 : gx < mn2 x1 x2
  · refine iteDT c2 ?_
    rw [if_pos (.inr c2)] at q
    exact q H (Same.refl H)
  refine iteDF c2 ?_
  rw [if_neg (show ¬ (mx2 x1 x2 < lx ∨ gx < mn2 x1 x2) from fun z => z.elim c1 c2)] at q
  refine ⟨_, rfl, _, rfl, _, _, rfl, _, rfl, pl, _, _, _, rfl, rfl, SqT.of hl, rfl, _, _, rfl, rfl, _, rfl, ?_⟩
  by_cases c3 : mx2 y1 y2 < ly
  · refine iteDT c3 ?_
    rw [if_pos (.inl c3)] at q
    exact q H (Same.refl H)
  refine iteDF c3 ?_
  refine ⟨_, rfl, pg, _, _, _, rfl, rfl, SqT.of hg, rfl, _, rfl, _, rfl, _, _, rfl, _, _, rfl, rfl, _, rfl, ?_⟩
  by_cases c4 : gy < mn2 y1 y2
  · refine iteDT c4 ?_
    rw [if_pos (.inr c4)] at q
    exact q H (Same.refl H)
  refine iteDF c4 ?_
  rw [if_neg (show ¬ (mx2 y1 y2 < ly ∨ gy < mn2 y1 y2) from fun z => z.elim c3 c4)] at q
  have sx := aw_small (a := x1) (b := x2) (by omega) (by omega)
  have sy := aw_small (a := y1) (b := y2) (by omega) (by omega)
  dsimp only [tNext]
  refine seq_with (fun σ' H' => H = H' ∧ σ' = [some (.ref ps), some (.ref pl), some (.ref pg), some (.int x1), some (.int y1), some (.int x2), some (.int y2), some (.int (aw x1 x2)), some (.int (aw y1 y2)), none, none, none, none]) (fun R hR => ⟨_, rfl, _, rfl, _, _, rfl, rfl, _, rfl, _, rfl, _, rfl, _, _, rfl, rfl, _, rfl, _, _, rfl, hR _ _ ⟨rfl, rfl⟩⟩) ?_
  rintro _ _ ⟨rfl, rfl⟩
  refine ⟨_, rfl, rfl, _, rfl, ?_⟩
  by_cases c5 : aw x1 x2 = 0
  · refine iteDT (congrArg V.int c5) ?_
    rw [if_pos (.inl c5)] at q
    exact q H (Same.refl H)
  refine iteDF (fun z => c5 (V.int.inj z)) ?_
  refine ⟨_, rfl, rfl, _, rfl, ?_⟩
  by_cases c6 : aw y1 y2 = 0
  · refine iteDT (congrArg V.int c6) ?_
    rw [if_pos (.inr c6)] at q
    exact q H (Same.refl H)
  refine iteDF (fun z => c6 (V.int.inj z)) ?_
  rw [if_neg (show ¬ (aw x1 x2 = 0 ∨ aw y1 y2 = 0) from fun z => z.elim c5 c6)] at q
  dsimp only [tNext]
  refine seq_with (fun σ' H1 => Same H H1 ∧ σ' = [some (.ref ps), some (.ref pl), some (.ref pg), some (.int x1), some (.int y1), some (.int x2), some (.int y2), some (.int (aw x1 x2)), some (.int (aw y1 y2)), some (.int (inM x1 x2 (aw y1 y2) lx gx)), some (.int (outM x1 x2 (aw y1 y2) lx gx)), none, none]) (fun R hR => ?_) ?_
  · exact ⟨_, rfl, _, rfl, _, rfl, _, rfl, pl, _, _, _, rfl, rfl, SqT.of hl, rfl, _, rfl, pg, _, _, _, rfl, rfl, SqT.of hg, rfl, x1, x2, aw y1 y2, lx, gx, rfl, sy.1, by omega, fun r1 H1 s1 h1 => ⟨r1, _, rfl, SqT.of h1, rfl, _, _, rfl, _, _, rfl, rfl, hR _ _ ⟨s1, rfl⟩⟩⟩
  rintro _ H1 ⟨s1, rfl⟩
  refine seq_with (fun σ' H2 => Same H1 H2 ∧ σ' = [some (.ref ps), some (.ref pl), some (.ref pg), some (.int x1), some (.int y1), some (.int x2), some (.int y2), some (.int (aw x1 x2)), some (.int (aw y1 y2)), some (.int (inM x1 x2 (aw y1 y2) lx gx)), some (.int (outM x1 x2 (aw y1 y2) lx gx)), some (.int (inM y1 y2 (aw x1 x2) ly gy)), some (.int (outM y1 y2 (aw x1 x2) ly gy))]) (fun R hR => ?_) ?_
  · exact ⟨_, rfl, _, rfl, _, rfl, _, rfl, pl, _, _, _, rfl, rfl, SqT.of (s1 _ _ hl), rfl, _, rfl, pg, _, _, _, rfl, rfl, SqT.of (s1 _ _ hg), rfl, y1, y2, aw x1 x2, ly, gy, rfl, sx.1, by omega, fun r2 H2 s2 h2 => ⟨r2, _, rfl, SqT.of h2, rfl, _, _, rfl, _, _, rfl, rfl, hR _ _ ⟨s2, rfl⟩⟩⟩
  rintro _ H2 ⟨s2, rfl⟩
  refine ⟨_, rfl, _, rfl, _, _, _, _, rfl, nu_mx3 _ _ _, ?_⟩
  refine ⟨_, rfl, _, _, rfl, rfl, .inl ⟨by decide, by decide⟩, _, rfl, _, _, rfl, rfl, .inl ⟨by show -(2 ^ 64) < 4 * aw x1 x2; omega, by show 4 * aw x1 x2 < 2 ^ 64; omega⟩, _, rfl, _, rfl, _, _, _, _, rfl, nu_mn3 _ _ _, ?_⟩
  exact ⟨_, _, rfl, rfl, q _ (s1.trans s2)⟩
abbrev s_p_goes : Stmt := top 12
theorem sc_p_goes : FnScope ["stroke", "spot"] ["stroke", "spot"] (defScope s_p_goes) := ⟨rfl, rfl, rfl, by decide +kernel, rfl, by decide +kernel, by decide +kernel⟩
theorem ok_p_goes (c_passes : Cal P w K mg base 2 "passes" ["stroke", "least", "greatest"] spPasses) (F : Fun K "goes" "goes" s_p_goes f fd) : FnOk P w K mg base CX0 3 f fd ["stroke", "spot"] spGoes := by
  refine F.ok sc_p_goes (fun vs H Q E h => ?_) (fun cdv A outer s H vs Q E hr h => ?_)
  · obtain ⟨ps, pt, x1, y1, x2, y2, sx, sy, rfl, _⟩ := h
    rfl
  obtain ⟨ps, pt, x1, y1, x2, y2, sx, sy, rfl, hst, hpt, _, q⟩ := h
  refine ⟨_, (pss_one (ps_ret (pe_cal c_passes hr (pa_cons (pv 0) (pa_cons (pv 1) (pa_cons (pv 1) pa_nil)))))), ?_⟩
  refine ⟨_, rfl, _, rfl, _, rfl, ps, pt, pt, x1, y1, x2, y2, sx, sy, sx, sy, rfl, hst, hpt, hpt, fun H' s' => ?_⟩
  rw [passL_goes]
  exact q H' s'
end
end DM

namespace DM
/-! ### the squares of a stroke stand in one row -/
/-- q comes behind p on the way -/
def ahead (x1 y1 x2 y2 : Int) (p q : Int × Int) : Prop :=
  p ≠ q ∧ 0 ≤ (q.1 - p.1) * (x2 - x1) ∧ 0 ≤ (q.2 - p.2) * (y2 - y1) ∧ (x1 = x2 → q.1 = p.1) ∧ (y1 = y2 → q.2 = p.2)
theorem mul_nn {a b : Int} (hb : b ≠ 0) (h : 0 ≤ a * b) (h' : 0 ≤ (-a) * b) : a = 0 := by
  rw [Int.neg_mul] at h'
  exact (Int.mul_eq_zero.mp (by omega)).resolve_right hb
theorem ahead_asymm {x1 y1 x2 y2 : Int} {p q : Int × Int} (h : ahead x1 y1 x2 y2 p q) (h' : ahead x1 y1 x2 y2 q p) : False := by
  obtain ⟨ne, a1, a2, a3, a4⟩ := h
  obtain ⟨_, b1, b2, _, _⟩ := h'
  apply ne
  have e1 : q.1 - p.1 = 0 := by
    by_cases c : x1 = x2
    · have := a3 c; omega
    · exact mul_nn (b := x2 - x1) (by omega) a1 (by rw [show -(q.1 - p.1) = p.1 - q.1 by omega]; exact b1)
  have e2 : q.2 - p.2 = 0 := by
    by_cases c : y1 = y2
    · have := a4 c; omega
    · exact mul_nn (b := y2 - y1) (by omega) a2 (by rw [show -(q.2 - p.2) = p.2 - q.2 by omega]; exact b2)
  exact Prod.ext (by omega) (by omega)
theorem ahead_trans {x1 y1 x2 y2 : Int} {p q r : Int × Int} (h : ahead x1 y1 x2 y2 p q) (h' : ahead x1 y1 x2 y2 q r) : ahead x1 y1 x2 y2 p r := by
  refine ⟨fun e => ?_, ?_, ?_, fun c => (h'.2.2.2.1 c).trans (h.2.2.2.1 c), fun c => (h'.2.2.2.2 c).trans (h.2.2.2.2 c)⟩
  · subst e
    exact ahead_asymm h h'
  · have a := h.2.1
    have b := h'.2.1
    rw [show r.1 - p.1 = (q.1 - p.1) + (r.1 - q.1) by omega, Int.add_mul]
    omega
  · have a := h.2.2.1
    have b := h'.2.2.1
    rw [show r.2 - p.2 = (q.2 - p.2) + (r.2 - q.2) by omega, Int.add_mul]
    omega
theorem ahead_rev {x1 y1 x2 y2 : Int} {p q : Int × Int} : ahead x2 y2 x1 y1 p q ↔ ahead x1 y1 x2 y2 q p := by
  unfold ahead
  rw [show (q.1 - p.1) * (x1 - x2) = (p.1 - q.1) * (x2 - x1) by rw [← Int.neg_mul_neg]; congr 1 <;> omega, show (q.2 - p.2) * (y1 - y2) = (p.2 - q.2) * (y2 - y1) by rw [← Int.neg_mul_neg]; congr 1 <;> omega]
  exact ⟨fun ⟨a, b, c, d, e⟩ => ⟨Ne.symm a, b, c, fun z => (d z.symm).symm, fun z => (e z.symm).symm⟩, fun ⟨a, b, c, d, e⟩ => ⟨Ne.symm a, b, c, fun z => (d z.symm).symm, fun z => (e z.symm).symm⟩⟩
theorem ahead_move {x1 y1 x2 y2 a b : Int} {p q : Int × Int} : ahead (x1 + a) (y1 + b) (x2 + a) (y2 + b) (p.1 + a, p.2 + b) (q.1 + a, q.2 + b) ↔ ahead x1 y1 x2 y2 p q := by
  unfold ahead
  dsimp only
  rw [show q.1 + a - (p.1 + a) = q.1 - p.1 by omega, show q.2 + b - (p.2 + b) = q.2 - p.2 by omega, show x2 + a - (x1 + a) = x2 - x1 by omega, show y2 + b - (y1 + b) = y2 - y1 by omega]
  have e : ((p.1 + a, p.2 + b) ≠ (q.1 + a, q.2 + b)) ↔ p ≠ q := by
    refine ⟨fun h z => h (by rw [z]), fun h z => h ?_⟩
    have z1 := congrArg Prod.fst z
    have z2 := congrArg Prod.snd z
    exact Prod.ext (by dsimp only at z1; omega) (by dsimp only at z2; omega)
  rw [e]
  constructor
  · intro ⟨h1, h2, h3, h4, h5⟩
    exact ⟨h1, h2, h3, fun z => by have := h4 (by omega); omega, fun z => by have := h5 (by omega); omega⟩
  · intro ⟨h1, h2, h3, h4, h5⟩
    exact ⟨h1, h2, h3, fun z => by have := h4 (by omega); omega, fun z => by have := h5 (by omega); omega⟩
theorem ahead_flip {x1 y1 x2 y2 : Int} {p q : Int × Int} : ahead y1 x1 y2 x2 (p.2, p.1) (q.2, q.1) ↔ ahead x1 y1 x2 y2 p q := by
  unfold ahead
  dsimp only
  have e : ((p.2, p.1) ≠ (q.2, q.1)) ↔ p ≠ q := by
    refine ⟨fun h z => h (by rw [z]), fun h z => h ?_⟩
    exact Prod.ext (congrArg Prod.snd z) (congrArg Prod.fst z)
  rw [e]
  exact ⟨fun ⟨a, b, c, d, e⟩ => ⟨a, c, b, e, d⟩, fun ⟨a, b, c, d, e⟩ => ⟨a, c, b, e, d⟩⟩
/-- how far along -/
def along (x1 y1 x2 y2 : Int) (p : Int × Int) : Int := p.1 * (x2 - x1) + p.2 * (y2 - y1)
theorem ahead_along {x1 y1 x2 y2 : Int} {p q : Int × Int} (h : ahead x1 y1 x2 y2 p q) : along x1 y1 x2 y2 p < along x1 y1 x2 y2 q := by
  obtain ⟨ne, a1, a2, a3, a4⟩ := h
  unfold along
  have e1 := Int.sub_mul q.1 p.1 (x2 - x1)
  have e2 := Int.sub_mul q.2 p.2 (y2 - y1)
  rcases Int.lt_or_eq_of_le a1 with z1 | z1
  · omega
  rcases Int.lt_or_eq_of_le a2 with z2 | z2
  · omega
  exfalso
  apply ne
  have f1 : q.1 - p.1 = 0 := by
    by_cases c : x1 = x2
    · have := a3 c; omega
    · exact (Int.mul_eq_zero.mp z1.symm).resolve_right (by omega)
  have f2 : q.2 - p.2 = 0 := by
    by_cases c : y1 = y2
    · have := a4 c; omega
    · exact (Int.mul_eq_zero.mp z2.symm).resolve_right (by omega)
  exact Prod.ext (by omega) (by omega)
/-! ### at a time there is one square -/
theorem half_one {V m s s' : Int} (hm : 0 < m) (h1 : (2 * s - 1) * m ≤ V) (h2 : V < (2 * s + 1) * m) (h1' : (2 * s' - 1) * m ≤ V) (h2' : V < (2 * s' + 1) * m) : s = s' := by
  have a := Int.lt_of_mul_lt_mul_right (Int.lt_of_le_of_lt h1 h2') (by omega)
  have b := Int.lt_of_mul_lt_mul_right (Int.lt_of_le_of_lt h1' h2) (by omega)
  omega
theorem ins_one {x1 y1 x2 y2 n m : Int} {p q : Int × Int} (hm : 0 < m) (h : Ins x1 y1 x2 y2 p.1 p.2 n m) (h' : Ins x1 y1 x2 y2 q.1 q.2 n m) : p = q :=
  Prod.ext (half_one hm h.1 h.2.1 h'.1 h'.2.1) (half_one hm h.2.2.1 h.2.2.2 h'.2.2.1 h'.2.2.2)
theorem half_some (V : Int) {m : Int} (hm : 0 < m) : ∃ s : Int, (2 * s - 1) * m ≤ V ∧ V < (2 * s + 1) * m := by
  refine ⟨(V + m) / (2 * m), ?_⟩
  have a := Int.mul_ediv_self_le (x := V + m) (k := 2 * m) (by omega)
  have b := Int.lt_mul_ediv_self_add (x := V + m) (k := 2 * m) (by omega)
  generalize (V + m) / (2 * m) = s at *
  rw [Int.sub_mul, Int.add_mul, Int.one_mul, show 2 * s * m = 2 * m * s by rw [Int.mul_assoc, Int.mul_comm s, Int.mul_assoc]]
  omega
theorem half_mono {b u n m n' m' s s' : Int} (hm : 0 < m) (hm' : 0 < m') (h1 : (2 * s - 1) * m ≤ 2 * b * m + 2 * u * n) (h2' : 2 * b * m' + 2 * u * n' < (2 * s' + 1) * m') (hn : u * n * m' ≤ u * n' * m) : s ≤ s' := by
  have a1 := Int.mul_le_mul_of_nonneg_right h1 (show 0 ≤ m' by omega)
  have a2 := Int.mul_lt_mul_of_pos_right h2' hm
  have e1 : (2 * b * m + 2 * u * n) * m' = 2 * b * m * m' + 2 * (u * n * m') := by rw [Int.add_mul, Int.mul_assoc 2 u, Int.mul_assoc 2 (u * n)]
  have e2 : (2 * b * m' + 2 * u * n') * m = 2 * b * m * m' + 2 * (u * n' * m) := by rw [Int.add_mul, Int.mul_assoc 2 u, Int.mul_assoc 2 (u * n'), Int.mul_right_comm (2 * b)]
  have e3 : (2 * s' + 1) * m' * m = (2 * s' + 1) * (m * m') := by rw [Int.mul_assoc, Int.mul_comm m' m]
  have e4 : (2 * s - 1) * m * m' = (2 * s - 1) * (m * m') := Int.mul_assoc ..
  rw [e1, e4] at a1
  rw [e2, e3] at a2
  have := Int.lt_of_mul_lt_mul_right (show (2 * s - 1) * (m * m') < (2 * s' + 1) * (m * m') by omega) (Int.le_of_lt (Int.mul_pos hm hm'))
  omega
theorem half_way {b u n m n' m' s s' : Int} (hm : 0 < m) (hm' : 0 < m') (h1 : (2 * s - 1) * m ≤ 2 * b * m + 2 * u * n) (h2 : 2 * b * m + 2 * u * n < (2 * s + 1) * m) (h1' : (2 * s' - 1) * m' ≤ 2 * b * m' + 2 * u * n') (h2' : 2 * b * m' + 2 * u * n' < (2 * s' + 1) * m') (hn : n * m' ≤ n' * m) : 0 ≤ (s' - s) * u ∧ (u = 0 → s' = s) := by
  rcases Int.lt_trichotomy u 0 with c | c | c
  · have k : u * (n' * m) ≤ u * (n * m') := by
      have z := Int.mul_le_mul_of_nonneg_left hn (show 0 ≤ -u by omega)
      rw [Int.neg_mul, Int.neg_mul] at z
      omega
    have := half_mono hm' hm h1' h2 (by rw [Int.mul_assoc, Int.mul_assoc]; exact k)
    exact ⟨Int.mul_nonneg_of_nonpos_of_nonpos (by omega) (by omega), fun z => absurd z (by omega)⟩
  · subst c
    have f := half_mono hm hm' h1 h2' (by rw [Int.zero_mul, Int.zero_mul, Int.zero_mul, Int.zero_mul]; exact Int.le_refl _)
    have g := half_mono hm' hm h1' h2 (by rw [Int.zero_mul, Int.zero_mul, Int.zero_mul, Int.zero_mul]; exact Int.le_refl _)
    have e : s' = s := by omega
    subst e
    exact ⟨by rw [Int.mul_zero]; exact Int.le_refl _, fun _ => rfl⟩
  · have k := Int.mul_le_mul_of_nonneg_left hn (show 0 ≤ u by omega)
    have := half_mono hm hm' h1 h2' (by rw [Int.mul_assoc, Int.mul_assoc]; exact k)
    exact ⟨Int.mul_nonneg (by omega) (by omega), fun z => absurd z (by omega)⟩
theorem ins_way {x1 y1 x2 y2 n m n' m' : Int} {p q : Int × Int} (hm : 0 < m) (hm' : 0 < m') (h : Ins x1 y1 x2 y2 p.1 p.2 n m) (h' : Ins x1 y1 x2 y2 q.1 q.2 n' m') (hn : n * m' ≤ n' * m) : p = q ∨ ahead x1 y1 x2 y2 p q := by
  by_cases c : p = q
  · exact .inl c
  · have a := half_way hm hm' h.1 h.2.1 h'.1 h'.2.1 hn
    have b := half_way hm hm' h.2.2.1 h.2.2.2 h'.2.2.1 h'.2.2.2 hn
    exact .inr ⟨c, a.1, b.1, fun z => a.2 (by omega), fun z => b.2 (by omega)⟩
theorem thr_chain {x1 y1 x2 y2 : Int} {p q : Int × Int} (h : Thr x1 y1 x2 y2 p.1 p.2) (h' : Thr x1 y1 x2 y2 q.1 q.2) : p = q ∨ ahead x1 y1 x2 y2 p q ∨ ahead x1 y1 x2 y2 q p := by
  obtain ⟨n, m, hm, _, _, i⟩ := h
  obtain ⟨n', m', hm', _, _, i'⟩ := h'
  rcases Int.le_total (n * m') (n' * m) with z | z
  · rcases ins_way hm hm' i i' z with y | y
    · exact .inl y
    · exact .inr (.inl y)
  · rcases ins_way hm' hm i' i z with y | y
    · exact .inl y.symm
    · exact .inr (.inr y)
theorem thr_first (x1 y1 x2 y2 : Int) : Thr x1 y1 x2 y2 x1 y1 := ⟨0, 1, by decide, by decide, by decide, by unfold Ins; omega⟩
theorem thr_last (x1 y1 x2 y2 : Int) : Thr x1 y1 x2 y2 x2 y2 := ⟨1, 1, by decide, by decide, by decide, by unfold Ins; omega⟩
theorem thr_from {x1 y1 x2 y2 : Int} {p : Int × Int} (h : Thr x1 y1 x2 y2 p.1 p.2) : (x1, y1) = p ∨ ahead x1 y1 x2 y2 (x1, y1) p := by
  obtain ⟨n, m, hm, h0, _, i⟩ := h
  exact ins_way (p := (x1, y1)) (n := 0) (m := 1) (by decide) hm (by unfold Ins; omega) i (by omega)
theorem thr_to {x1 y1 x2 y2 : Int} {p : Int × Int} (h : Thr x1 y1 x2 y2 p.1 p.2) : p = (x2, y2) ∨ ahead x1 y1 x2 y2 p (x2, y2) := by
  obtain ⟨n, m, hm, _, h1, i⟩ := h
  exact ins_way (q := (x2, y2)) (n' := 1) (m' := 1) hm (by decide) i (by unfold Ins; omega) (by omega)
theorem thr_flip {x1 y1 x2 y2 sx sy : Int} (h : Thr x1 y1 x2 y2 sx sy) : Thr y1 x1 y2 x2 sy sx := by
  obtain ⟨n, m, hm, h0, h1, a, b, c, d⟩ := h
  exact ⟨n, m, hm, h0, h1, c, d, a, b⟩
theorem thr_move {x1 y1 x2 y2 sx sy : Int} (a b : Int) (h : Thr x1 y1 x2 y2 sx sy) : Thr (x1 + a) (y1 + b) (x2 + a) (y2 + b) (sx + a) (sy + b) := by
  obtain ⟨n, m, hm, h0, h1, i⟩ := h
  refine ⟨n, m, hm, h0, h1, ?_⟩
  unfold Ins at *
  have key : ∀ x y s a : Int, (2 * (s + a) - 1) * m = (2 * s - 1) * m + 2 * a * m ∧ 2 * (x + a) * m + 2 * (y + a - (x + a)) * n = 2 * x * m + 2 * (y - x) * n + 2 * a * m ∧ (2 * (s + a) + 1) * m = (2 * s + 1) * m + 2 * a * m := fun x y s a => by
    rw [show y + a - (x + a) = y - x by omega, show 2 * (s + a) - 1 = (2 * s - 1) + 2 * a by omega, show 2 * (x + a) = 2 * x + 2 * a by omega, show 2 * (s + a) + 1 = (2 * s + 1) + 2 * a by omega, Int.add_mul, Int.add_mul, Int.add_mul]
    omega
  have k1 := key x1 x2 sx a
  have k2 := key y1 y2 sy b
  omega
/-- a column between is gone through between -/
theorem col_up {x1 y1 x2 y2 n m n' m' c : Int} {p q : Int × Int} (hm : 0 < m) (hm' : 0 < m') (h0 : 0 ≤ n) (h1 : n' ≤ m') (i : Ins x1 y1 x2 y2 p.1 p.2 n m) (i' : Ins x1 y1 x2 y2 q.1 q.2 n' m') (hu : x1 < x2) (hp : p.1 < c) (hq : c < q.1) : ∃ r : Int × Int, r.1 = c ∧ Thr x1 y1 x2 y2 r.1 r.2 ∧ ahead x1 y1 x2 y2 p r ∧ ahead x1 y1 x2 y2 r q := by
  obtain ⟨r2, b1, b2⟩ := half_some (2 * y1 * (x2 - x1) + 2 * (y2 - y1) * (c - x1)) (m := x2 - x1) (by omega)
  have ex : 2 * x1 * (x2 - x1) + 2 * (x2 - x1) * (c - x1) = 2 * c * (x2 - x1) := by
    rw [Int.mul_assoc 2 (x2 - x1), Int.mul_comm (x2 - x1) (c - x1), Int.mul_assoc, Int.mul_assoc, ← Int.mul_add, ← Int.add_mul]
    rw [show x1 + (c - x1) = c by omega]
  have ir : Ins x1 y1 x2 y2 c r2 (c - x1) (x2 - x1) := by
    refine ⟨?_, ?_, b1, b2⟩
    · rw [ex]
      exact Int.mul_le_mul_of_nonneg_right (by omega) (by omega)
    · rw [ex]
      exact Int.mul_lt_mul_of_pos_right (by omega) (by omega)
  have t1 : n * (x2 - x1) ≤ (c - x1) * m := by
    have a := i.2.1
    have b := Int.mul_le_mul_of_nonneg_right (show 2 * p.1 + 1 ≤ 2 * c by omega) (show 0 ≤ m by omega)
    rw [Int.sub_mul, Int.mul_comm n]
    have e : 2 * (x2 - x1) * n = 2 * ((x2 - x1) * n) := Int.mul_assoc ..
    have e2 : 2 * x1 * m = 2 * (x1 * m) := Int.mul_assoc ..
    have e3 : 2 * c * m = 2 * (c * m) := Int.mul_assoc ..
    omega
  have t2 : (c - x1) * m' ≤ n' * (x2 - x1) := by
    have a := i'.1
    have b := Int.mul_le_mul_of_nonneg_right (show 2 * c ≤ 2 * q.1 - 1 by omega) (show 0 ≤ m' by omega)
    rw [Int.sub_mul, Int.mul_comm n']
    have e : 2 * (x2 - x1) * n' = 2 * ((x2 - x1) * n') := Int.mul_assoc ..
    have e2 : 2 * x1 * m' = 2 * (x1 * m') := Int.mul_assoc ..
    have e3 : 2 * c * m' = 2 * (c * m') := Int.mul_assoc ..
    omega
  have c0 : 0 ≤ c - x1 := by
    have k := Int.mul_nonneg h0 (show 0 ≤ x2 - x1 by omega)
    rcases Int.lt_or_le (c - x1) 0 with z | z
    · have := Int.mul_neg_of_neg_of_pos z hm
      omega
    · exact z
  have c1 : c - x1 ≤ x2 - x1 := by
    have k := Int.mul_le_mul_of_nonneg_right h1 (show 0 ≤ x2 - x1 by omega)
    rw [Int.mul_comm m'] at k
    exact Int.le_of_mul_le_mul_right (Int.le_trans t2 k) hm'
  have w1 := ins_way (q := (c, r2)) hm (show 0 < x2 - x1 by omega) i ir t1
  have w2 := ins_way (p := (c, r2)) (show 0 < x2 - x1 by omega) hm' ir i' t2
  refine ⟨(c, r2), rfl, ⟨c - x1, x2 - x1, by omega, c0, c1, ir⟩, w1.resolve_left (fun z => ?_), w2.resolve_left (fun z => ?_)⟩
  · rw [z] at hp; exact absurd hp (Int.lt_irrefl _)
  · rw [← z] at hq; exact absurd hq (Int.lt_irrefl _)
theorem col_down {x1 y1 x2 y2 n m n' m' c : Int} {p q : Int × Int} (hm : 0 < m) (hm' : 0 < m') (h0 : 0 ≤ n) (h1 : n' ≤ m') (i : Ins x1 y1 x2 y2 p.1 p.2 n m) (i' : Ins x1 y1 x2 y2 q.1 q.2 n' m') (hu : x2 < x1) (hp : c < p.1) (hq : q.1 < c) : ∃ r : Int × Int, r.1 = c ∧ Thr x1 y1 x2 y2 r.1 r.2 ∧ ahead x1 y1 x2 y2 p r ∧ ahead x1 y1 x2 y2 r q := by
  obtain ⟨r2, b1, b2⟩ := half_some (2 * y1 * (x1 - x2) + 2 * (y2 - y1) * (x1 - c)) (m := x1 - x2) (by omega)
  have ex : 2 * x1 * (x1 - x2) + 2 * (x2 - x1) * (x1 - c) = 2 * c * (x1 - x2) := by
    rw [show 2 * (x2 - x1) * (x1 - c) = 2 * (c - x1) * (x1 - x2) by rw [Int.mul_assoc, Int.mul_assoc, show (c - x1) * (x1 - x2) = (x2 - x1) * (x1 - c) by rw [← Int.neg_mul_neg, Int.mul_comm]; congr 1 <;> omega], ← Int.add_mul]
    congr 1
    omega
  have ir : Ins x1 y1 x2 y2 c r2 (x1 - c) (x1 - x2) := by
    refine ⟨?_, ?_, b1, b2⟩
    · rw [ex]
      exact Int.mul_le_mul_of_nonneg_right (by omega) (by omega)
    · rw [ex]
      exact Int.mul_lt_mul_of_pos_right (by omega) (by omega)
  have t1 : n * (x1 - x2) ≤ (x1 - c) * m := by
    have a := i.1
    have b := Int.mul_le_mul_of_nonneg_right (show 2 * c ≤ 2 * p.1 - 1 by omega) (show 0 ≤ m by omega)
    rw [Int.sub_mul, Int.mul_comm n]
    have e : 2 * (x2 - x1) * n = - (2 * ((x1 - x2) * n)) := by rw [Int.mul_assoc, ← Int.mul_neg, ← Int.neg_mul]; congr 2; omega
    have e2 : 2 * x1 * m = 2 * (x1 * m) := Int.mul_assoc ..
    have e3 : 2 * c * m = 2 * (c * m) := Int.mul_assoc ..
    omega
  have t2 : (x1 - c) * m' ≤ n' * (x1 - x2) := by
    have a := i'.2.1
    have b := Int.mul_le_mul_of_nonneg_right (show 2 * q.1 + 1 ≤ 2 * c by omega) (show 0 ≤ m' by omega)
    rw [Int.sub_mul, Int.mul_comm n']
    have e : 2 * (x2 - x1) * n' = - (2 * ((x1 - x2) * n')) := by rw [Int.mul_assoc, ← Int.mul_neg, ← Int.neg_mul]; congr 2; omega
    have e2 : 2 * x1 * m' = 2 * (x1 * m') := Int.mul_assoc ..
    have e3 : 2 * c * m' = 2 * (c * m') := Int.mul_assoc ..
    omega
  have c0 : 0 ≤ x1 - c := by
    have k := Int.mul_nonneg h0 (show 0 ≤ x1 - x2 by omega)
    rcases Int.lt_or_le (x1 - c) 0 with z | z
    · have := Int.mul_neg_of_neg_of_pos z hm
      omega
    · exact z
  have c1 : x1 - c ≤ x1 - x2 := by
    have k := Int.mul_le_mul_of_nonneg_right h1 (show 0 ≤ x1 - x2 by omega)
    rw [Int.mul_comm m'] at k
    exact Int.le_of_mul_le_mul_right (Int.le_trans t2 k) hm'
  have w1 := ins_way (q := (c, r2)) hm (show 0 < x1 - x2 by omega) i ir t1
  have w2 := ins_way (p := (c, r2)) (show 0 < x1 - x2 by omega) hm' ir i' t2
  refine ⟨(c, r2), rfl, ⟨x1 - c, x1 - x2, by omega, c0, c1, ir⟩, w1.resolve_left (fun z => ?_), w2.resolve_left (fun z => ?_)⟩
  · rw [z] at hp; exact absurd hp (Int.lt_irrefl _)
  · rw [← z] at hq; exact absurd hq (Int.lt_irrefl _)
/-- two squares with none between are one step apart -/
theorem next_x {x1 y1 x2 y2 : Int} {p q : Int × Int} (h : Thr x1 y1 x2 y2 p.1 p.2) (h' : Thr x1 y1 x2 y2 q.1 q.2) (a : ahead x1 y1 x2 y2 p q) (none : ∀ r : Int × Int, Thr x1 y1 x2 y2 r.1 r.2 → ahead x1 y1 x2 y2 p r → ahead x1 y1 x2 y2 r q → False) : -1 ≤ q.1 - p.1 ∧ q.1 - p.1 ≤ 1 := by
  obtain ⟨n, m, hm, h0, h1, i⟩ := h
  obtain ⟨n', m', hm', h0', h1', i'⟩ := h'
  have a1 := a.2.1
  have a2 := a.2.2.2.1
  refine Decidable.byContradiction fun c => ?_
  rcases Int.lt_trichotomy x1 x2 with z | z | z
  · have up : p.1 + 1 < q.1 := by
      rcases Int.lt_or_le (q.1 - p.1) 0 with y | y
      · have := Int.mul_neg_of_neg_of_pos y (show 0 < x2 - x1 by omega)
        omega
      · omega
    obtain ⟨r, _, t, r1, r2⟩ := col_up hm hm' h0 h1' i i' z (c := p.1 + 1) (by omega) up
    exact none r t r1 r2
  · have := a2 z
    omega
  · have dn : q.1 < p.1 - 1 := by
      rcases Int.lt_or_le 0 (q.1 - p.1) with y | y
      · have := Int.mul_neg_of_pos_of_neg y (show x2 - x1 < 0 by omega)
        omega
      · omega
    obtain ⟨r, _, t, r1, r2⟩ := col_down hm hm' h0 h1' i i' z (c := p.1 - 1) (by omega) dn
    exact none r t r1 r2
theorem next_y {x1 y1 x2 y2 : Int} {p q : Int × Int} (h : Thr x1 y1 x2 y2 p.1 p.2) (h' : Thr x1 y1 x2 y2 q.1 q.2) (a : ahead x1 y1 x2 y2 p q) (none : ∀ r : Int × Int, Thr x1 y1 x2 y2 r.1 r.2 → ahead x1 y1 x2 y2 p r → ahead x1 y1 x2 y2 r q → False) : -1 ≤ q.2 - p.2 ∧ q.2 - p.2 ≤ 1 :=
  next_x (x1 := y1) (y1 := x1) (x2 := y2) (y2 := x2) (p := (p.2, p.1)) (q := (q.2, q.1)) (thr_flip h) (thr_flip h') (ahead_flip.mpr a) fun r t r1 r2 => none (r.2, r.1) (thr_flip t) (ahead_flip.mp (by exact r1)) (ahead_flip.mp (by exact r2))
end DM

namespace DM
theorem sorted_one {α : Type} {R : α → α → Prop} (asy : ∀ a b, R a b → R b a → False) : ∀ {L L' : List α}, L.Pairwise R → L'.Pairwise R → (∀ p, p ∈ L ↔ p ∈ L') → L = L'
  | [], [], _, _, _ => rfl
  | [], b :: _, _, _, h => absurd ((h b).mpr List.mem_cons_self) List.not_mem_nil
  | a :: _, [], _, _, h => absurd ((h a).mp List.mem_cons_self) List.not_mem_nil
  | a :: t, b :: t', h1, h2, h => by
    obtain ⟨a1, a2⟩ := List.pairwise_cons.mp h1
    obtain ⟨b1, b2⟩ := List.pairwise_cons.mp h2
    have e : a = b := by
      rcases List.mem_cons.mp ((h a).mp List.mem_cons_self) with z | z
      · exact z
      rcases List.mem_cons.mp ((h b).mpr List.mem_cons_self) with y | y
      · exact y.symm
      exact (asy _ _ (a1 _ y) (b1 _ z)).elim
    subst e
    congr 1
    refine sorted_one asy a2 b2 fun p => ⟨fun z => ?_, fun z => ?_⟩
    · rcases List.mem_cons.mp ((h p).mp (List.mem_cons_of_mem _ z)) with y | y
      · subst y
        exact (asy _ _ (a1 _ z) (a1 _ z)).elim
      · exact y
    · rcases List.mem_cons.mp ((h p).mpr (List.mem_cons_of_mem _ z)) with y | y
      · subst y
        exact (asy _ _ (b1 _ z) (b1 _ z)).elim
      · exact y
/-- those of S that the stroke goes through, in their order along it -/
def RowOf (x1 y1 x2 y2 : Int) (S : Int × Int → Prop) (L : List (Int × Int)) : Prop := (∀ p, p ∈ L ↔ S p ∧ Thr x1 y1 x2 y2 p.1 p.2) ∧ L.Pairwise (ahead x1 y1 x2 y2)
def Row (x1 y1 x2 y2 : Int) (L : List (Int × Int)) : Prop := (∀ p, p ∈ L ↔ Thr x1 y1 x2 y2 p.1 p.2) ∧ L.Pairwise (ahead x1 y1 x2 y2)
theorem Row.of {x1 y1 x2 y2 : Int} {L : List (Int × Int)} : Row x1 y1 x2 y2 L ↔ RowOf x1 y1 x2 y2 (fun _ => True) L := by
  unfold Row RowOf
  simp only [true_and]
section
variable {x1 y1 x2 y2 : Int} {S T : Int × Int → Prop} {L L' : List (Int × Int)}
theorem RowOf.one (h : RowOf x1 y1 x2 y2 S L) (h' : RowOf x1 y1 x2 y2 T L') (e : ∀ p, S p ↔ T p) : L = L' :=
  sorted_one (fun _ _ => ahead_asymm) h.2 h'.2 fun p => by rw [h.1, h'.1, e]
theorem Row.one (h : Row x1 y1 x2 y2 L) (h' : Row x1 y1 x2 y2 L') : L = L' := sorted_one (fun _ _ => ahead_asymm) h.2 h'.2 fun p => by rw [h.1, h'.1]
theorem RowOf.nodup (h : RowOf x1 y1 x2 y2 S L) : L.Nodup := h.2.imp fun a => a.1
theorem RowOf.filter (h : RowOf x1 y1 x2 y2 S L) (f : Int × Int → Bool) (hf : ∀ p, f p = true ↔ T p) : RowOf x1 y1 x2 y2 (fun p => S p ∧ T p) (L.filter f) := by
  refine ⟨fun p => ?_, h.2.filter _⟩
  rw [List.mem_filter, h.1, hf]
  exact ⟨fun ⟨⟨a, b⟩, c⟩ => ⟨⟨a, c⟩, b⟩, fun ⟨⟨a, c⟩, b⟩ => ⟨⟨a, b⟩, c⟩⟩
theorem thr_rev {sx sy : Int} (h : Thr x1 y1 x2 y2 sx sy) : Thr x2 y2 x1 y1 sx sy := by
  obtain ⟨n, m, hm, h0, h1, i⟩ := h
  refine ⟨m - n, m, hm, by omega, by omega, ?_⟩
  unfold Ins at *
  have key : ∀ a b : Int, 2 * b * m + 2 * (a - b) * (m - n) = 2 * a * m + 2 * (b - a) * n := fun a b => by
    simp only [Int.mul_sub, Int.sub_mul, Int.mul_assoc]
    omega
  rw [key x1 x2, key y1 y2]
  exact i
theorem RowOf.rev (h : RowOf x1 y1 x2 y2 S L) : RowOf x2 y2 x1 y1 S L.reverse := by
  refine ⟨fun p => ?_, ?_⟩
  · rw [List.mem_reverse, h.1]
    exact ⟨fun ⟨a, b⟩ => ⟨a, thr_rev b⟩, fun ⟨a, b⟩ => ⟨a, thr_rev b⟩⟩
  · rw [List.pairwise_reverse]
    exact h.2.imp fun a => ahead_rev.mpr a
theorem RowOf.move (h : RowOf x1 y1 x2 y2 S L) (a b : Int) : RowOf (x1 + a) (y1 + b) (x2 + a) (y2 + b) (fun p => S (p.1 - a, p.2 - b)) (L.map fun p => (p.1 + a, p.2 + b)) := by
  refine ⟨fun p => ?_, ?_⟩
  · rw [List.mem_map]
    constructor
    · rintro ⟨q, hq, rfl⟩
      obtain ⟨u, v⟩ := (h.1 q).mp hq
      refine ⟨?_, thr_move a b v⟩
      dsimp only
      rw [show q.1 + a - a = q.1 by omega, show q.2 + b - b = q.2 by omega]
      exact u
    · rintro ⟨u, v⟩
      refine ⟨(p.1 - a, p.2 - b), (h.1 _).mpr ⟨u, ?_⟩, Prod.ext (by dsimp only; omega) (by dsimp only; omega)⟩
      have w := thr_move (-a) (-b) v
      rw [show x1 + a + -a = x1 by omega, show y1 + b + -b = y1 by omega, show x2 + a + -a = x2 by omega, show y2 + b + -b = y2 by omega] at w
      exact w
  · rw [List.pairwise_map]
    exact h.2.imp fun z => ahead_move.mpr z
theorem RowOf.flip (h : RowOf x1 y1 x2 y2 S L) : RowOf y1 x1 y2 x2 (fun p => S (p.2, p.1)) (L.map fun p => (p.2, p.1)) := by
  refine ⟨fun p => ?_, ?_⟩
  · rw [List.mem_map]
    constructor
    · rintro ⟨q, hq, rfl⟩
      obtain ⟨u, v⟩ := (h.1 q).mp hq
      exact ⟨u, thr_flip v⟩
    · rintro ⟨u, v⟩
      exact ⟨(p.2, p.1), (h.1 _).mpr ⟨u, thr_flip v⟩, rfl⟩
  · rw [List.pairwise_map]
    exact h.2.imp fun z => ahead_flip.mpr z
theorem RowOf.first (h : RowOf x1 y1 x2 y2 S L) (hS : S (x1, y1)) : ∃ t, L = (x1, y1) :: t := by
  have m := (h.1 (x1, y1)).mpr ⟨hS, thr_first ..⟩
  cases L with
  | nil => cases m
  | cons a t =>
    rcases List.mem_cons.mp m with z | z
    · exact ⟨t, by rw [z]⟩
    · have r := (List.pairwise_cons.mp h.2).1 _ z
      rcases thr_from ((h.1 a).mp List.mem_cons_self).2 with y | y
      · exact ⟨t, by rw [y]⟩
      · exact (ahead_asymm r y).elim
theorem RowOf.last (h : RowOf x1 y1 x2 y2 S L) (hS : S (x2, y2)) : ∃ t, L = t ++ [(x2, y2)] := by
  obtain ⟨t, e⟩ := h.rev.first hS
  refine ⟨t.reverse, ?_⟩
  rw [← List.reverse_reverse L, e, List.reverse_cons]
theorem Row.rev (h : Row x1 y1 x2 y2 L) : Row x2 y2 x1 y1 L.reverse := Row.of.mpr (Row.of.mp h).rev
theorem Row.move (h : Row x1 y1 x2 y2 L) (a b : Int) : Row (x1 + a) (y1 + b) (x2 + a) (y2 + b) (L.map fun p => (p.1 + a, p.2 + b)) := Row.of.mpr ((Row.of.mp h).move a b)
theorem Row.flip (h : Row x1 y1 x2 y2 L) : Row y1 x1 y2 x2 (L.map fun p => (p.2, p.1)) := Row.of.mpr (Row.of.mp h).flip
theorem Row.first (h : Row x1 y1 x2 y2 L) : ∃ t, L = (x1, y1) :: t := (Row.of.mp h).first trivial
theorem Row.last (h : Row x1 y1 x2 y2 L) : ∃ t, L = t ++ [(x2, y2)] := (Row.of.mp h).last trivial
theorem pair_at {α : Type} {R : α → α → Prop} : ∀ {L : List α}, L.Pairwise R → ∀ {i j : Nat} {p q : α}, i < j → L[i]? = some p → L[j]? = some q → R p q
  | [], _, _, _, _, _, _, h, _ => by cases h
  | a :: t, hp, 0, j + 1, p, q, _, h1, h2 => by
    cases h1
    exact (List.pairwise_cons.mp hp).1 _ (List.mem_of_getElem? h2)
  | a :: t, hp, i + 1, j + 1, p, q, hij, h1, h2 => pair_at (List.pairwise_cons.mp hp).2 (Nat.lt_of_succ_lt_succ hij) h1 h2
theorem Row.next (h : Row x1 y1 x2 y2 L) {k : Nat} {p q : Int × Int} (hp : L[k]? = some p) (hq : L[k + 1]? = some q) : ahead x1 y1 x2 y2 p q ∧ (-1 ≤ q.1 - p.1 ∧ q.1 - p.1 ≤ 1) ∧ -1 ≤ q.2 - p.2 ∧ q.2 - p.2 ≤ 1 := by
  have a := pair_at h.2 (Nat.lt_succ_self k) hp hq
  have tp := (h.1 p).mp (List.mem_of_getElem? hp)
  have tq := (h.1 q).mp (List.mem_of_getElem? hq)
  have no : ∀ r : Int × Int, Thr x1 y1 x2 y2 r.1 r.2 → ahead x1 y1 x2 y2 p r → ahead x1 y1 x2 y2 r q → False := fun r tr r1 r2 => by
    obtain ⟨j, hj⟩ := List.getElem?_of_mem ((h.1 r).mpr tr)
    rcases Nat.lt_trichotomy j k with z | z | z
    · exact ahead_asymm r1 (pair_at h.2 z hj hp)
    · subst z
      rw [hp] at hj
      cases hj
      exact r1.1 rfl
    · rcases Nat.lt_or_eq_of_le (Nat.succ_le_of_lt z) with y | y
      · exact ahead_asymm r2 (pair_at h.2 y hq hj)
      · have y : k + 1 = j := y
        subst y
        rw [hq] at hj
        cases hj
        exact r2.1 rfl
  exact ⟨a, next_x tp tq a no, next_y tp tq a no⟩
/-! ### how long a row may be -/
theorem rising_len {α : Type} (f : α → Int) : ∀ {L : List α} {a b : Int}, L.Pairwise (fun p q => f p < f q) → (∀ p ∈ L, a ≤ f p ∧ f p ≤ b) → (L.length : Int) ≤ (if b < a then 0 else b - a + 1)
  | [], a, b, _, _ => by
    show (0 : Int) ≤ _
    split <;> omega
  | p :: t, a, b, h, hb => by
    obtain ⟨h1, h2⟩ := List.pairwise_cons.mp h
    have k := hb p List.mem_cons_self
    have r := rising_len f (a := f p + 1) (b := b) h2 fun q hq => ⟨by have := h1 q hq; omega, (hb q (List.mem_cons_of_mem _ hq)).2⟩
    show ((t.length + 1 : Nat) : Int) ≤ _
    rw [if_neg (show ¬ b < a by omega)]
    split at r <;> omega
/-! ### a walk from square to square tells them all -/
def Tight (x1 y1 x2 y2 : Int) (p q : Int × Int) : Prop := ahead x1 y1 x2 y2 p q ∧ ∀ r : Int × Int, Thr x1 y1 x2 y2 r.1 r.2 → ahead x1 y1 x2 y2 p r → ahead x1 y1 x2 y2 r q → False
def Walk (x1 y1 x2 y2 : Int) : Int × Int → List (Int × Int) → Prop
  | p, [] => p = (x2, y2)
  | p, q :: t => Tight x1 y1 x2 y2 p q ∧ Thr x1 y1 x2 y2 q.1 q.2 ∧ Walk x1 y1 x2 y2 q t
theorem walk_all : ∀ {t : List (Int × Int)} {p : Int × Int}, Thr x1 y1 x2 y2 p.1 p.2 → Walk x1 y1 x2 y2 p t → (∀ r ∈ p :: t, Thr x1 y1 x2 y2 r.1 r.2 ∧ (r = p ∨ ahead x1 y1 x2 y2 p r)) ∧ (p :: t).Pairwise (ahead x1 y1 x2 y2) ∧ ∀ r : Int × Int, Thr x1 y1 x2 y2 r.1 r.2 → (r = p ∨ ahead x1 y1 x2 y2 p r) → r ∈ p :: t
  | [], p, hp, w => by
    have w : p = (x2, y2) := w
    refine ⟨fun r hr => ?_, List.pairwise_singleton .., fun r tr hr => ?_⟩
    · have e := List.mem_singleton.mp hr
      subst e
      exact ⟨hp, .inl rfl⟩
    · rcases hr with z | z
      · rw [z]; exact List.mem_cons_self
      · rcases thr_to tr with y | y
        · rw [y, w]; exact List.mem_cons_self
        · rw [w] at z
          exact (ahead_asymm z y).elim
  | q :: t, p, hp, ⟨⟨a, no⟩, tq, w⟩ => by
    obtain ⟨i1, i2, i3⟩ := walk_all tq w
    have i1' : ∀ r ∈ q :: t, ahead x1 y1 x2 y2 p r := fun r hr => by
      rcases (i1 r hr).2 with z | z
      · rw [z]; exact a
      · exact ahead_trans a z
    refine ⟨fun r hr => ?_, List.pairwise_cons.mpr ⟨i1', i2⟩, fun r tr hr => ?_⟩
    · rcases List.mem_cons.mp hr with z | z
      · subst z; exact ⟨hp, .inl rfl⟩
      · exact ⟨(i1 r z).1, .inr (i1' r z)⟩
    · rcases hr with z | z
      · rw [z]; exact List.mem_cons_self
      · refine List.mem_cons_of_mem _ ?_
        rcases thr_chain tr tq with y | y | y
        · rw [y]; exact List.mem_cons_self
        · exact (no r tr z y).elim
        · exact i3 r tr (.inr y)
theorem Row.walk {t : List (Int × Int)} (w : Walk x1 y1 x2 y2 (x1, y1) t) : Row x1 y1 x2 y2 ((x1, y1) :: t) := by
  obtain ⟨i1, i2, i3⟩ := walk_all (p := (x1, y1)) (thr_first ..) w
  refine ⟨fun r => ⟨fun h => (i1 r h).1, fun h => i3 r h ?_⟩, i2⟩
  rcases thr_from h with z | z
  · exact .inl z.symm
  · exact .inr z
theorem betw {a b c u : Int} (h1 : 0 ≤ (c - a) * u) (h2 : 0 ≤ (b - c) * u) (hu : u = 0 → c = a ∧ b = c) : (a ≤ c ∧ c ≤ b) ∨ (b ≤ c ∧ c ≤ a) := by
  rcases Int.lt_trichotomy u 0 with z | z | z
  · right
    constructor
    · rcases Int.lt_or_le 0 (b - c) with y | y
      · have := Int.mul_neg_of_pos_of_neg y z
        omega
      · omega
    · rcases Int.lt_or_le 0 (c - a) with y | y
      · have := Int.mul_neg_of_pos_of_neg y z
        omega
      · omega
  · have := hu z
    omega
  · left
    constructor
    · rcases Int.lt_or_le (c - a) 0 with y | y
      · have := Int.mul_neg_of_neg_of_pos y z
        omega
      · omega
    · rcases Int.lt_or_le (b - c) 0 with y | y
      · have := Int.mul_neg_of_neg_of_pos y z
        omega
      · omega
theorem ahead_betw {p q r : Int × Int} (h1 : ahead x1 y1 x2 y2 p r) (h2 : ahead x1 y1 x2 y2 r q) : ((p.1 ≤ r.1 ∧ r.1 ≤ q.1) ∨ (q.1 ≤ r.1 ∧ r.1 ≤ p.1)) ∧ ((p.2 ≤ r.2 ∧ r.2 ≤ q.2) ∨ (q.2 ≤ r.2 ∧ r.2 ≤ p.2)) :=
  ⟨betw h1.2.1 h2.2.1 fun z => ⟨h1.2.2.2.1 (by omega), h2.2.2.2.1 (by omega)⟩, betw h1.2.2.1 h2.2.2.1 fun z => ⟨h1.2.2.2.2 (by omega), h2.2.2.2.2 (by omega)⟩⟩
theorem pair_ne {p q : Int × Int} (h : p ≠ q) : ¬ (p.1 = q.1 ∧ p.2 = q.2) := fun z => h (Prod.ext z.1 z.2)
/-- one step level or upright: nothing is between -/
theorem tight_one {p q : Int × Int} (a : ahead x1 y1 x2 y2 p q) (h : (p.1 = q.1 ∧ (q.2 - p.2 = 1 ∨ q.2 - p.2 = -1)) ∨ (p.2 = q.2 ∧ (q.1 - p.1 = 1 ∨ q.1 - p.1 = -1))) : Tight x1 y1 x2 y2 p q :=
  ⟨a, fun r _ h1 h2 => by
    have b := ahead_betw h1 h2
    have n1 := pair_ne h1.1
    have n2 := pair_ne h2.1
    omega⟩
/-- a slanted step: neither corner is gone through -/
theorem tight_two {p q : Int × Int} (a : ahead x1 y1 x2 y2 p q) (h1 : q.1 - p.1 = 1 ∨ q.1 - p.1 = -1) (h2 : q.2 - p.2 = 1 ∨ q.2 - p.2 = -1) (n1 : ¬ Thr x1 y1 x2 y2 q.1 p.2) (n2 : ¬ Thr x1 y1 x2 y2 p.1 q.2) : Tight x1 y1 x2 y2 p q :=
  ⟨a, fun r tr r1 r2 => by
    have b := ahead_betw r1 r2
    have m1 := pair_ne r1.1
    have m2 := pair_ne r2.1
    have e : (r.1 = q.1 ∧ r.2 = p.2) ∨ (r.1 = p.1 ∧ r.2 = q.2) := by omega
    rcases e with ⟨e1, e2⟩ | ⟨e1, e2⟩
    · rw [e1, e2] at tr; exact n1 tr
    · rw [e1, e2] at tr; exact n2 tr⟩
end
end DM

namespace DM
open PySem L2
def sgn (n : Int) : Int := if n > 0 then 1 else if n < 0 then -1 else 0
def spSign : Sp := fun vs H Q _ => ∃ n : Int, vs = [.int n] ∧ Q (.int (sgn n)) H
section
variable {P : Program} {w : World} {K : PySem.W.Frag} {mg : Str → Option Value} {base : Heap} {f : Addr} {fd : FuncData}
abbrev s_sign : Stmt := top 8
theorem sc_sign : FnScope ["number"] ["number"] (defScope s_sign) := ⟨rfl, rfl, rfl, by decide +kernel, rfl, by decide +kernel, by decide +kernel⟩
theorem ok_sign (F : Fun K "sign" "sign" s_sign f fd) : FnOk P w K mg base CX0 1 f fd ["number"] spSign := by
  refine F.ok sc_sign (fun vs H Q E h => ?_) (fun cdv A outer s H vs Q E hr h => ?_)
  · obtain ⟨n, rfl, _⟩ := h
    rfl
  obtain ⟨n, rfl, q⟩ := h
  refine ⟨_, (pss_cons (ps_if (pt_cmpR op_gt (pv 0) pe_int (nomark _))
    (pss_one (ps_ret pe_int))
    pss_nil)
    (pss_cons (ps_if (pt_cmpR op_lt (pv 0) pe_int (nomark _))
    (pss_one (ps_ret (pe_un un_neg pe_int)))
    pss_nil)
    (pss_one (ps_ret pe_int)))), ?_⟩
  unfold sgn at q
  refine ⟨_, rfl, _, _, rfl, rfl, _, rfl, ?_⟩
  by_cases c : n > 0
  · refine iteDT c ?_
    rw [if_pos c] at q
    exact q
  · refine iteDF c ?_
    rw [if_neg c] at q
    refine ⟨_, rfl, _, _, rfl, rfl, _, rfl, ?_⟩
    by_cases d : n < 0
    · refine iteDT d ?_
      rw [if_pos d] at q
      exact ⟨_, rfl, q⟩
    · refine iteDF d ?_
      rw [if_neg d] at q
      exact q
end
end DM

namespace DM
/-! ### the square behind a square -/
section
variable {x1 y1 x2 y2 : Int}
theorem thr_betw {p : Int × Int} (h : Thr x1 y1 x2 y2 p.1 p.2) : ((x1 ≤ p.1 ∧ p.1 ≤ x2) ∨ (x2 ≤ p.1 ∧ p.1 ≤ x1)) ∧ ((y1 ≤ p.2 ∧ p.2 ≤ y2) ∨ (y2 ≤ p.2 ∧ p.2 ≤ y1)) := by
  rcases thr_from h with e | a
  · rw [← e]; dsimp only; omega
  rcases thr_to h with e | b
  · rw [e]; dsimp only; omega
  exact ahead_betw a b
theorem next_some {p : Int × Int} : ∀ (N : Nat) (q : Int × Int), Thr x1 y1 x2 y2 q.1 q.2 → ahead x1 y1 x2 y2 p q → along x1 y1 x2 y2 q - along x1 y1 x2 y2 p ≤ N → ∃ r : Int × Int, Thr x1 y1 x2 y2 r.1 r.2 ∧ Tight x1 y1 x2 y2 p r
  | 0, q, tq, a, h => by
    have := ahead_along a
    omega
  | N + 1, q, tq, a, h => by
    by_cases c : ∃ r : Int × Int, Thr x1 y1 x2 y2 r.1 r.2 ∧ ahead x1 y1 x2 y2 p r ∧ ahead x1 y1 x2 y2 r q
    · obtain ⟨r, tr, a1, a2⟩ := c
      have := ahead_along a2
      exact next_some N r tr a1 (by omega)
    · exact ⟨q, tq, a, fun r tr a1 a2 => c ⟨r, tr, a1, a2⟩⟩
theorem step_some {p : Int × Int} (h : Thr x1 y1 x2 y2 p.1 p.2) (hne : p ≠ (x2, y2)) : ∃ r : Int × Int, Thr x1 y1 x2 y2 r.1 r.2 ∧ Tight x1 y1 x2 y2 p r := by
  rcases thr_to h with e | b
  · exact absurd e hne
  · refine next_some (along x1 y1 x2 y2 (x2, y2) - along x1 y1 x2 y2 p).toNat (x2, y2) (thr_last ..) b ?_
    have := ahead_along b
    omega
theorem sgn_mul {n k : Int} (h : 0 ≤ k * n) : 0 ≤ k * sgn n := by
  unfold sgn
  split
  · rename_i c
    rcases Int.lt_or_le k 0 with z | z
    · have := Int.mul_neg_of_neg_of_pos z c
      omega
    · omega
  · split
    · rename_i c
      rcases Int.lt_or_le 0 k with z | z
      · have := Int.mul_neg_of_pos_of_neg z c
        omega
      · omega
    · omega
theorem sgn_zero {n : Int} : sgn n = 0 ↔ n = 0 := by unfold sgn; split <;> (try split) <;> omega
theorem sgn_cases (n : Int) : (n = 0 ∧ sgn n = 0) ∨ (0 < n ∧ sgn n = 1) ∨ (n < 0 ∧ sgn n = -1) := by unfold sgn; split <;> (try split) <;> omega
/-- the key that rises along a stroke -/
def key (x1 y1 x2 y2 : Int) (p : Int × Int) : Int := sgn (x2 - x1) * p.1 + sgn (y2 - y1) * p.2
theorem ahead_sgn {p q : Int × Int} (h : ahead x1 y1 x2 y2 p q) : 0 ≤ (q.1 - p.1) * sgn (x2 - x1) ∧ 0 ≤ (q.2 - p.2) * sgn (y2 - y1) := ⟨sgn_mul h.2.1, sgn_mul h.2.2.1⟩
theorem ahead_key {p q : Int × Int} (h : ahead x1 y1 x2 y2 p q) : key x1 y1 x2 y2 p < key x1 y1 x2 y2 q := by
  obtain ⟨a, b⟩ := ahead_sgn h
  have n := pair_ne h.1
  have c := h.2.2.2.1
  have d := h.2.2.2.2
  unfold key
  rcases sgn_cases (x2 - x1) with ⟨u, e⟩ | ⟨u, e⟩ | ⟨u, e⟩ <;> rcases sgn_cases (y2 - y1) with ⟨v, e'⟩ | ⟨v, e'⟩ | ⟨v, e'⟩ <;> rw [e, e'] <;> rw [e] at a <;> rw [e'] at b <;> omega
def nextL (x1 y1 x2 y2 px py : Int) : Int × Int :=
  if sgn (x2 - x1) ≠ 0 ∧ goesL x1 y1 x2 y2 (px + sgn (x2 - x1)) py = true then (px + sgn (x2 - x1), py)
  else if sgn (y2 - y1) ≠ 0 ∧ goesL x1 y1 x2 y2 px (py + sgn (y2 - y1)) = true then (px, py + sgn (y2 - y1))
  else (px + sgn (x2 - x1), py + sgn (y2 - y1))
theorem sgn_step {n k : Int} (h : 0 ≤ k * n) (h0 : n = 0 → k = 0) (h1 : -1 ≤ k ∧ k ≤ 1) : k = 0 ∨ (n ≠ 0 ∧ k = sgn n) := by
  have z := sgn_mul h
  rcases sgn_cases n with ⟨u, e⟩ | ⟨u, e⟩ | ⟨u, e⟩
  · exact .inl (h0 u)
  · rw [e] at z ⊢
    omega
  · rw [e] at z ⊢
    omega
theorem sgn_self {n : Int} (h : n ≠ 0) : 0 ≤ sgn n * n := by
  rcases sgn_cases n with ⟨u, e⟩ | ⟨u, e⟩ | ⟨u, e⟩ <;> rw [e] <;> omega
theorem nextL_ok {p : Int × Int} (h : Thr x1 y1 x2 y2 p.1 p.2) (hne : p ≠ (x2, y2)) : Tight x1 y1 x2 y2 p (nextL x1 y1 x2 y2 p.1 p.2) ∧ Thr x1 y1 x2 y2 (nextL x1 y1 x2 y2 p.1 p.2).1 (nextL x1 y1 x2 y2 p.1 p.2).2 := by
  unfold nextL
  split
  · rename_i c
    rw [goesL_iff] at c
    refine ⟨tight_one ⟨fun e => ?_, ?_, ?_, fun e => ?_, fun _ => rfl⟩ (.inr ⟨rfl, ?_⟩), c.2⟩
    · have := congrArg Prod.fst e
      dsimp only at this
      omega
    · dsimp only
      rw [show p.1 + sgn (x2 - x1) - p.1 = sgn (x2 - x1) by omega]
      exact sgn_self (fun z => c.1 (sgn_zero.mpr z))
    · dsimp only
      rw [Int.sub_self, Int.zero_mul]
      exact Int.le_refl _
    · exact absurd (sgn_zero.mpr (by omega)) c.1
    · dsimp only
      rcases sgn_cases (x2 - x1) with ⟨u, e⟩ | ⟨u, e⟩ | ⟨u, e⟩ <;> rw [e] at c ⊢ <;> omega
  · rename_i n1
    split
    · rename_i c
      rw [goesL_iff] at c
      refine ⟨tight_one ⟨fun e => ?_, ?_, ?_, fun _ => rfl, fun e => ?_⟩ (.inl ⟨rfl, ?_⟩), c.2⟩
      · have := congrArg Prod.snd e
        dsimp only at this
        omega
      · dsimp only
        rw [Int.sub_self, Int.zero_mul]
        exact Int.le_refl _
      · dsimp only
        rw [show p.2 + sgn (y2 - y1) - p.2 = sgn (y2 - y1) by omega]
        exact sgn_self (fun z => c.1 (sgn_zero.mpr z))
      · exact absurd (sgn_zero.mpr (by omega)) c.1
      · dsimp only
        rcases sgn_cases (y2 - y1) with ⟨u, e⟩ | ⟨u, e⟩ | ⟨u, e⟩ <;> rw [e] at c ⊢ <;> omega
    · rename_i n2
      rw [goesL_iff] at n1 n2
      obtain ⟨r, tr, tg⟩ := step_some h hne
      have sx := sgn_step tg.1.2.1 (fun z => by have := tg.1.2.2.2.1 (by omega); omega) (next_x h tr tg.1 tg.2)
      have sy := sgn_step tg.1.2.2.1 (fun z => by have := tg.1.2.2.2.2 (by omega); omega) (next_y h tr tg.1 tg.2)
      have ne := pair_ne tg.1.1
      have er : r = (p.1 + sgn (x2 - x1), p.2 + sgn (y2 - y1)) := by
        rcases sx with sx | ⟨ux, sx⟩
        · rcases sy with sy | ⟨uy, sy⟩
          · omega
          · exfalso
            refine n2 ⟨fun z => uy (sgn_zero.mp z), ?_⟩
            rw [show p.1 = r.1 by omega, show p.2 + sgn (y2 - y1) = r.2 by omega]
            exact tr
        · rcases sy with sy | ⟨uy, sy⟩
          · exfalso
            refine n1 ⟨fun z => ux (sgn_zero.mp z), ?_⟩
            rw [show p.2 = r.2 by omega, show p.1 + sgn (x2 - x1) = r.1 by omega]
            exact tr
          · exact Prod.ext (by dsimp only; omega) (by dsimp only; omega)
      rw [← er]
      exact ⟨tg, tr⟩
theorem row_len {S : Int × Int → Prop} {L : List (Int × Int)} (h : RowOf x1 y1 x2 y2 S L) (hb : -40 ≤ x1 ∧ x1 ≤ 40 ∧ -40 ≤ y1 ∧ y1 ≤ 40 ∧ -40 ≤ x2 ∧ x2 ≤ 40 ∧ -40 ≤ y2 ∧ y2 ≤ 40) : L.length ≤ 161 := by
  have := rising_len (key x1 y1 x2 y2) (a := -80) (b := 80) (h.2.imp fun a => ahead_key a) fun p hp => by
    have t := thr_betw ((h.1 p).mp hp).2
    unfold key
    rcases sgn_cases (x2 - x1) with ⟨u, e⟩ | ⟨u, e⟩ | ⟨u, e⟩ <;> rcases sgn_cases (y2 - y1) with ⟨v, e'⟩ | ⟨v, e'⟩ | ⟨v, e'⟩ <;> rw [e, e'] <;> omega
  rw [if_neg (by decide)] at this
  omega
end
end DM

namespace DM
open PySem L2
def spEnds : Sp := fun vs H Q _ => ∃ (p : Addr) (x1 y1 x2 y2 : Int), vs = [.ref p] ∧ H p = some (.tup [.int x1, .int y1, .int x2, .int y2]) ∧ ∀ (r e0 e1 : Addr) (H' : Hp), Same H H' → H' r = some (.tup [.ref e0, .ref e1]) → H' e0 = some (.tup [.int x1, .int y1]) → H' e1 = some (.tup [.int x2, .int y2]) → Q (.ref r) H'
section
variable {P : Program} {w : World} {K : PySem.W.Frag} {mg : Str → Option Value} {base : Heap} {f : Addr} {fd : FuncData}
abbrev s_ends_of : Stmt := top 10
theorem sc_ends_of : FnScope ["stroke", "x1", "y1", "x2", "y2"] ["stroke"] (defScope s_ends_of) := ⟨rfl, rfl, rfl, by decide +kernel, rfl, by decide +kernel, by decide +kernel⟩
theorem ok_ends_of (F : Fun K "ends_of" "ends_of" s_ends_of f fd) : FnOk P w K mg base CX0 1 f fd ["stroke"] spEnds := by
  refine F.ok sc_ends_of (fun vs H Q E h => ?_) (fun cdv A outer s H vs Q E hr h => ?_)
  · obtain ⟨p, x1, y1, x2, y2, rfl, _⟩ := h
    rfl
  obtain ⟨p, x1, y1, x2, y2, rfl, hp, q⟩ := h
  refine ⟨_, (pss_cons (ps_asg (pv 0) (pg_tup rfl (pgs_cons (pg_name (i := 1) sc_ends_of.nd rfl (Or.inl rfl)) (pgs_cons (pg_name (i := 2) sc_ends_of.nd rfl (Or.inl rfl)) (pgs_cons (pg_name (i := 3) sc_ends_of.nd rfl (Or.inl rfl)) (pgs_cons (pg_name (i := 4) sc_ends_of.nd rfl (Or.inl rfl)) pgs_nil))))))
    (pss_one (ps_ret (pe_tup (pa_cons (pe_tup (pa_cons (pv 1) (pa_cons (pv 2) pa_nil))) (pa_cons (pe_tup (pa_cons (pv 3) (pa_cons (pv 4) pa_nil))) pa_nil)))))), ?_⟩
  refine ⟨_, rfl, p, _, rfl, SqT.of hp, rfl, _, _, rfl, _, _, rfl, _, _, rfl, _, _, rfl, rfl, ?_⟩
  refine ⟨_, rfl, _, rfl, sz (by decide : 2 ≤ 100000), fun e0 n0 => ⟨_, rfl, _, rfl, sz (by decide : 2 ≤ 100000), fun e1 n1 => ⟨sz (by decide : 2 ≤ 100000), fun r nr => ?_⟩⟩⟩
  exact q r e0 e1 _ ((same_new n0 _).trans ((same_new n1 _).trans (same_new nr _))) upd_same (same_new nr _ _ _ (same_new n1 _ _ _ upd_same)) (same_new nr _ _ _ upd_same)
end
end DM

namespace DM
open PySem L2
/-! ### lists of pairs -/
def PrV (H : Hp) (v : V) (p : Int × Int) : Prop := ∃ a : Addr, v = .ref a ∧ H a = some (.tup [.int p.1, .int p.2])
inductive Prs (H : Hp) : List V → List (Int × Int) → Prop
  | nil : Prs H [] []
  | cons {v : V} {p : Int × Int} {vs : List V} {L : List (Int × Int)} : PrV H v p → Prs H vs L → Prs H (v :: vs) (p :: L)
theorem PrV.same {H H' : Hp} {v : V} {p : Int × Int} (h : PrV H v p) (e : Same H H') : PrV H' v p := by
  obtain ⟨a, rfl, z⟩ := h
  exact ⟨a, rfl, e _ _ z⟩
theorem Prs.same {H H' : Hp} {vs : List V} {L : List (Int × Int)} (h : Prs H vs L) (e : Same H H') : Prs H' vs L := by
  induction h with
  | nil => exact .nil
  | cons a _ ih => exact .cons (a.same e) ih
theorem Prs.len {H : Hp} {vs : List V} {L : List (Int × Int)} (h : Prs H vs L) : vs.length = L.length := by
  induction h with
  | nil => rfl
  | cons a _ ih => rw [List.length_cons, List.length_cons, ih]
theorem Prs.snoc {H : Hp} {vs : List V} {L : List (Int × Int)} {v : V} {p : Int × Int} (h : Prs H vs L) (hv : PrV H v p) : Prs H (vs ++ [v]) (L ++ [p]) := by
  induction h with
  | nil => exact .cons hv .nil
  | cons a _ ih => exact .cons a ih
theorem Prs.at {H : Hp} {vs : List V} {L : List (Int × Int)} (h : Prs H vs L) : ∀ {i : Nat} {v : V}, vs[i]? = some v → ∃ p, L[i]? = some p ∧ PrV H v p := by
  induction h with
  | nil => intro i v hv; cases hv
  | cons a _ ih =>
    intro i v hv
    cases i with
    | zero => cases hv; exact ⟨_, rfl, a⟩
    | succ i => exact ih hv
theorem Prs.get {H : Hp} {vs : List V} {L : List (Int × Int)} (h : Prs H vs L) : ∀ {i : Nat} {p : Int × Int}, L[i]? = some p → ∃ v, vs[i]? = some v ∧ PrV H v p := by
  induction h with
  | nil => intro i v hv; cases hv
  | cons a _ ih =>
    intro i v hv
    cases i with
    | zero => cases hv; exact ⟨_, rfl, a⟩
    | succ i => exact ih hv
/-- but for what stands at a list -/
theorem Prs.but {H H' : Hp} {vs : List V} {L : List (Int × Int)} {l : Addr} (h : Prs H vs L) (hl : ∀ xs, H l ≠ some (.tup xs)) (e : ∀ a o, a ≠ l → H a = some o → H' a = some o) : Prs H' vs L := by
  induction h with
  | nil => exact .nil
  | cons a _ ih =>
    obtain ⟨b, rfl, z⟩ := a
    exact .cons ⟨b, rfl, e _ _ (fun y => hl _ (y ▸ z)) z⟩ ih
/-- how far a walk along a stroke has still to go -/
def leftAt (x1 y1 x2 y2 : Int) : Option HO → Nat
  | some (HO.tup [V.int a, V.int b]) => (key x1 y1 x2 y2 (x2, y2) - key x1 y1 x2 y2 (a, b)).toNat
  | _ => 0
def leftSq (x1 y1 x2 y2 : Int) (σ : St) (J : Hp) : Nat := match σ with
  | [_, some (V.ref eh), _, _] => leftAt x1 y1 x2 y2 (J eh)
  | _ => 0
def spHeading : Sp := fun vs H Q _ => ∃ (p : Addr) (x1 y1 x2 y2 : Int), vs = [.ref p] ∧ Stk H p x1 y1 x2 y2 ∧ ∀ (r : Addr) (H' : Hp), Same H H' → H' r = some (.tup [.int (sgn (x2 - x1)), .int (sgn (y2 - y1))]) → Q (.ref r) H'
def spBehind : Sp := fun vs H Q _ => ∃ (p ph : Addr) (x1 y1 x2 y2 px py : Int), vs = [.ref p, .ref ph] ∧ Stk H p x1 y1 x2 y2 ∧ H ph = some (.tup [.int px, .int py]) ∧ (-500 ≤ px ∧ px ≤ 500 ∧ -500 ≤ py ∧ py ≤ 500) ∧ ∀ (r : Addr) (H' : Hp), Same H H' → H' r = some (.tup [.int (nextL x1 y1 x2 y2 px py).1, .int (nextL x1 y1 x2 y2 px py).2]) → Q (.ref r) H'
def spSquares : Sp := fun vs H Q _ => ∃ (p : Addr) (x1 y1 x2 y2 : Int), vs = [.ref p] ∧ Stk H p x1 y1 x2 y2 ∧ ∀ (r : Addr) (H' : Hp) (xs : List V) (L : List (Int × Int)), Same H H' → H r = none → H' r = some (.lst xs) → Prs H' xs L → Row x1 y1 x2 y2 L → Q (.ref r) H'
section
variable {P : Program} {w : World} {K : PySem.W.Frag} {mg : Str → Option Value} {base : Heap} {f : Addr} {fd : FuncData}
abbrev s_heading : Stmt := top 11
theorem sc_heading : FnScope ["stroke", "x1", "y1", "x2", "y2"] ["stroke"] (defScope s_heading) := ⟨rfl, rfl, rfl, by decide +kernel, rfl, by decide +kernel, by decide +kernel⟩
theorem ok_heading (c_sign : Cal P w K mg base 1 "sign" ["number"] spSign) (F : Fun K "heading" "heading" s_heading f fd) : FnOk P w K mg base CX0 2 f fd ["stroke"] spHeading := by
  refine F.ok sc_heading (fun vs H Q E h => ?_) (fun cdv A outer s H vs Q E hr h => ?_)
  · obtain ⟨p, x1, y1, x2, y2, rfl, _⟩ := h
    rfl
  obtain ⟨p, x1, y1, x2, y2, rfl, hst, q⟩ := h
  refine ⟨_, (pss_cons (ps_asg (pv 0) (pg_tup rfl (pgs_cons (pg_name (i := 1) sc_heading.nd rfl (Or.inl rfl)) (pgs_cons (pg_name (i := 2) sc_heading.nd rfl (Or.inl rfl)) (pgs_cons (pg_name (i := 3) sc_heading.nd rfl (Or.inl rfl)) (pgs_cons (pg_name (i := 4) sc_heading.nd rfl (Or.inl rfl)) pgs_nil))))))
    (pss_one (ps_ret (pe_tup (pa_cons (pe_cal c_sign hr (pa_cons (pe_op op_sub (pv 3) (pv 1)) pa_nil)) (pa_cons (pe_cal c_sign hr (pa_cons (pe_op op_sub (pv 4) (pv 2)) pa_nil)) pa_nil)))))), ?_⟩
  refine ⟨_, rfl, p, _, rfl, SqT.of hst.1, rfl, _, _, rfl, _, _, rfl, _, _, rfl, _, _, rfl, rfl, ?_⟩
  refine ⟨_, rfl, _, rfl, _, _, rfl, rfl, _, rfl, ?_⟩
  refine ⟨_, rfl, _, rfl, _, _, rfl, rfl, _, rfl, ?_⟩
  exact ⟨sz (by decide : 2 ≤ 100000), fun r nr => q r _ (same_new nr _) upd_same⟩
abbrev s_square_behind : Stmt := top 16
theorem sc_square_behind : FnScope ["stroke", "here", "x", "y", "right", "upward"] ["stroke", "here"] (defScope s_square_behind) := ⟨rfl, rfl, rfl, by decide +kernel, rfl, by decide +kernel, by decide +kernel⟩
theorem ok_square_behind (c_heading : Cal P w K mg base 2 "heading" ["stroke"] spHeading) (c_p_goes : Cal P w K mg base 3 "goes" ["stroke", "spot"] spGoes) (F : Fun K "square_behind" "square_behind" s_square_behind f fd) : FnOk P w K mg base CX0 4 f fd ["stroke", "here"] spBehind := by
  refine F.ok sc_square_behind (fun vs H Q E h => ?_) (fun cdv A outer s H vs Q E hr h => ?_)
  · obtain ⟨p, ph, x1, y1, x2, y2, px, py, rfl, _⟩ := h
    rfl
  obtain ⟨p, ph, x1, y1, x2, y2, px, py, rfl, hst, hh, bh, q⟩ := h
  refine ⟨_, (pss_cons (ps_asg (pv 1) (pg_tup rfl (pgs_cons (pg_name (i := 2) sc_square_behind.nd rfl (Or.inl rfl)) (pgs_cons (pg_name (i := 3) sc_square_behind.nd rfl (Or.inl rfl)) pgs_nil))))
    (pss_cons (ps_asg (pe_cal c_heading hr (pa_cons (pv 0) pa_nil)) (pg_tup rfl (pgs_cons (pg_name (i := 4) sc_square_behind.nd rfl (Or.inl rfl)) (pgs_cons (pg_name (i := 5) sc_square_behind.nd rfl (Or.inl rfl)) pgs_nil))))
    (pss_cons (ps_if (PW.pt (pw_and (pt_cmpR op_ne (pv 4) pe_int (nomark _)) (pw_and1 (pt_val (pe_cal c_p_goes hr (pa_cons (pv 0) (pa_cons (pe_tup (pa_cons (pe_op op_add (pv 2) (pv 4)) (pa_cons (pv 3) pa_nil))) pa_nil)))))))
    (pss_one (ps_ret (pe_tup (pa_cons (pe_op op_add (pv 2) (pv 4)) (pa_cons (pv 3) pa_nil)))))
    pss_nil)
    (pss_cons (ps_if (PW.pt (pw_and (pt_cmpR op_ne (pv 5) pe_int (nomark _)) (pw_and1 (pt_val (pe_cal c_p_goes hr (pa_cons (pv 0) (pa_cons (pe_tup (pa_cons (pv 2) (pa_cons (pe_op op_add (pv 3) (pv 5)) pa_nil))) pa_nil)))))))
    (pss_one (ps_ret (pe_tup (pa_cons (pv 2) (pa_cons (pe_op op_add (pv 3) (pv 5)) pa_nil)))))
    pss_nil)
    (pss_one (ps_ret (pe_tup (pa_cons (pe_op op_add (pv 2) (pv 4)) (pa_cons (pe_op op_add (pv 3) (pv 5)) pa_nil))))))))), ?_⟩
  refine ⟨_, rfl, ph, _, rfl, SqT.of hh, rfl, _, _, rfl, _, _, rfl, rfl, ?_⟩
  refine ⟨_, rfl, p, x1, y1, x2, y2, rfl, hst, fun r1 H1 s1 h1 => ⟨r1, _, rfl, SqT.of h1, rfl, _, _, rfl, _, _, rfl, rfl, ?_⟩⟩
  have sx := sgn_cases (x2 - x1)
  have sy := sgn_cases (y2 - y1)
  unfold nextL at q
  generalize sgn (x2 - x1) = rx at *
  generalize sgn (y2 - y1) = ry at *
  have hst1 := hst.same s1
  dsimp only [gName, tNext]
  refine seq_with (fun σ' H' => σ' = [some (.ref p), some (.ref ph), some (.int px), some (.int py), some (.int rx), some (.int ry)] ∧ Same H1 H' ∧ ¬ (rx ≠ 0 ∧ goesL x1 y1 x2 y2 (px + rx) py = true)) (fun R hR => ?_) ?_
  · refine ⟨_, rfl, rfl, _, rfl, ?_⟩
    by_cases c : rx = 0
    · refine iteNS (congrArg V.int c) ?_
      exact hR _ _ ⟨rfl, Same.refl _, fun z => z.1 c⟩
    · refine if_pos' (by rw [decide_eq_false (fun z => c (V.int.inj z))]; rfl) ?_
      refine ⟨_, rfl, _, rfl, _, rfl, _, _, rfl, rfl, _, rfl, sz (by decide : 2 ≤ 100000), fun t nt => ?_⟩
      have gt := same_new nt (.tup [.int (px + rx), .int py])
      refine ⟨p, t, x1, y1, x2, y2, px + rx, py, rfl, hst1.same gt, upd_same, by omega, fun H2 s2 => ?_⟩
      refine ⟨_, rfl, ?_⟩
      by_cases d : goesL x1 y1 x2 y2 (px + rx) py = true
      · rw [d]
        refine iteT ?_
        rw [if_pos ⟨c, d⟩] at q
        refine ⟨_, rfl, _, rfl, _, _, rfl, rfl, _, rfl, sz (by decide : 2 ≤ 100000), fun r nr => ?_⟩
        exact q r _ (s1.trans (gt.trans (s2.trans (same_new nr _)))) upd_same
      · rw [Bool.not_eq_true] at d
        rw [d]
        refine iteF ?_
        exact hR _ _ ⟨rfl, gt.trans s2, fun z => by rw [d] at z; exact absurd z.2 (by decide)⟩
  · rintro σ H2 ⟨rfl, s2, n1⟩
    rw [if_neg n1] at q
    have hst2 := hst1.same s2
    refine seq_with (fun σ' H' => σ' = [some (.ref p), some (.ref ph), some (.int px), some (.int py), some (.int rx), some (.int ry)] ∧ Same H2 H' ∧ ¬ (ry ≠ 0 ∧ goesL x1 y1 x2 y2 px (py + ry) = true)) (fun R hR => ?_) ?_
    · refine ⟨_, rfl, rfl, _, rfl, ?_⟩
      by_cases c : ry = 0
      · refine iteNS (congrArg V.int c) ?_
        exact hR _ _ ⟨rfl, Same.refl _, fun z => z.1 c⟩
      · refine if_pos' (by rw [decide_eq_false (fun z => c (V.int.inj z))]; rfl) ?_
        refine ⟨_, rfl, _, rfl, _, rfl, _, rfl, _, _, rfl, rfl, sz (by decide : 2 ≤ 100000), fun t nt => ?_⟩
        have gt := same_new nt (.tup [.int px, .int (py + ry)])
        refine ⟨p, t, x1, y1, x2, y2, px, py + ry, rfl, hst2.same gt, upd_same, by omega, fun H3 s3 => ?_⟩
        refine ⟨_, rfl, ?_⟩
        by_cases d : goesL x1 y1 x2 y2 px (py + ry) = true
        · rw [d]
          refine iteT ?_
          rw [if_pos ⟨c, d⟩] at q
          refine ⟨_, rfl, _, rfl, _, rfl, _, _, rfl, rfl, sz (by decide : 2 ≤ 100000), fun r nr => ?_⟩
          exact q r _ (s1.trans (s2.trans (gt.trans (s3.trans (same_new nr _))))) upd_same
        · rw [Bool.not_eq_true] at d
          rw [d]
          refine iteF ?_
          exact hR _ _ ⟨rfl, gt.trans s3, fun z => by rw [d] at z; exact absurd z.2 (by decide)⟩
    · rintro σ H3 ⟨rfl, s3, n2⟩
      rw [if_neg n2] at q
      refine ⟨_, rfl, _, rfl, _, _, rfl, rfl, _, rfl, _, rfl, _, _, rfl, rfl, sz (by decide : 2 ≤ 100000), fun r nr => ?_⟩
      exact q r _ (s1.trans (s2.trans (s3.trans (same_new nr _)))) upd_same
abbrev s_squares : Stmt := top 15
theorem sc_squares : FnScope ["stroke", "here", "end", "found"] ["stroke"] (defScope s_squares) := ⟨rfl, rfl, rfl, by decide +kernel, rfl, by decide +kernel, by decide +kernel⟩
theorem ok_squares (c_ends_of : Cal P w K mg base 1 "ends_of" ["stroke"] spEnds) (c_square_behind : Cal P w K mg base 4 "square_behind" ["stroke", "here"] spBehind) (F : Fun K "squares" "squares" s_squares f fd) : FnOk P w K mg base CX0 5 f fd ["stroke"] spSquares := by
  refine F.ok sc_squares (fun vs H Q E h => ?_) (fun cdv A outer s H vs Q E hr h => ?_)
  · obtain ⟨p, x1, y1, x2, y2, rfl, _⟩ := h
    rfl
  obtain ⟨p, x1, y1, x2, y2, rfl, hst, q⟩ := h
  refine ⟨_, (pss_cons (ps_asg (pe_cal c_ends_of hr (pa_cons (pv 0) pa_nil)) (pg_tup rfl (pgs_cons (pg_name (i := 1) sc_squares.nd rfl (Or.inl rfl)) (pgs_cons (pg_name (i := 2) sc_squares.nd rfl (Or.inl rfl)) pgs_nil))))
    (pss_cons (ps_set (i := 3) sc_squares.nd rfl (Or.inl rfl) (pe_lst (pa_cons (pv 1) pa_nil)))
    (pss_cons (ps_while PassesOwn.never (pt_cmpR (op_neD hr.units) (pv 1) (pv 2) (nomark _))
    (pss_cons (ps_set (i := 1) sc_squares.nd rfl (Or.inl rfl) (pe_cal c_square_behind hr (pa_cons (pv 0) (pa_cons (pv 1) pa_nil))))
    (pss_one (ps_expr (pe_bm PySem.F.plainAttrs_list PySem.F.slot_list_append PySem.F.type_list_append mt_append (pv 3) (pa_cons (pv 1) pa_nil))))))
    (pss_one (ps_ret (pv 3)))))), ?_⟩
  refine ⟨_, rfl, p, x1, y1, x2, y2, rfl, hst.1, fun r0 e0 e1 H1 s1 h1 k0 k1 => ⟨r0, _, rfl, SqT.of h1, rfl, _, _, rfl, _, _, rfl, rfl, ?_⟩⟩
  refine ⟨_, rfl, sz (by decide : 1 ≤ 100000), fun l nl => ?_⟩
  have gl := same_new nl (.lst [.ref e0])
  have nlH : H l = none := s1.free nl
  have bs := hst.2.1
  refine while_by (fun σ J => ∃ (eh : Addr) (xs : List V) (t : List (Int × Int)) (px py : Int), σ = [some (.ref p), some (.ref eh), some (.ref e1), some (.ref l)] ∧ Same H J ∧ J e1 = some (.tup [.int x2, .int y2]) ∧ J l = some (.lst xs) ∧ Prs J xs ((x1, y1) :: t) ∧ J eh = some (.tup [.int px, .int py]) ∧ Thr x1 y1 x2 y2 px py ∧ t.length ≤ 1000 ∧ (t.length : Int) ≤ key x1 y1 x2 y2 (px, py) - key x1 y1 x2 y2 (x1, y1) ∧ (∀ u, Walk x1 y1 x2 y2 (px, py) u → Walk x1 y1 x2 y2 (x1, y1) (t ++ u)))
    (leftSq x1 y1 x2 y2) ?_ ?_ ?_
  · refine ⟨e0, [.ref e0], [], x1, y1, rfl, s1.trans gl, gl _ _ k1, upd_same, .cons ⟨e0, rfl, gl _ _ k0⟩ .nil, gl _ _ k0, thr_first .., by decide, ?_, fun u hu => hu⟩
    rw [Int.sub_self]
    exact Int.le_refl _
  · rintro σ J ⟨eh, xs, t, px, py, rfl, sJ, j1, jl, jp, jh, th, tl, tk, wk⟩
    refine ⟨_, rfl, _, rfl, _, _, dp_pair jh, dp_pair j1, shaped_pair _ _, shaped_pair _ _, _, rfl, ?_⟩
    rw [eqv_pair]
    have bt := thr_betw (p := (px, py)) th
    dsimp only at bt
    by_cases c : px = x2 ∧ py = y2
    · refine iteNS c ?_
      obtain ⟨rfl, rfl⟩ := c
      refine ⟨_, rfl, ?_⟩
      have w0 := wk [] rfl
      rw [List.append_nil] at w0
      exact q l J xs _ sJ nlH jl jp (Row.walk w0)
    · refine if_pos' (by rw [decide_eq_false c]; rfl) ?_
      have hst' := hst.same sJ
      refine ⟨_, rfl, _, rfl, p, eh, x1, y1, x2, y2, px, py, rfl, hst', jh, by omega, fun r J1 sm hr1 => ?_⟩
      have ok := nextL_ok (p := (px, py)) th (fun z => c ⟨congrArg Prod.fst z, congrArg Prod.snd z⟩)
      dsimp only at ok
      generalize nextL x1 y1 x2 y2 px py = nx at *
      have jl1 := sm _ _ jl
      have ak := ahead_key ok.1.1
      have bt' := thr_betw ok.2
      have kb : key x1 y1 x2 y2 nx ≤ key x1 y1 x2 y2 (x2, y2) := by
        rcases thr_to ok.2 with z | z
        · rw [z]; exact Int.le_refl _
        · exact Int.le_of_lt (ahead_key z)
      have kr : key x1 y1 x2 y2 (x2, y2) - key x1 y1 x2 y2 (x1, y1) ≤ 160 := by
        unfold key
        rcases sgn_cases (x2 - x1) with ⟨u, e⟩ | ⟨u, e⟩ | ⟨u, e⟩ <;> rcases sgn_cases (y2 - y1) with ⟨v, e'⟩ | ⟨v, e'⟩ | ⟨v, e'⟩ <;> rw [e, e'] <;> dsimp only <;> omega
      have xl : xs.length = t.length + 1 := jp.len
      refine ⟨_, rfl, .inl ⟨rfl, _, SqL.of jl1⟩, _, rfl, l, xs, _, rfl, rfl, jl1, Nat.lt_of_lt_of_le (by omega : xs.length < 100000) (sz (Nat.le_refl _)), ?_⟩
      have nt : ∀ zs, J1 l ≠ some (.tup zs) := fun zs z => by rw [jl1] at z; cases z
      have keep : ∀ a o, a ≠ l → J1 a = some o → upd J1 l (.lst (xs ++ [.ref r])) a = some o := fun a o ha z => by rw [upd_ne ha]; exact z
      have nel : ∀ (a : Addr) (zs : List V), J1 a = some (.tup zs) → a ≠ l := fun a zs z y => nt zs (y ▸ z)
      refine ⟨⟨r, xs ++ [.ref r], t ++ [nx], nx.1, nx.2, rfl, ?_, keep _ _ (nel _ _ (sm _ _ j1)) (sm _ _ j1), upd_same, ?_, keep _ _ (nel _ _ hr1) hr1, ok.2, ?_, ?_, ?_⟩, ?_⟩
      · exact fun a o z => keep _ _ (ne_of_none z nlH) (sm _ _ (sJ _ _ z))
      · exact ((jp.same sm).snoc ⟨r, rfl, hr1⟩).but nt keep
      · rw [List.length_append, List.length_singleton]
        have : key x1 y1 x2 y2 (nx.1, nx.2) = key x1 y1 x2 y2 nx := rfl
        omega
      · rw [List.length_append, List.length_singleton]
        have : key x1 y1 x2 y2 (nx.1, nx.2) = key x1 y1 x2 y2 nx := rfl
        omega
      · intro u hu
        rw [List.append_assoc]
        exact wk _ ⟨ok.1, ok.2, hu⟩
      · show leftAt x1 y1 x2 y2 ((upd J1 l (.lst (xs ++ [.ref r]))) r) < leftAt x1 y1 x2 y2 (J eh)
        rw [keep _ _ (nel _ _ hr1) hr1, jh]
        unfold leftAt
        dsimp only
        have : key x1 y1 x2 y2 (nx.1, nx.2) = key x1 y1 x2 y2 nx := rfl
        omega
  · rintro σ J Q1 Q2 hq ⟨v, h1, v', h2, d, e, h3, h4, h5, h6, k, h7, h8⟩
    exact ⟨v, h1, v', h2, d, e, h3, h4, h5, h6, k, h7, hq _ _ h8⟩
end
end DM

namespace DM
open PySem L2
/-! ### pairs, and lists of pairs, as data -/
theorem u65 {k : Nat} {A : Around} (r : Room k A) : A.units + 65 < cLine := by have := r.un; omega
def prD (p : Int × Int) : PyData := .tuple [.int p.1, .int p.2]
theorem take_snoc {α : Type} {L : List α} {i : Nat} {p : α} (h : L[i]? = some p) : L.take (i + 1) = L.take i ++ [p] := by
  rw [List.take_add_one, h]
  rfl
theorem dp_prV {K : PySem.W.Frag} {H : Hp} {v : V} {p : Int × Int} (h : PrV H v p) : Dp K H v (prD p) := by
  obtain ⟨a, rfl, z⟩ := h
  exact dp_pair z
theorem dp_prAll {K : PySem.W.Frag} {H : Hp} {vs : List V} {L : List (Int × Int)} (h : Prs H vs L) : DpAll K H vs (L.map prD) := by
  induction h with
  | nil => exact .nil
  | cons a _ ih => exact .cons (dp_prV a) ih
theorem dp_prs {K : PySem.W.Frag} {H : Hp} {r : Addr} {vs : List V} {L : List (Int × Int)} (e : H r = some (.lst vs)) (h : Prs H vs L) : Dp K H (.ref r) (.list (L.map prD)) := .lst (SqL.of e) (dp_prAll h)
theorem lay_prs : ∀ L : List (Int × Int), PyData.canLayAll0 (L.map prD) = true ∧ PyData.depthAll (L.map prD) ≤ 1
  | [] => ⟨rfl, by decide⟩
  | p :: L => by
    have ih := lay_prs L
    rw [List.map_cons]
    unfold PyData.canLayAll0 PyData.depthAll
    rw [ih.1]
    refine ⟨rfl, ?_⟩
    have e : PyData.depth (prD p) = 1 := by unfold prD; simp only [PyData.depth, PyData.depthAll]; rfl
    rw [e]
    omega
theorem shaped_prs (L : List (Int × Int)) : SeqAt.shaped (.list (L.map prD)) = true := by
  have h := lay_prs L
  unfold SeqAt.shaped
  have e1 : PyData.canLay0 (.list (L.map prD)) = true := by unfold PyData.canLay0; exact h.1
  have e2 : PyData.depth (.list (L.map prD)) ≤ 64 := by unfold PyData.depth; omega
  rw [e1, decide_eq_true e2]
  rfl
theorem shaped_prD (p : Int × Int) : SeqAt.shaped (prD p) = true := shaped_pair _ _
theorem eqv_prD (p q : Int × Int) : PyData.eqv (prD p) (prD q) = decide (p = q) := by
  unfold prD
  rw [eqv_pair]
  apply decide_eq_decide.mpr
  exact ⟨fun h => Prod.ext h.1 h.2, fun h => ⟨congrArg Prod.fst h, congrArg Prod.snd h⟩⟩
theorem eqvAll_prs : ∀ L M : List (Int × Int), PyData.eqvAll (L.map prD) (M.map prD) = decide (L = M)
  | [], [] => rfl
  | [], _ :: _ => rfl
  | _ :: _, [] => rfl
  | p :: L, q :: M => by
    rw [List.map_cons, List.map_cons]
    unfold PyData.eqvAll
    rw [eqv_prD, eqvAll_prs L M, ← Bool.decide_and]
    apply decide_eq_decide.mpr
    rw [List.cons.injEq]
theorem eqv_prs (L M : List (Int × Int)) : PyData.eqv (.list (L.map prD)) (.list (M.map prD)) = decide (L = M) := by
  unfold PyData.eqv
  exact eqvAll_prs L M
theorem any_prs (L : List (Int × Int)) (p : Int × Int) : ((L.map prD).any fun z => PyData.eqv z (prD p)) = decide (p ∈ L) := by
  induction L with
  | nil => rfl
  | cons q L ih =>
    rw [List.map_cons, List.any_cons, ih, eqv_prD, ← Bool.decide_or]
    apply decide_eq_decide.mpr
    rw [List.mem_cons]
    exact ⟨fun h => h.imp Eq.symm id, fun h => h.imp Eq.symm id⟩
end DM

namespace DM
open PySem L2
/-! ### the greatest measure -/
theorem gcd_step {x y : Int} (hx : 0 ≤ x) (hy : 0 < y) : Int.gcd y (x % y) = Int.gcd x y := by
  have e1 : x = (x.toNat : Int) := by omega
  have e2 : y = (y.toNat : Int) := by omega
  rw [e1, e2, ← Int.natCast_emod, Int.gcd_natCast_natCast, Int.gcd_natCast_natCast, Nat.gcd_comm x.toNat, Nat.gcd_rec y.toNat x.toNat, Nat.gcd_comm (x.toNat % y.toNat)]
theorem gcd_end {x : Int} (hx : 0 ≤ x) : ((Int.gcd x 0 : Nat) : Int) = x := by
  rw [Int.gcd_zero_right]
  omega
theorem gcd_abs (a b : Int) : Int.gcd (if a < 0 then -a else a) (if b < 0 then -b else b) = Int.gcd a b := by
  split <;> split <;> simp only [Int.neg_gcd, Int.gcd_neg]
theorem gcd_abs1 (a b : Int) : Int.gcd (if a < 0 then -a else a) b = Int.gcd a b := by
  split <;> simp only [Int.neg_gcd]
theorem gcd_pos {a b : Int} (h : b ≠ 0) : 0 < ((Int.gcd a b : Nat) : Int) := by
  have := Int.gcd_pos_of_ne_zero_right a h
  omega
def spGcd : Sp := fun vs H Q _ => ∃ a b : Int, vs = [.int a, .int b] ∧ 0 ≤ a ∧ 0 ≤ b ∧ Q (.int (Int.gcd a b)) H
def spCom : Sp := fun vs H Q _ => ∃ a b : Int, vs = [.int a, .int b] ∧ Q (.int (Int.gcd a b)) H
def lowA (a b : Int) : Int := (if b < 0 then -a else a) / (Int.gcd a b : Nat)
def lowB (a b : Int) : Int := (if b < 0 then -b else b) / (Int.gcd a b : Nat)
/-- the part of two numbers, as a new pair -/
def spLow : Sp := fun vs H Q _ => ∃ a b : Int, vs = [.int a, .int b] ∧ b ≠ 0 ∧ b.natAbs < 4611686018427387904 ∧ ∀ (p : Addr) (H' : Hp), Same H H' → H' p = some (.tup [.int (lowA a b), .int (lowB a b)]) → Q (.ref p) H'
def spLowP : Sp := fun vs H Q _ => ∃ a b : Int, vs = [.int a, .int b] ∧ 0 < b ∧ b.natAbs < 4611686018427387904 ∧ ∀ (p : Addr) (H' : Hp), Same H H' → H' p = some (.tup [.int (lowA a b), .int (lowB a b)]) → Q (.ref p) H'
theorem gcd_le {a b : Int} (h : b ≠ 0) : ((Int.gcd a b : Nat) : Int) ≤ (b.natAbs : Int) := by
  have h1 : Int.gcd a b ≤ b.natAbs := Nat.le_of_dvd (by omega) (Nat.gcd_dvd_right a.natAbs b.natAbs)
  omega
theorem gcd_wide {i a b : Int} (h : b ≠ 0) (hb : b.natAbs < 4611686018427387904) : CDivW i ((Int.gcd a b : Nat) : Int) := by
  have h1 := gcd_le (a := a) h
  exact wide_div (b := 62) (gcd_pos h) (by omega) (by decide) (by decide)
section
variable {P : Program} {w : World} {K : PySem.W.Frag} {mg : Str → Option Value} {base : Heap} {f : Addr} {fd : FuncData}
end
end DM

namespace DM
open PySem PySem.W PyProof.Rows
section
variable {prog : Program} {w : World} {A : Around} {E : Value → Shared → Prop} {s : Shared} {α : Type} [DecidableEq α] [DatumOrd α]
/-! ### the lesser and the greater of two things alike -/
theorem two_best (bt : Nat → Nat → Bool) : argBest bt 1 = if bt 1 0 = true then 1 else 0 := by
  show (if bt 1 (argBest bt 0) = true then 1 else argBest bt 0) = _
  rfl
theorem least_two {u v : Value} {x y : α} {Q : Value → Shared → Prop} (hh : A.handled = none) (held : HoldAll s.heap [u, v] [x, y]) (room : A.units + 1 + Datum.depth α < cLine)
    (want : ∀ (h' : Heap) (tk : Nat), (∀ b o, s.heap.get? b = some o → h'.get? b = some o) → Q (if DatumOrd.lt y x = true then v else u) { s with heap := h', toks := tk }) : wpAny (model prog w) A (call (.builtin "min") [u, v]) Q E s := by
  have nm : (toString "min" ++ toString ".loop" : String) = "min.loop" := by decide
  refine call_function_tree F.kind_min F.plain_min F.entry_min (F.args_min2 u v) ?_
  show wpAny _ A.in1 (Builtin.Builtins.bindParams "min" ["key", "default"] 0 ⟨[], []⟩ >>= _) _ _ _
  refine wpAny_bind (wpAny_of_eq (a := [none, none]) rfl ?_)
  show wpAny _ A.in1 (newTuple [u, v] >>= _) _ _ _
  refine wpAny_bind (wpAny_newObj_type ?_)
  have grown : ∀ b o, s.heap.get? b = some o → (s.heap.push { cls := .type "tuple", data := .seq #[u, v] }).get? b = some o := fun b o z => Heap.get?_push_of_some _ z
  have isT : (s.heap.push { cls := .type "tuple", data := .seq #[u, v] }).IsTuple s.heap.objs.size #[u, v] := ⟨_, Heap.get?_push_size _ rfl, rfl, 0, rfl⟩
  obtain ⟨as, reads⟩ := held.keeps grown
  have cmp := cmpIn_lt (prog := prog) (w := w) (A := A.in1) (s := { s with heap := s.heap.push { cls := .type "tuple", data := .seq #[u, v] } }) (vs := #[u, v]) reads (alikeAll_datum [x, y]) (room_all (depthAll_map [x, y]) (by show A.units + 1 + Datum.depth α < cLine; exact room))
  refine wpAny_bind (iter_tupleW (A := A.in1) (s := { s with heap := s.heap.push { cls := .type "tuple", data := .seq #[u, v] } }) hh isT fun s2 e2 W st fp wr keep => ?_)
  refine wpAny_bind (wpAny_newObj_type ?_)
  have away : s2.heap.objs.size ∉ [(s.heap.push { cls := .type "tuple", data := .seq #[u, v] }).objs.size, s.heap.objs.size] := fun z => Nat.lt_irrefl _ (fp _ z)
  rw [nm]
  refine wpAny_pure ⟨plainId_quiet F.plain_min_loop _, codeAny_min_loop_firstH W _ wr _ cmp s2.heap.objs.size away (fresh_in keep) _ (by show 0 < 2; decide) (fun b o z => Heap.get?_push_of_some _ (keep b o z)) (W.frame 0 s2 _ s2.toks st (Nat.le_refl _) fun b _ o z => Heap.get?_push_of_some _ z) (Heap.get?_push_size _ rfl) fun r s3 best moved => ?_⟩
  obtain ⟨h', tk, rfl, old⟩ := moved_old e2 rfl (Moved.drop_new (tk := s2.toks) moved (Nat.le_refl _))
  have pick : r = if DatumOrd.lt y x = true then v else u := by
    have b1 : (#[u, v] : Array Value)[argBest (fun i j => dataLt (([x, y].map Datum.toD).getD i .none) (([x, y].map Datum.toD).getD j .none)) 1]? = some r := best
    rw [two_best] at b1
    have b2 : dataLt (([x, y].map Datum.toD).getD 1 .none) (([x, y].map Datum.toD).getD 0 .none) = DatumOrd.lt y x := DatumOrd.lt_eq y x
    rw [b2] at b1
    by_cases c : DatumOrd.lt y x = true
    · rw [if_pos c] at b1 ⊢
      exact (Option.some.inj b1).symm
    · rw [if_neg c] at b1 ⊢
      exact (Option.some.inj b1).symm
  rw [pick]
  exact want h' tk fun b o z => old b o (grown b o z)
theorem most_two {u v : Value} {x y : α} {Q : Value → Shared → Prop} (hh : A.handled = none) (held : HoldAll s.heap [u, v] [x, y]) (room : A.units + 1 + Datum.depth α < cLine)
    (want : ∀ (h' : Heap) (tk : Nat), (∀ b o, s.heap.get? b = some o → h'.get? b = some o) → Q (if DatumOrd.lt x y = true then v else u) { s with heap := h', toks := tk }) : wpAny (model prog w) A (call (.builtin "max") [u, v]) Q E s := by
  have nm : (toString "max" ++ toString ".loop" : String) = "max.loop" := by decide
  refine call_function_tree F.kind_max F.plain_max F.entry_max (F.args_max2 u v) ?_
  show wpAny _ A.in1 (Builtin.Builtins.bindParams "max" ["key", "default"] 0 ⟨[], []⟩ >>= _) _ _ _
  refine wpAny_bind (wpAny_of_eq (a := [none, none]) rfl ?_)
  show wpAny _ A.in1 (newTuple [u, v] >>= _) _ _ _
  refine wpAny_bind (wpAny_newObj_type ?_)
  have grown : ∀ b o, s.heap.get? b = some o → (s.heap.push { cls := .type "tuple", data := .seq #[u, v] }).get? b = some o := fun b o z => Heap.get?_push_of_some _ z
  have isT : (s.heap.push { cls := .type "tuple", data := .seq #[u, v] }).IsTuple s.heap.objs.size #[u, v] := ⟨_, Heap.get?_push_size _ rfl, rfl, 0, rfl⟩
  obtain ⟨as, reads⟩ := held.keeps grown
  have cmp := cmpIn_gt (prog := prog) (w := w) (A := A.in1) (s := { s with heap := s.heap.push { cls := .type "tuple", data := .seq #[u, v] } }) (vs := #[u, v]) reads (alikeAll_datum [x, y]) (room_all (depthAll_map [x, y]) (by show A.units + 1 + Datum.depth α < cLine; exact room))
  refine wpAny_bind (iter_tupleW (A := A.in1) (s := { s with heap := s.heap.push { cls := .type "tuple", data := .seq #[u, v] } }) hh isT fun s2 e2 W st fp wr keep => ?_)
  refine wpAny_bind (wpAny_newObj_type ?_)
  have away : s2.heap.objs.size ∉ [(s.heap.push { cls := .type "tuple", data := .seq #[u, v] }).objs.size, s.heap.objs.size] := fun z => Nat.lt_irrefl _ (fp _ z)
  rw [nm]
  refine wpAny_pure ⟨plainId_quiet F.plain_max_loop _, codeAny_max_loop_firstH W _ wr _ cmp s2.heap.objs.size away (fresh_in keep) _ (by show 0 < 2; decide) (fun b o z => Heap.get?_push_of_some _ (keep b o z)) (W.frame 0 s2 _ s2.toks st (Nat.le_refl _) fun b _ o z => Heap.get?_push_of_some _ z) (Heap.get?_push_size _ rfl) fun r s3 best moved => ?_⟩
  obtain ⟨h', tk, rfl, old⟩ := moved_old e2 rfl (Moved.drop_new (tk := s2.toks) moved (Nat.le_refl _))
  have pick : r = if DatumOrd.lt x y = true then v else u := by
    have b1 : (#[u, v] : Array Value)[argBest (fun i j => dataLt (([x, y].map Datum.toD).getD j .none) (([x, y].map Datum.toD).getD i .none)) 1]? = some r := best
    rw [two_best] at b1
    have b2 : dataLt (([x, y].map Datum.toD).getD 0 .none) (([x, y].map Datum.toD).getD 1 .none) = DatumOrd.lt x y := DatumOrd.lt_eq x y
    rw [b2] at b1
    by_cases c : DatumOrd.lt x y = true
    · rw [if_pos c] at b1 ⊢
      exact (Option.some.inj b1).symm
    · rw [if_neg c] at b1 ⊢
      exact (Option.some.inj b1).symm
  rw [pick]
  exact want h' tk fun b o z => old b o (grown b o z)
end
end DM
namespace DM
open PySem L2
/-- as Python orders pairs -/
def ltP (a b c d : Int) : Prop := a < c ∨ (a = c ∧ b < d)
instance {a b c d : Int} : Decidable (ltP a b c d) := by unfold ltP; exact inferInstance
section
variable {X : Cx}
def rMin2 (K : PySem.W.Frag) : List V → Hp → VK → Prop := fun vs H Q => ∃ (p q : Addr) (a b c d : Int), vs = [.ref p, .ref q] ∧ SqT K H p [.int a, .int b] ∧ SqT K H q [.int c, .int d] ∧ Q (.ref (if ltP c d a b then q else p)) H
def rMax2 (K : PySem.W.Frag) : List V → Hp → VK → Prop := fun vs H Q => ∃ (p q : Addr) (a b c d : Int), vs = [.ref p, .ref q] ∧ SqT K H p [.int a, .int b] ∧ SqT K H q [.int c, .int d] ∧ Q (.ref (if ltP a b c d then q else p)) H
theorem held_pair {pins : List (Addr × Obj)} {σ : St} {H : Hp} {s : Shared} {p : Addr} {a b : Int} (I : Inv X pins σ H s) (h : SqT X.K H p [.int a, .int b]) : PySem.W.Holds s.heap (.ref p) ((a, b) : Int × Int) := by
  obtain ⟨as, r⟩ := Dp.reads I (.tuple [.int a, .int b]) (.ref p) (.ref p) (.tup h (.cons (.int a) (.cons (.int b) .nil))) rfl
  exact ⟨as, r⟩
theorem lt_pair (a b c d : Int) : PySem.W.DatumOrd.lt ((a, b) : Int × Int) ((c, d) : Int × Int) = decide (ltP a b c d) := by
  show (if a = c then decide (b < d) else decide (a < c)) = _
  unfold ltP
  by_cases h : a = c
  · subst h
    rw [if_pos rfl]
    apply decide_eq_decide.mpr
    omega
  · rw [if_neg h]
    apply decide_eq_decide.mpr
    omega
theorem cr_min2 (hc : X.calm = true) (hu : X.A.units + 64 < cLine) : CallR X (.builtin "min") (rMin2 X.K) := by
  intro pins s0 σ0 H0 xs us Q0 I0 rel want
  obtain ⟨p, q, a, b, c, d, rfl, hp, hq, last⟩ := want
  obtain ⟨u1, u2, rfl, r1, r2⟩ := vals2 rel
  cases (show u1 = Value.ref p from r1)
  cases (show u2 = Value.ref q from r2)
  refine least_two (α := Int × Int) (x := (a, b)) (y := (c, d)) (I0.ok.hd hc) (.cons (held_pair I0 hp) (.cons (held_pair I0 hq) .nil)) (Nat.lt_of_le_of_lt (by show X.A.units + 1 + 1 ≤ X.A.units + 64; omega) hu) fun h' tk keep => ?_
  refine ⟨.ref (if ltP c d a b then q else p), H0, I0.kept keep, ?_, last⟩
  rw [lt_pair]
  by_cases z : ltP c d a b
  · rw [if_pos (decide_eq_true z), if_pos z]
    rfl
  · rw [decide_eq_false z, if_neg z]
    rfl
theorem cr_max2 (hc : X.calm = true) (hu : X.A.units + 64 < cLine) : CallR X (.builtin "max") (rMax2 X.K) := by
  intro pins s0 σ0 H0 xs us Q0 I0 rel want
  obtain ⟨p, q, a, b, c, d, rfl, hp, hq, last⟩ := want
  obtain ⟨u1, u2, rfl, r1, r2⟩ := vals2 rel
  cases (show u1 = Value.ref p from r1)
  cases (show u2 = Value.ref q from r2)
  refine most_two (α := Int × Int) (x := (a, b)) (y := (c, d)) (I0.ok.hd hc) (.cons (held_pair I0 hp) (.cons (held_pair I0 hq) .nil)) (Nat.lt_of_le_of_lt (by show X.A.units + 1 + 1 ≤ X.A.units + 64; omega) hu) fun h' tk keep => ?_
  refine ⟨.ref (if ltP a b c d then q else p), H0, I0.kept keep, ?_, last⟩
  rw [lt_pair]
  by_cases z : ltP a b c d
  · rw [if_pos (decide_eq_true z), if_pos z]
    rfl
  · rw [decide_eq_false z, if_neg z]
    rfl
end
end DM

namespace DM
open PySem L2
def crs (x1 y1 x2 y2 x3 y3 : Int) : Int := (x2 - x1) * (y3 - y1) - (y2 - y1) * (x3 - x1)
def sg (z : Int) : Int := if 0 < z then 1 else if z < 0 then -1 else 0
theorem crs_turn (x1 y1 x2 y2 x3 y3 : Int) : (x2 - x1) * (y3 - y2) - (y2 - y1) * (x3 - x2) = crs x1 y1 x2 y2 x3 y3 := by
  unfold crs
  have e1 : (y3 - y1) = (y3 - y2) + (y2 - y1) := by omega
  have e2 : (x3 - x1) = (x3 - x2) + (x2 - x1) := by omega
  rw [e1, e2, Int.mul_add, Int.mul_add, Int.mul_comm (y2 - y1) (x2 - x1)]
  omega
theorem crs_round (x1 y1 x2 y2 x3 y3 : Int) : crs x2 y2 x3 y3 x1 y1 = crs x1 y1 x2 y2 x3 y3 := by
  rw [← crs_turn x1 y1 x2 y2 x3 y3]
  unfold crs
  have e1 : y1 - y2 = -(y2 - y1) := by omega
  have e2 : x1 - x2 = -(x2 - x1) := by omega
  rw [e1, e2, Int.mul_neg, Int.mul_neg, Int.mul_comm (x3 - x2), Int.mul_comm (y3 - y2)]
  omega
theorem crs_about (x1 y1 x2 y2 x3 y3 : Int) : crs x1 y1 x3 y3 x2 y2 = - crs x1 y1 x2 y2 x3 y3 := by
  unfold crs
  rw [Int.mul_comm (x3 - x1), Int.mul_comm (y3 - y1)]
  omega
theorem sg_neg (z : Int) : sg (-z) = 0 - sg z := by
  unfold sg
  split <;> split <;> (try split) <;> (try split) <;> omega
def spCross (K : PySem.W.Frag) : Sp := fun vs H Q _ => ∃ (p1 p2 p3 : Addr) (x1 y1 x2 y2 x3 y3 : Int), vs = [.ref p1, .ref p2, .ref p3] ∧ Pt H p1 x1 y1 ∧ Pt H p2 x2 y2 ∧ Pt H p3 x3 y3 ∧ Q (.int (crs x1 y1 x2 y2 x3 y3)) H
section
variable {P : Program} {w : World} {K : PySem.W.Frag} {mg : Str → Option Value} {base : Heap} {f : Addr} {fd : FuncData}
end
end DM

namespace DM
open PySem L2
/-- a list's items are strokes -/
def Stks (H : Hp) (xs : List V) : Prop := ∀ v ∈ xs, ∃ (p : Addr) (x1 y1 x2 y2 : Int), v = .ref p ∧ Stk H p x1 y1 x2 y2
theorem Stks.same {H H' : Hp} {xs : List V} (h : Stks H xs) (e : Same H H') : Stks H' xs := fun v hv => by
  obtain ⟨p, x1, y1, x2, y2, r, k⟩ := h v hv
  exact ⟨p, x1, y1, x2, y2, r, k.same e⟩
theorem Stks.but {H H' : Hp} {b l : Addr} {xs : List V} (h : Stks H xs) (hB : BagAt H b l) (e : But b H H') : Stks H' xs := fun v hv => by
  obtain ⟨p, x1, y1, x2, y2, r, k⟩ := h v hv
  exact ⟨p, x1, y1, x2, y2, r, k.but hB e⟩
theorem Stks.data {K : PySem.W.Frag} {H : Hp} : ∀ {xs : List V}, Stks H xs → ∃ ds : List PyData, DpAll K H xs ds ∧ PyData.canLayAll0 ds = true ∧ PyData.depthAll ds ≤ 1 ∧ PyData.eqvAll ds [] = xs.isEmpty
  | [], _ => ⟨[], .nil, rfl, Nat.zero_le _, rfl⟩
  | v :: xs, h => by
    obtain ⟨p, x1, y1, x2, y2, rfl, k⟩ := h v List.mem_cons_self
    obtain ⟨ds, a, b, c, _⟩ := Stks.data (K := K) (xs := xs) fun u hu => h u (List.mem_cons_of_mem _ hu)
    refine ⟨.tuple [.int x1, .int y1, .int x2, .int y2] :: ds, .cons (dp_four k.1) a, ?_, ?_, rfl⟩
    · simp only [PyData.canLayAll0, PyData.canLay0, b, Bool.and_true]
    · simp only [PyData.depthAll, PyData.depth]
      omega
theorem Stks.empty {K : PySem.W.Frag} {H : Hp} {pl : Addr} {xs : List V} (h : Stks H xs) (hl : H pl = some (.lst xs)) : ∃ d, Dp K H (.ref pl) d ∧ SeqAt.shaped d = true ∧ PyData.eqv d (.list []) = xs.isEmpty := by
  obtain ⟨ds, a, b, c, e⟩ := h.data (K := K)
  refine ⟨.list ds, .lst (SqL.of hl) a, ?_, ?_⟩
  · unfold SeqAt.shaped
    simp only [PyData.canLay0, PyData.depth, b, Bool.true_and]
    exact decide_eq_true (by omega)
  · simp only [PyData.eqv]
    exact e
def spBeside : Sp := fun vs H Q _ => ∃ (b l pb pl : Addr) (x y m : Int) (xs : List V), vs = [.ref b, .ref pb, .int m, .ref pl] ∧ BagAt H b l ∧ H pb = some (.tup [.int x, .int y]) ∧ 0 < m ∧ m ≤ 1000 ∧ H pl = some (.lst xs) ∧ pl ≠ b ∧ xs.length ≤ 1000 ∧ Stks H xs ∧
  ∀ (p : Addr) (H' : Hp) (x1 y1 x2 y2 : Int), BagAt H' b l → But b H H' → Stk H' p x1 y1 x2 y2 → Q (.ref p) H'
theorem abs_max {x y : Int} (h : (if (if y < 0 then -y else y) > (if x < 0 then -x else x) then (if y < 0 then -y else y) else (if x < 0 then -x else x)) < 41) : -40 ≤ x ∧ x ≤ 40 ∧ -40 ≤ y ∧ y ≤ 40 := by
  split at h <;> (split at h <;> omega)
section
variable {P : Program} {w : World} {K : PySem.W.Frag} {mg : Str → Option Value} {base : Heap} {f : Addr} {fd : FuncData}
abbrev s_beside : Stmt := top 28
theorem sc_beside : FnScope ["_law_bag_here", "_law_base_here", "_law_wide", "_law_some", "_law_fresh", "_law_how", "_law_other", "_law_x", "_law_y"] ["_law_bag_here", "_law_base_here", "_law_wide", "_law_some"] (defScope s_beside) := ⟨rfl, rfl, rfl, by decide +kernel, rfl, by decide +kernel, by decide +kernel⟩
theorem ok_beside (B : Blt mg) (c_pull : Cal P w K mg base 1 "_law_pull" ["_law_bag_here", "_law_amount"] spPull) (c_of : Cal P w K mg base 2 "_law_of" ["_law_bag_here", "_law_things"] spOf) (c_stroke : Cal P w K mg base 3 "_law_stroke" ["_law_bag_here", "_law_base_here", "_law_wide"] spStroke) (F : Fun K "_law_beside" "_law_beside" s_beside f fd) : FnOk P w K mg base CX0 4 f fd ["_law_bag_here", "_law_base_here", "_law_wide", "_law_some"] spBeside := by
  refine F.ok sc_beside (fun vs H Q E h => ?_) (fun cdv A outer s H vs Q E hr h => ?_)
  · obtain ⟨b, l, pb, pl, x, y, m, xs, rfl, _⟩ := h
    rfl
  obtain ⟨b, l, pb, pl, x, y, m, xs, rfl, hB, hp, m0, m1, hl, hlb, h1000, hxs, q⟩ := h
  refine ⟨_, (pss_cons (ps_set (i := 4) sc_beside.nd rfl (Or.inl rfl) (pe_cal c_stroke hr (pa_cons (pv 0) (pa_cons (pv 1) (pa_cons (pv 2) pa_nil)))))
    (pss_cons (ps_set (i := 5) sc_beside.nd rfl (Or.inl rfl) (pe_cal c_pull hr (pa_cons (pv 0) (pa_cons pe_int pa_nil))))
    (pss_cons (ps_if (PW.pt (pw_or (pt_cmpR (op_eqD hr.units) (pv 3) (pe_lst pa_nil) (nomark _)) (pw_or1 (pt_cmpR op_gt (pv 5) pe_int (nomark _)))))
    (pss_one (ps_ret (pv 4)))
    pss_nil)
    (pss_cons (ps_set (i := 6) sc_beside.nd rfl (Or.inl rfl) (pe_cal c_of hr (pa_cons (pv 0) (pa_cons (pv 3) pa_nil))))
    (pss_cons (ps_if (PW.pt (pw_and (pt_cmpR op_eq (pv 5) pe_int (nomark _)) (pw_and1 (pt_cmpR (op_neD hr.units) (pe_slice sl_tup (pv 6) (po_some pe_int) po_none) (pe_slice sl_tup (pv 4) (po_some pe_int) po_none) (nomark _)))))
    (pss_one (ps_ret (pe_op op_catT (pe_slice sl_tup (pv 6) (po_some pe_int) po_none) (pe_slice sl_tup (pv 4) (po_some pe_int) po_none))))
    pss_nil)
    (pss_cons (ps_par (i := 7) (j := 8) (by rfl) sc_beside.nd rfl rfl (by decide) rfl rfl (pa_cons (pe_op op_sub (pe_op op_mul pe_int (pe_ix ix_tup (pv 6) pe_int (fun _ _ => rfl))) (pe_ix ix_tup (pv 6) pe_int (fun _ _ => rfl))) (pa_cons (pe_op op_sub (pe_op op_mul pe_int (pe_ix ix_tup (pv 6) pe_int (fun _ _ => rfl))) (pe_ix ix_tup (pv 6) pe_int (fun _ _ => rfl))) pa_nil)) (by rfl))
    (pss_cons (ps_if (PW.pt (pw_and (pt_cmpR op_eq (pv 5) pe_int (nomark _)) (pw_and1 (pt_cmpR op_lt (pe_callB (call_max2 rfl) rfl B.max bt_max (pa_cons (pe_callB call_abs rfl B.abs bt_abs (pa_cons (pv 7) pa_nil)) (pa_cons (pe_callB call_abs rfl B.abs bt_abs (pa_cons (pv 8) pa_nil)) pa_nil))) pe_int (nomark _)))))
    (pss_one (ps_ret (pe_op op_catT (pe_slice sl_tup (pv 6) po_none (po_some pe_int)) (pe_tup (pa_cons (pv 7) (pa_cons (pv 8) pa_nil))))))
    pss_nil)
    (pss_one (ps_ret (pe_ifExp (pt_cmpR op_eq (pv 5) pe_int (nomark _)) (pe_op op_catT (pe_slice sl_tup (pv 6) (po_some pe_int) po_none) (pe_slice sl_tup (pv 6) po_none (po_some pe_int))) (pv 4))))))))))), ?_⟩
  refine ⟨_, rfl, _, rfl, _, rfl, b, _, pb, x, y, m, rfl, hB, hp, m0, m1, fun fr H1 f1 f2 f3 f4 hB1 bt1 hf => ?_⟩
  refine ⟨_, rfl, b, _, _, rfl, hB1, by decide, by decide, fun how H2 hB2 bt2 h0 h7 => ?_⟩
  have hf := hf.but hB1 bt2
  have bt12 := bt1.trans bt2
  have hl2 := bt12 _ _ hlb hl
  have hx2 := (hxs.but hB bt1).but hB1 bt2
  refine ⟨_, rfl, sz (by decide : 0 ≤ 100000), fun e1 ne1 => ?_⟩
  have ge := same_new ne1 (.lst [])
  obtain ⟨d, dp, sh, ev⟩ := (hx2.same ge).empty (K := K) (ge _ _ hl2)
  refine ⟨_, _, dp, .lst (SqL.of upd_same) .nil, sh, rfl, _, rfl, ?_⟩
  rw [ev]
  have hB3 := hB2.same ge
  have hf3 := hf.same ge
  have bt3 := bt12.trans (But.of ge)
  cases xs with
  | nil =>
    refine iteT (iteT ?_)
    exact ⟨_, rfl, q fr _ _ _ _ _ hB3 bt3 hf3⟩
  | cons v0 rest =>
    refine iteF ?_
    refine ⟨_, rfl, _, _, rfl, rfl, _, rfl, ?_⟩
    by_cases c : how > 2
    · refine iteDT c ?_
      exact ⟨_, rfl, q fr _ _ _ _ _ hB3 bt3 hf3⟩
    · refine iteDF c ?_
      refine ⟨_, rfl, _, rfl, b, _, pl, _, rfl, hB3, ge _ _ hl2, hlb, Nat.zero_lt_succ _, h1000, fun v H4 hB4 bt4 hv => ?_⟩
      have hx4 := (hx2.same ge).but hB3 bt4
      have hf4 := hf3.but hB3 bt4
      obtain ⟨po, o1, o2, o3, o4, rfl, ho⟩ := hx4 v hv
      have bta := bt3.trans bt4
      have bo := ho.2.1
      have bf := hf4.2.1
      refine ⟨_, rfl, rfl, _, rfl, ?_⟩
      by_cases c0 : how = 0
      · subst c0
        refine iteDT rfl ?_
        refine ⟨_, rfl, _, rfl, po, _, rfl, SqT.of ho.1, (fun z => absurd z.1 (by show ¬ (2 = 0); decide)), fun w1 n1 => ?_⟩
        have g1 := same_new n1 (.tup [.int o3, .int o4])
        refine ⟨_, rfl, _, rfl, fr, _, rfl, SqT.of (g1 _ _ hf4.1), (fun z => absurd z.1 (by show ¬ (2 = 0); decide)), fun w2 n2 => ?_⟩
        have g2 := same_new n2 (.tup [.int f3, .int f4])
        refine ⟨.tuple [.int o3, .int o4], .tuple [.int f3, .int f4], dp_pair (g2 _ _ upd_same), dp_pair upd_same, shaped_pair _ _, shaped_pair _ _, _, rfl, ?_⟩
        rw [eqv_pair]
        have g12 := g1.trans g2
        by_cases d : o3 = f3 ∧ o4 = f4
        · refine iteNS d ?_
          have ho' := ho.same g12
          refine ⟨_, rfl, po, _, _, _, rfl, rfl, SqT.of ho'.1, rfl, _, _, rfl, rfl, .inl ⟨by decide, by decide⟩, _, rfl, po, _, _, _, rfl, rfl, SqT.of ho'.1, rfl, _, _, rfl, rfl, _, rfl, po, _, _, _, rfl, rfl, SqT.of ho'.1, rfl, _, _, rfl, rfl, .inl ⟨by decide, by decide⟩, _, rfl, po, _, _, _, rfl, rfl, SqT.of ho'.1, rfl, _, _, rfl, rfl, _, _, rfl, ?_⟩
          refine ⟨_, rfl, rfl, _, rfl, iteDF (by decide) (iteF ?_)⟩
          refine ⟨_, rfl, rfl, _, rfl, iteDF (by decide) ?_⟩
          exact ⟨_, rfl, q fr _ _ _ _ _ (hB4.same g12) (bta.trans (But.of g12)) (hf4.same g12)⟩
        · refine if_pos' (by rw [decide_eq_false d]; rfl) ?_
          have ho' := ho.same g12
          have hf' := hf4.same g12
          refine ⟨_, rfl, _, rfl, po, _, rfl, SqT.of ho'.1, (fun z => absurd z.1 (by show ¬ (2 = 0); decide)), fun w3 n3 => ?_⟩
          have g3 := same_new n3 (.tup [.int o3, .int o4])
          refine ⟨_, rfl, _, rfl, fr, _, rfl, SqT.of (g3 _ _ hf'.1), (fun z => absurd z.1 (by show ¬ (2 = 0); decide)), fun w4 n4 => ?_⟩
          have g4 := same_new n4 (.tup [.int f3, .int f4])
          refine ⟨w3, w4, [.int o3, .int o4], [.int f3, .int f4], rfl, rfl, SqT.of (g4 _ _ upd_same), SqT.of upd_same, (by intro z; cases z), sz (by decide : 4 ≤ 100000), (fun z => by cases z), fun _ w5 n5 => ?_⟩
          have g5 := same_new n5 (.tup [.int o3, .int o4, .int f3, .int f4])
          have gA := g12.trans (g3.trans (g4.trans g5))
          exact q w5 _ o3 o4 f3 f4 (hB4.same gA) (bta.trans (But.of gA)) ⟨upd_same, by omega, d⟩
      · refine iteDF (fun z => c0 (V.int.inj z)) (iteF ?_)
        refine ⟨_, rfl, po, _, _, _, rfl, rfl, SqT.of ho.1, rfl, _, _, rfl, rfl, .inl ⟨by decide, by decide⟩, _, rfl, po, _, _, _, rfl, rfl, SqT.of ho.1, rfl, _, _, rfl, rfl, _, rfl, po, _, _, _, rfl, rfl, SqT.of ho.1, rfl, _, _, rfl, rfl, .inl ⟨by decide, by decide⟩, _, rfl, po, _, _, _, rfl, rfl, SqT.of ho.1, rfl, _, _, rfl, rfl, _, _, rfl, ?_⟩
        refine ⟨_, rfl, rfl, _, rfl, ?_⟩
        by_cases c1 : how = 1
        · subst c1
          refine iteDT rfl ?_
          refine ⟨_, rfl, _, rfl, _, rfl, _, rfl, _, _, rfl, _, _, rfl, rfl, _, rfl, ?_⟩
          by_cases d : (if (if (2 * o4 - o2) < 0 then -(2 * o4 - o2) else (2 * o4 - o2)) > (if (2 * o3 - o1) < 0 then -(2 * o3 - o1) else (2 * o3 - o1)) then (if (2 * o4 - o2) < 0 then -(2 * o4 - o2) else (2 * o4 - o2)) else (if (2 * o3 - o1) < 0 then -(2 * o3 - o1) else (2 * o3 - o1))) < 41
          · refine iteDT d ?_
            have bd := abs_max d
            refine ⟨_, rfl, _, rfl, po, _, rfl, SqT.of ho.1, (fun z => absurd z.2 (by show ¬ (2 = 4); decide)), fun w1 n1 => ?_⟩
            have g1 := same_new n1 (.tup [.int o1, .int o2])
            refine ⟨_, rfl, _, rfl, sz (by decide : 2 ≤ 100000), fun w2 n2 => ?_⟩
            have g2 := same_new n2 (.tup [.int (2 * o3 - o1), .int (2 * o4 - o2)])
            refine ⟨w1, w2, [.int o1, .int o2], [.int (2 * o3 - o1), .int (2 * o4 - o2)], rfl, rfl, SqT.of (g2 _ _ upd_same), SqT.of upd_same, (by intro z; cases z), sz (by decide : 4 ≤ 100000), (fun z => by cases z), fun _ w3 n3 => ?_⟩
            have g3 := same_new n3 (.tup [.int o1, .int o2, .int (2 * o3 - o1), .int (2 * o4 - o2)])
            have gA := g1.trans (g2.trans g3)
            exact q w3 _ o1 o2 (2 * o3 - o1) (2 * o4 - o2) (hB4.same gA) (bta.trans (But.of gA)) ⟨upd_same, by omega, fun z => ho.2.2 (by omega)⟩
          · refine iteDF d ?_
            refine ⟨_, rfl, rfl, _, rfl, iteDF (by decide) ?_⟩
            exact ⟨_, rfl, q fr _ _ _ _ _ hB4 bta hf4⟩
        · refine iteDF (fun z => c1 (V.int.inj z)) (iteF ?_)
          refine ⟨_, rfl, rfl, _, rfl, ?_⟩
          by_cases c2 : how = 2
          · refine iteDT (congrArg V.int c2) ?_
            refine ⟨_, rfl, _, rfl, po, _, rfl, SqT.of ho.1, (fun z => absurd z.1 (by show ¬ (2 = 0); decide)), fun w1 n1 => ?_⟩
            have g1 := same_new n1 (.tup [.int o3, .int o4])
            refine ⟨_, rfl, _, rfl, po, _, rfl, SqT.of (g1 _ _ ho.1), (fun z => absurd z.2 (by show ¬ (2 = 4); decide)), fun w2 n2 => ?_⟩
            have g2 := same_new n2 (.tup [.int o1, .int o2])
            refine ⟨w1, w2, [.int o3, .int o4], [.int o1, .int o2], rfl, rfl, SqT.of (g2 _ _ upd_same), SqT.of upd_same, (by intro z; cases z), sz (by decide : 4 ≤ 100000), (fun z => by cases z), fun _ w3 n3 => ?_⟩
            have g3 := same_new n3 (.tup [.int o3, .int o4, .int o1, .int o2])
            have gA := g1.trans (g2.trans g3)
            exact q w3 _ o3 o4 o1 o2 (hB4.same gA) (bta.trans (But.of gA)) ⟨upd_same, by omega, fun z => ho.2.2 ⟨z.1.symm, z.2.symm⟩⟩
          · refine iteDF (fun z => c2 (V.int.inj z)) ?_
            exact ⟨_, rfl, q fr _ _ _ _ _ hB4 bta hf4⟩
end
end DM

namespace DM
open PySem L2
/-! ### what is alike, piece by piece -/
theorem alike_tup {n : Nat} {H : Hp} {p q : Addr} {xs ys : List V} (hp : H p = some (.tup xs)) (hq : H q = some (.tup ys)) (hl : xs.length = ys.length) (h1 : xs.length ≤ 1000) (h : ∀ (i : Nat) (x y : V), xs[i]? = some x → ys[i]? = some y → Alike n H x y) : Alike (n + 1) H (.ref p) (.ref q) := .inr (.inl ⟨p, q, xs, ys, rfl, rfl, hp, hq, hl, h1, h⟩)
theorem alike_lst {n : Nat} {H : Hp} {p q : Addr} {xs ys : List V} (hp : H p = some (.lst xs)) (hq : H q = some (.lst ys)) (hl : xs.length = ys.length) (h1 : xs.length ≤ 1000) (h : ∀ (i : Nat) (x y : V), xs[i]? = some x → ys[i]? = some y → Alike n H x y) : Alike (n + 1) H (.ref p) (.ref q) := .inr (.inr ⟨p, q, xs, ys, rfl, rfl, hp, hq, hl, h1, h⟩)
theorem two_of {P : V → V → Prop} {a b c d : V} (h0 : P a c) (h1 : P b d) : ∀ (i : Nat) (x y : V), ([a, b] : List V)[i]? = some x → ([c, d] : List V)[i]? = some y → P x y
  | 0, _, _, hx, hy => by cases hx; cases hy; exact h0
  | 1, _, _, hx, hy => by cases hx; cases hy; exact h1
theorem three_of {P : V → V → Prop} {a b e c d f : V} (h0 : P a c) (h1 : P b d) (h2 : P e f) : ∀ (i : Nat) (x y : V), ([a, b, e] : List V)[i]? = some x → ([c, d, f] : List V)[i]? = some y → P x y
  | 0, _, _, hx, hy => by cases hx; cases hy; exact h0
  | 1, _, _, hx, hy => by cases hx; cases hy; exact h1
  | 2, _, _, hx, hy => by cases hx; cases hy; exact h2
theorem alike_ints {n : Nat} {H : Hp} {p q : Addr} {a b : Int} (hp : H p = some (.tup [.int a, .int b])) (hq : H q = some (.tup [.int a, .int b])) : Alike (n + 1) H (.ref p) (.ref q) := alike_tup hp hq rfl (by show 2 ≤ 1000; decide) alike_pair
end DM

namespace DM
/-! ### lowest terms are one for equal fractions -/
theorem low_neg (a b : Int) (hb : b ≠ 0) : lowA (-a) (-b) = lowA a b ∧ lowB (-a) (-b) = lowB a b := by
  unfold lowA lowB
  rw [Int.neg_gcd, Int.gcd_neg]
  rcases Int.lt_trichotomy b 0 with h | h | h
  · rw [if_neg (show ¬ -b < 0 by omega), if_pos h, if_neg (show ¬ -b < 0 by omega), if_pos h]
    exact ⟨rfl, rfl⟩
  · exact absurd h hb
  · rw [if_pos (show -b < 0 by omega), if_neg (show ¬ b < 0 by omega), if_pos (show -b < 0 by omega), if_neg (show ¬ b < 0 by omega), Int.neg_neg, Int.neg_neg]
    exact ⟨rfl, rfl⟩
theorem low_scale {a b k : Int} (hb : 0 < b) (hk : 0 < k) : lowA (k * a) (k * b) = lowA a b ∧ lowB (k * a) (k * b) = lowB a b := by
  have hkb := Int.mul_pos hk hb
  unfold lowA lowB
  rw [if_neg (show ¬ k * b < 0 by omega), if_neg (show ¬ b < 0 by omega), if_neg (show ¬ k * b < 0 by omega), if_neg (show ¬ b < 0 by omega), Int.gcd_mul_left]
  have e : ((k.natAbs * Int.gcd a b : Nat) : Int) = k * ((Int.gcd a b : Nat) : Int) := by
    rw [Int.natCast_mul]
    congr 1
    omega
  rw [e, Int.mul_ediv_mul_of_pos _ _ hk, Int.mul_ediv_mul_of_pos _ _ hk]
  exact ⟨rfl, rfl⟩
theorem low_eq_pos {a b c d : Int} (hb : 0 < b) (hd : 0 < d) (h : a * d = c * b) : lowA a b = lowA c d ∧ lowB a b = lowB c d := by
  have h1 := low_scale (a := a) hb hd
  have h2 := low_scale (a := c) hd hb
  have e1 : d * a = b * c := by rw [Int.mul_comm d a, h, Int.mul_comm]
  have e2 : d * b = b * d := Int.mul_comm ..
  rw [e1, e2] at h1
  exact ⟨h1.1.symm.trans h2.1, h1.2.symm.trans h2.2⟩
theorem low_eq {a b c d : Int} (hb : b ≠ 0) (hd : d ≠ 0) (h : a * d = c * b) : lowA a b = lowA c d ∧ lowB a b = lowB c d := by
  have n1 := low_neg a b hb
  have n2 := low_neg c d hd
  rcases Int.lt_trichotomy b 0 with z | z | z
  · rcases Int.lt_trichotomy d 0 with y | y | y
    · have r := low_eq_pos (a := -a) (b := -b) (c := -c) (d := -d) (by omega) (by omega) (by rw [Int.neg_mul_neg, Int.neg_mul_neg]; exact h)
      rw [n1.1, n1.2, n2.1, n2.2] at r
      exact r
    · exact absurd y hd
    · have r := low_eq_pos (a := -a) (b := -b) (c := c) (d := d) (by omega) y (by rw [Int.neg_mul, Int.mul_neg, h])
      rw [n1.1, n1.2] at r
      exact r
  · exact absurd z hb
  · rcases Int.lt_trichotomy d 0 with y | y | y
    · have r := low_eq_pos (a := a) (b := b) (c := -c) (d := -d) z (by omega) (by rw [Int.neg_mul, Int.mul_neg, h])
      rw [n2.1, n2.2] at r
      exact r
    · exact absurd y hd
    · exact low_eq_pos z y h
/-! ### where two strokes meet, as the law reckons it -/
def minP (p q : Int × Int) : Int × Int := if ltP q.1 q.2 p.1 p.2 then q else p
def maxP (p q : Int × Int) : Int × Int := if ltP p.1 p.2 q.1 q.2 then q else p
inductive Met where
  | no
  | pt (a b c d : Int)
  | along (x1 y1 x2 y2 : Int)
deriving DecidableEq
def meetL (x1 y1 x2 y2 u1 v1 u2 v2 : Int) : Met :=
  let l0 := crs x1 y1 x2 y2 u1 v1
  let l1 := crs x1 y1 x2 y2 u2 v2
  let r0 := crs u1 v1 u2 v2 x1 y1
  let r1 := crs u1 v1 u2 v2 x2 y2
  if l0 = 0 ∧ l1 = 0 then
    let lo := maxP (minP (x1, y1) (x2, y2)) (minP (u1, v1) (u2, v2))
    let hi := minP (maxP (x1, y1) (x2, y2)) (maxP (u1, v1) (u2, v2))
    if ltP lo.1 lo.2 hi.1 hi.2 then .along lo.1 lo.2 hi.1 hi.2 else if lo.1 = hi.1 ∧ lo.2 = hi.2 then .pt lo.1 1 lo.2 1 else .no
  else if l0 * l1 > 0 ∨ r0 * r1 > 0 then .no
  else .pt (lowA (u1 * (l0 - l1) + (u2 - u1) * l0) (l0 - l1)) (lowB (u1 * (l0 - l1) + (u2 - u1) * l0) (l0 - l1)) (lowA (v1 * (l0 - l1) + (v2 - v1) * l0) (l0 - l1)) (lowB (v1 * (l0 - l1) + (v2 - v1) * l0) (l0 - l1))
end DM
namespace DM
open PySem L2
/-- such a meeting as it lies in the heap -/
def MetAt (H : Hp) (v : V) : Met → Prop
  | .no => v = .non
  | .pt a b c d => ∃ p q px py : Addr, v = .ref p ∧ H p = some (.tup [.str "at", .ref q]) ∧ H q = some (.tup [.ref px, .ref py]) ∧ H px = some (.tup [.int a, .int b]) ∧ H py = some (.tup [.int c, .int d])
  | .along x1 y1 x2 y2 => ∃ p p1 p2 : Addr, v = .ref p ∧ H p = some (.tup [.str "along", .ref p1, .ref p2]) ∧ H p1 = some (.tup [.int x1, .int y1]) ∧ H p2 = some (.tup [.int x2, .int y2])
theorem MetAt.same {H H' : Hp} {v : V} : ∀ {m : Met}, MetAt H v m → Same H H' → MetAt H' v m
  | .no, h, _ => h
  | .pt .., ⟨p, q, px, py, a, b, c, d, e⟩, s => ⟨p, q, px, py, a, s _ _ b, s _ _ c, s _ _ d, s _ _ e⟩
  | .along .., ⟨p, p1, p2, a, b, c, d⟩, s => ⟨p, p1, p2, a, s _ _ b, s _ _ c, s _ _ d⟩
theorem MetAt.alike {H : Hp} : ∀ {m : Met} {v u : V}, MetAt H v m → MetAt H u m → Alike 3 H v u
  | .no, _, _, h, h' => by cases h; cases h'; exact Alike.scal rfl
  | .pt .., _, _, ⟨p, q, px, py, rfl, b, c, d, e⟩, ⟨p', q', px', py', rfl, b', c', d', e'⟩ => alike_tup b b' rfl (by show 2 ≤ 1000; decide) (two_of (P := Alike 2 H) (Alike.scal rfl) (alike_tup c c' rfl (by show 2 ≤ 1000; decide) (two_of (P := Alike 1 H) (alike_ints d d') (alike_ints e e'))))
  | .along .., _, _, ⟨p, p1, p2, rfl, b, c, d⟩, ⟨p', p1', p2', rfl, b', c', d'⟩ => alike_tup b b' rfl (by show 3 ≤ 1000; decide) (three_of (P := Alike 2 H) (Alike.scal rfl) (alike_ints c c') (alike_ints d d'))
def spMeet : Sp := fun vs H Q _ => ∃ (p q : Addr) (x1 y1 x2 y2 u1 v1 u2 v2 : Int), vs = [.ref p, .ref q] ∧ Stk H p x1 y1 x2 y2 ∧ Stk H q u1 v1 u2 v2 ∧ ∀ (r : V) (H' : Hp), Same H H' → MetAt H' r (meetL x1 y1 x2 y2 u1 v1 u2 v2) → Q r H'
theorem min_at {H : Hp} {p q : Addr} {a b : Int × Int} (hp : H p = some (.tup [.int a.1, .int a.2])) (hq : H q = some (.tup [.int b.1, .int b.2])) : H (if ltP b.1 b.2 a.1 a.2 then q else p) = some (.tup [.int (minP a b).1, .int (minP a b).2]) := by
  unfold minP
  by_cases c : ltP b.1 b.2 a.1 a.2
  · rw [if_pos c, if_pos c]; exact hq
  · rw [if_neg c, if_neg c]; exact hp
theorem max_at {H : Hp} {p q : Addr} {a b : Int × Int} (hp : H p = some (.tup [.int a.1, .int a.2])) (hq : H q = some (.tup [.int b.1, .int b.2])) : H (if ltP a.1 a.2 b.1 b.2 then q else p) = some (.tup [.int (maxP a b).1, .int (maxP a b).2]) := by
  unfold maxP
  by_cases c : ltP a.1 a.2 b.1 b.2
  · rw [if_pos c, if_pos c]; exact hq
  · rw [if_neg c, if_neg c]; exact hp
theorem lex_pair (a b c d : Int) : HT.lexLt [a, b] [c, d] = decide (ltP a b c d) := by
  unfold ltP
  simp only [HT.lexLt]
  by_cases h : a = c
  · subst h
    simp
    try (by_cases k : b < d <;> simp [k] <;> omega)
  · simp [h]
theorem crs_small {x1 y1 x2 y2 x3 y3 : Int} (h1 : -40 ≤ x1 ∧ x1 ≤ 40 ∧ -40 ≤ y1 ∧ y1 ≤ 40) (h2 : -40 ≤ x2 ∧ x2 ≤ 40 ∧ -40 ≤ y2 ∧ y2 ≤ 40) (h3 : -40 ≤ x3 ∧ x3 ≤ 40 ∧ -40 ≤ y3 ∧ y3 ≤ 40) : -12800 ≤ crs x1 y1 x2 y2 x3 y3 ∧ crs x1 y1 x2 y2 x3 y3 ≤ 12800 := by
  have key : ∀ a b : Int, -80 ≤ a → a ≤ 80 → -80 ≤ b → b ≤ 80 → -6400 ≤ a * b ∧ a * b ≤ 6400 := fun a b ha ha' hb hb' => by
    have e : (a * b).natAbs = a.natAbs * b.natAbs := Int.natAbs_mul a b
    have e2 : a.natAbs * b.natAbs ≤ 80 * 80 := Nat.mul_le_mul (by omega) (by omega)
    omega
  unfold crs
  have k1 := key (x2 - x1) (y3 - y1) (by omega) (by omega) (by omega) (by omega)
  have k2 := key (y2 - y1) (x3 - x1) (by omega) (by omega) (by omega) (by omega)
  omega
end DM

namespace DM
open PySem L2
theorem dp_ints {K : PySem.W.Frag} {H : Hp} {p : Addr} {x y : Int} (h : H p = some (.lst [.int x, .int y])) : Dp K H (.ref p) (.list [.int x, .int y]) := .lst (SqL.of h) (.cons (.int x) (.cons (.int y) .nil))
theorem eqv_ints (a b c d : Int) : PyData.eqv (.list [.int a, .int b]) (.list [.int c, .int d]) = decide (a = c ∧ b = d) := by
  simp only [PyData.eqv, PyData.eqvAll, Bool.and_true, Bool.decide_and]
  rfl
theorem shaped_ints (a b : Int) : SeqAt.shaped (.list [.int a, .int b]) = true := by
  first | rfl | simp [SeqAt.shaped, PyData.canLay0, PyData.depth]
section
variable {P : Program} {w : World} {K : PySem.W.Frag} {mg : Str → Option Value} {base : Heap} {f : Addr} {fd : FuncData}
end
end DM

namespace DM
/-! ### either way about, turned about -/
theorem minP_comm (p q : Int × Int) : minP p q = minP q p := by
  obtain ⟨a, b⟩ := p
  obtain ⟨c, d⟩ := q
  unfold minP; dsimp only
  by_cases h1 : ltP c d a b
  · rw [if_pos h1, if_neg (show ¬ ltP a b c d by unfold ltP at *; omega)]
  · rw [if_neg h1]
    by_cases h2 : ltP a b c d
    · rw [if_pos h2]
    · rw [if_neg h2]
      unfold ltP at h1 h2
      rw [show a = c by omega, show b = d by omega]
theorem maxP_comm (p q : Int × Int) : maxP p q = maxP q p := by
  obtain ⟨a, b⟩ := p
  obtain ⟨c, d⟩ := q
  unfold maxP; dsimp only
  by_cases h1 : ltP a b c d
  · rw [if_pos h1, if_neg (show ¬ ltP c d a b by unfold ltP at *; omega)]
  · rw [if_neg h1]
    by_cases h2 : ltP c d a b
    · rw [if_pos h2]
    · rw [if_neg h2]
      unfold ltP at h1 h2
      rw [show a = c by omega, show b = d by omega]
theorem line_swap {x1 y1 x2 y2 u1 v1 u2 v2 : Int} (hne : ¬ (x1 = x2 ∧ y1 = y2)) (h0 : crs x1 y1 x2 y2 u1 v1 = 0) (h1 : crs x1 y1 x2 y2 u2 v2 = 0) : crs u1 v1 u2 v2 x1 y1 = 0 ∧ crs u1 v1 u2 v2 x2 y2 = 0 := by
  have key : (u2 - x1) * (v1 - y1) - (v2 - y1) * (u1 - x1) = 0 := by
    unfold crs at h0 h1
    have hab : ¬ (x2 - x1 = 0 ∧ y2 - y1 = 0) := fun z => hne (by omega)
    generalize x2 - x1 = a at *
    generalize y2 - y1 = b at *
    generalize u1 - x1 = s at *
    generalize v1 - y1 = t at *
    generalize u2 - x1 = m at *
    generalize v2 - y1 = n at *
    have e0 : a * t = b * s := by omega
    have e1 : a * n = b * m := by omega
    by_cases ha : a = 0
    · subst ha
      rw [Int.zero_mul] at e0 e1
      have hb : b ≠ 0 := fun z => hab ⟨rfl, z⟩
      have s0 : s = 0 := (Int.mul_eq_zero.mp e0.symm).resolve_left hb
      have m0 : m = 0 := (Int.mul_eq_zero.mp e1.symm).resolve_left hb
      rw [s0, m0, Int.zero_mul, Int.mul_zero]
      rfl
    · have k : a * (m * t - n * s) = 0 := by
        rw [Int.mul_sub]
        have f1 : a * (m * t) = m * (a * t) := by simp only [Int.mul_left_comm]
        have f2 : a * (n * s) = (a * n) * s := by rw [Int.mul_assoc]
        rw [f1, f2, e0, e1]
        have f3 : m * (b * s) = b * m * s := by rw [Int.mul_left_comm, Int.mul_assoc]
        omega
      exact (Int.mul_eq_zero.mp k).resolve_left ha
  have r0 : crs u1 v1 u2 v2 x1 y1 = 0 := by
    have e : crs u1 v1 u2 v2 x1 y1 = - ((u2 - x1) * (v1 - y1) - (v2 - y1) * (u1 - x1)) := by
      unfold crs
      simp only [Int.sub_mul, Int.mul_sub, Int.mul_comm]
      omega
    rw [e, key]
    rfl
  refine ⟨r0, ?_⟩
  have e : crs u1 v1 u2 v2 x2 y2 = crs u1 v1 u2 v2 x1 y1 + crs x1 y1 x2 y2 u1 v1 - crs x1 y1 x2 y2 u2 v2 := by
    unfold crs
    simp only [Int.sub_mul, Int.mul_sub, Int.mul_comm]
    omega
  rw [e, r0, h0, h1]
  rfl
theorem w_ne {l0 l1 : Int} (c : ¬ (l0 = 0 ∧ l1 = 0)) (d : ¬ l0 * l1 > 0) : l0 - l1 ≠ 0 := fun z => by
  have e : l0 = l1 := by omega
  subst e
  by_cases y : l0 = 0
  · exact c ⟨y, y⟩
  · rcases Int.lt_or_lt_of_ne y with y | y
    · exact d (Int.mul_pos_of_neg_of_neg y y)
    · exact d (Int.mul_pos y y)
/-- the same place from either stroke -/
theorem cross_x (x1 y1 x2 y2 u1 v1 u2 v2 : Int) : (x1 * (crs u1 v1 u2 v2 x1 y1 - crs u1 v1 u2 v2 x2 y2) + (x2 - x1) * crs u1 v1 u2 v2 x1 y1) = - (u1 * (crs x1 y1 x2 y2 u1 v1 - crs x1 y1 x2 y2 u2 v2) + (u2 - u1) * crs x1 y1 x2 y2 u1 v1) := by
  unfold crs
  simp only [Int.sub_mul, Int.mul_sub, Int.mul_assoc, Int.mul_comm, Int.mul_left_comm]
  omega
theorem cross_y (x1 y1 x2 y2 u1 v1 u2 v2 : Int) : (y1 * (crs u1 v1 u2 v2 x1 y1 - crs u1 v1 u2 v2 x2 y2) + (y2 - y1) * crs u1 v1 u2 v2 x1 y1) = - (v1 * (crs x1 y1 x2 y2 u1 v1 - crs x1 y1 x2 y2 u2 v2) + (v2 - v1) * crs x1 y1 x2 y2 u1 v1) := by
  unfold crs
  simp only [Int.sub_mul, Int.mul_sub, Int.mul_assoc, Int.mul_comm, Int.mul_left_comm]
  omega
theorem cross_w (x1 y1 x2 y2 u1 v1 u2 v2 : Int) : crs u1 v1 u2 v2 x1 y1 - crs u1 v1 u2 v2 x2 y2 = - (crs x1 y1 x2 y2 u1 v1 - crs x1 y1 x2 y2 u2 v2) := by
  unfold crs
  simp only [Int.sub_mul, Int.mul_sub, Int.mul_comm]
  omega
theorem meet_swap {x1 y1 x2 y2 u1 v1 u2 v2 : Int} (hne : ¬ (x1 = x2 ∧ y1 = y2)) (hne' : ¬ (u1 = u2 ∧ v1 = v2)) : meetL u1 v1 u2 v2 x1 y1 x2 y2 = meetL x1 y1 x2 y2 u1 v1 u2 v2 := by
  unfold meetL
  dsimp only
  by_cases c : crs x1 y1 x2 y2 u1 v1 = 0 ∧ crs x1 y1 x2 y2 u2 v2 = 0
  · rw [if_pos c, if_pos (line_swap hne c.1 c.2), maxP_comm (minP (u1, v1) (u2, v2)), minP_comm (maxP (u1, v1) (u2, v2))]
  · have c' : ¬ (crs u1 v1 u2 v2 x1 y1 = 0 ∧ crs u1 v1 u2 v2 x2 y2 = 0) := fun z => c (line_swap hne' z.1 z.2)
    rw [if_neg c, if_neg c']
    by_cases d : crs x1 y1 x2 y2 u1 v1 * crs x1 y1 x2 y2 u2 v2 > 0 ∨ crs u1 v1 u2 v2 x1 y1 * crs u1 v1 u2 v2 x2 y2 > 0
    · rw [if_pos d, if_pos d.symm]
    · rw [if_neg d, if_neg (fun z => d z.symm)]
      have w0 := w_ne c (fun z => d (.inl z))
      rw [cross_x x1 y1 x2 y2 u1 v1 u2 v2, cross_y x1 y1 x2 y2 u1 v1 u2 v2, cross_w x1 y1 x2 y2 u1 v1 u2 v2]
      have n1 := low_neg (u1 * (crs x1 y1 x2 y2 u1 v1 - crs x1 y1 x2 y2 u2 v2) + (u2 - u1) * crs x1 y1 x2 y2 u1 v1) _ w0
      have n2 := low_neg (v1 * (crs x1 y1 x2 y2 u1 v1 - crs x1 y1 x2 y2 u2 v2) + (v2 - v1) * crs x1 y1 x2 y2 u1 v1) _ w0
      rw [n1.1, n1.2, n2.1, n2.2]
theorem crs_rev (x1 y1 x2 y2 u v : Int) : crs x2 y2 x1 y1 u v = - crs x1 y1 x2 y2 u v := by
  unfold crs
  simp only [Int.sub_mul, Int.mul_sub, Int.mul_comm]
  omega
theorem meet_rev (x1 y1 x2 y2 u1 v1 u2 v2 : Int) : meetL x2 y2 x1 y1 u1 v1 u2 v2 = meetL x1 y1 x2 y2 u1 v1 u2 v2 := by
  unfold meetL
  dsimp only
  rw [crs_rev, crs_rev x1 y1 x2 y2 u2 v2, minP_comm (x2, y2), maxP_comm (x2, y2)]
  by_cases c : crs x1 y1 x2 y2 u1 v1 = 0 ∧ crs x1 y1 x2 y2 u2 v2 = 0
  · rw [if_pos c, if_pos (by omega)]
  · rw [if_neg c, if_neg (by omega), Int.neg_mul_neg, Int.mul_comm (crs u1 v1 u2 v2 x2 y2)]
    by_cases d : crs x1 y1 x2 y2 u1 v1 * crs x1 y1 x2 y2 u2 v2 > 0 ∨ crs u1 v1 u2 v2 x1 y1 * crs u1 v1 u2 v2 x2 y2 > 0
    · rw [if_pos d, if_pos d]
    · rw [if_neg d, if_neg d]
      have w0 := w_ne c (fun z => d (.inl z))
      have e : ∀ a b : Int, a * (-crs x1 y1 x2 y2 u1 v1 - -crs x1 y1 x2 y2 u2 v2) + b * -crs x1 y1 x2 y2 u1 v1 = -(a * (crs x1 y1 x2 y2 u1 v1 - crs x1 y1 x2 y2 u2 v2) + b * crs x1 y1 x2 y2 u1 v1) := fun a b => by
        rw [show -crs x1 y1 x2 y2 u1 v1 - -crs x1 y1 x2 y2 u2 v2 = -(crs x1 y1 x2 y2 u1 v1 - crs x1 y1 x2 y2 u2 v2) by omega, Int.mul_neg, Int.mul_neg]
        omega
      rw [e, e, show -crs x1 y1 x2 y2 u1 v1 - -crs x1 y1 x2 y2 u2 v2 = -(crs x1 y1 x2 y2 u1 v1 - crs x1 y1 x2 y2 u2 v2) by omega]
      have n1 := low_neg (u1 * (crs x1 y1 x2 y2 u1 v1 - crs x1 y1 x2 y2 u2 v2) + (u2 - u1) * crs x1 y1 x2 y2 u1 v1) _ w0
      have n2 := low_neg (v1 * (crs x1 y1 x2 y2 u1 v1 - crs x1 y1 x2 y2 u2 v2) + (v2 - v1) * crs x1 y1 x2 y2 u1 v1) _ w0
      rw [n1.1, n1.2, n2.1, n2.2]
end DM

namespace DM
open PySem L2
/-! ### a def called with its defaults left out -/
def CalD (P : Program) (w : World) (K : PySem.W.Frag) (mg : Str → Option Value) (base : Heap) (k : Nat) (x : Str) (ps : List Str) (sp : Sp) (dvs : List V) : Prop :=
  ∃ (f : Addr) (fd : FuncData) (ds : List Value), FnOk P w K mg base CX0 k f fd ps sp ∧ Binds K fd ps ds ∧ Vals dvs ds ∧ PySem.W.keepIn K (.ref f) = true ∧ mg x = some (.ref f)
theorem pe_calD {X : Cx} {k k' : Nat} {x : Str} {ps : List Str} {sp : Sp} {dvs : List V} {e : Expr} {es : List Expr} {t : TA} {p pos : Pos} (C : CalD X.prog X.w X.K X.mg X.base k x ps sp dvs) (hr : Room k' X.A) (ha : PA X (e :: es) t)
    (hk : k ≤ k' := by decide) (hg : Gl X x := by rfl) (hdb : (x == ("__debug__" : Str)) = false := by decide) (he : starEach (e :: es) X.env = (false, eval e X.env) :: starEach es X.env := by rfl) (hpl : (backTo pos (starEach es X.env)).any (·.1) = false := by rfl) :
    PE X (.Call (.Name x p) (e :: es) [] pos) (tCall sp dvs E0 t) := by
  obtain ⟨f, fd, ds, F, b, v, kp, hm⟩ := C
  exact pe_call F (hr.mono hk) hg hm kp b v pass0 ha hdb he hpl
end DM

namespace DM
open PySem L2
section
variable {P : Program} {w : World} {K : PySem.W.Frag} {mg : Str → Option Value} {base : Heap} {f : Addr} {fd : FuncData}
abbrev s_common_measure : Stmt := top 4
theorem sc_common_measure : FnScope ["one", "other"] ["one", "other"] (defScope s_common_measure) := ⟨rfl, rfl, rfl, by decide +kernel, rfl, by decide +kernel, by decide +kernel⟩
theorem ok_common_measure (F : Fun K "common_measure" "common_measure" s_common_measure f fd) : FnOk P w K mg base CX0 1 f fd ["one", "other"] spGcd := by
  refine F.ok sc_common_measure (fun vs H Q E h => ?_) (fun cdv A outer s H vs Q E hr h => ?_)
  · obtain ⟨a, b, rfl, _⟩ := h
    rfl
  obtain ⟨a, b, rfl, ha, hb, q⟩ := h
  refine ⟨_, (pss_cons (ps_while PassesOwn.never (pt_cmpR op_ne (pv 1) pe_int (nomark _))
    (pss_one (ps_par (i := 0) (j := 1) (by rfl) sc_common_measure.nd rfl rfl (by decide) rfl rfl (pa_cons (pv 1) (pa_cons (pe_op op_mod (pv 0) (pv 1)) pa_nil)) (by rfl))))
    (pss_one (ps_ret (pv 0)))), ?_⟩
  refine while_by (fun σ H' => H' = H ∧ ∃ x y : Int, σ = [some (.int x), some (.int y)] ∧ 0 ≤ x ∧ 0 ≤ y ∧ Int.gcd x y = Int.gcd a b) (fun σ _ => match σ with | [_, some (.int y)] => y.toNat | _ => 0) ⟨rfl, a, b, rfl, ha, hb, rfl⟩ ?_ ?_
  · rintro σ H' ⟨rfl, x, y, rfl, hx, hy, hg⟩
    refine ⟨_, rfl, rfl, _, rfl, ?_⟩
    by_cases c : y = 0
    · subst c
      refine iteNS rfl ?_
      refine ⟨_, rfl, ?_⟩
      have e := gcd_end hx
      rw [hg] at e
      rw [e] at q
      exact q
    · have c' : ¬ V.int y = V.int 0 := fun z => c (V.int.inj z)
      have e1 : (!decide (V.int y = V.int 0)) = true := by rw [decide_eq_false c']; rfl
      refine if_pos' e1 ?_
      have hy' : 0 < y := by omega
      refine ⟨_, rfl, _, rfl, _, rfl, _, _, rfl, rfl, hy', _, _, rfl, ?_⟩
      refine ⟨⟨rfl, y, x % y, rfl, hy, Int.emod_nonneg _ c, ?_⟩, ?_⟩
      · rw [gcd_step hx hy']
        exact hg
      · show (x % y).toNat < y.toNat
        have := Int.emod_lt_of_pos x hy'
        omega
  · rintro σ H Q Q' hq ⟨v, h1, h2, k, h3, h4⟩
    exact ⟨v, h1, h2, k, h3, hq _ _ h4⟩
abbrev s_lowest : Stmt := top 5
theorem sc_lowest : FnScope ["over", "under", "measure"] ["over", "under"] (defScope s_lowest) := ⟨rfl, rfl, rfl, by decide +kernel, rfl, by decide +kernel, by decide +kernel⟩
theorem low_body (B : Blt mg) (c_common_measure : Cal P w K mg base 1 "common_measure" ["one", "other"] spGcd) {a b : Int} {cdv : Value} {A : Around} {outer : List Env} {s : Shared} {H : Hp} {Q : VK} {E : XK} (hr : Room 1 (A.deeper (PyProof.Rows.envOfC "lowest" (defScope s_lowest) s.heap.objs.size f cdv))) (hb0 : b ≠ 0) (hb1 : b.natAbs < 4611686018427387904)
    (q : ∀ (p : Addr) (H' : Hp), Same H H' → H' p = some (.tup [.int (lowA a b), .int (lowB a b)]) → Q (.ref p) H') :
    ∃ t, PSs (cxOf CX0 P w K mg base ["over", "under", "measure"] "lowest" (defScope s_lowest) f cdv A outer s H E).nox (defBody s_lowest) t ∧ t { nx := fun _ H' => Q .non H', rt := Q } (start ["over", "under", "measure"] [.int a, .int b]) H := by
  refine ⟨_, (pss_cons (ps_if (pt_cmpR op_eq (pv 1) pe_int (nomark _))
    (pss_one ps_never)
    pss_nil)
    (pss_cons (ps_if (pt_cmpR op_lt (pv 1) pe_int (nomark _))
    (pss_one (ps_par (i := 0) (j := 1) (by rfl) sc_lowest.nd rfl rfl (by decide) rfl rfl (pa_cons (pe_un un_neg (pv 0)) (pa_cons (pe_un un_neg (pv 1)) pa_nil)) (by rfl)))
    pss_nil)
    (pss_cons (ps_set (i := 2) sc_lowest.nd rfl (Or.inl rfl) (pe_cal c_common_measure hr (pa_cons (pe_callB call_abs rfl B.abs bt_abs (pa_cons (pv 0) pa_nil)) (pa_cons (pv 1) pa_nil))))
    (pss_one (ps_ret (pe_tup (pa_cons (pe_op op_fdivW (pv 0) (pv 2)) (pa_cons (pe_op op_fdivW (pv 1) (pv 2)) pa_nil)))))))), ?_⟩
  have c0 : ¬ V.int b = V.int 0 := fun z => hb0 (V.int.inj z)
  refine ⟨_, rfl, rfl, _, rfl, ?_⟩
  refine iteDF c0 ?_
  dsimp only [tNext]
  refine seq_with (fun σ' H' => H' = H ∧ σ' = [some (.int (if b < 0 then -a else a)), some (.int (if b < 0 then -b else b)), none]) (fun R hR => ?_) ?_
  · refine ⟨_, rfl, _, _, rfl, rfl, _, rfl, ?_⟩
    refine ite2 (fun c => ?_) (fun c => ?_)
    · have c' : b < 0 := of_decide_eq_true c
      refine ⟨_, rfl, _, rfl, _, rfl, _, rfl, _, _, rfl, hR _ _ ⟨rfl, ?_⟩⟩
      rw [if_pos c', if_pos c']
      rfl
    · have c' : ¬ b < 0 := of_decide_eq_false (Bool.eq_false_iff.mpr c)
      refine hR _ _ ⟨rfl, ?_⟩
      rw [if_neg c', if_neg c']
      rfl
  · rintro σ H' ⟨rfl, rfl⟩
    have h1 : 0 ≤ (if (if b < 0 then -a else a) < 0 then -(if b < 0 then -a else a) else (if b < 0 then -a else a)) := by split <;> omega
    have h2 : 0 ≤ (if b < 0 then -b else b) := by split <;> omega
    have e : Int.gcd (if (if b < 0 then -a else a) < 0 then -(if b < 0 then -a else a) else (if b < 0 then -a else a)) (if b < 0 then -b else b) = Int.gcd a b := by
      rw [gcd_abs1]
      split <;> simp only [Int.neg_gcd, Int.gcd_neg]
    refine ⟨_, rfl, _, rfl, _, rfl, _, _, rfl, h1, h2, ?_⟩
    refine ⟨_, rfl, _, rfl, _, _, rfl, rfl, ?_, _, rfl, _, rfl, _, _, rfl, rfl, ?_, sz (by decide : 2 ≤ 100000), fun p hp => ?_⟩
    · rw [e]; exact gcd_wide hb0 hb1
    · rw [e]; exact gcd_wide hb0 hb1
    · refine q p _ (same_new hp _) ?_
      rw [upd_same]
      unfold lowA lowB
      rw [e]
theorem ok_lowest (B : Blt mg) (c_common_measure : Cal P w K mg base 1 "common_measure" ["one", "other"] spGcd) {dvs : List V} {kws : List (Str × V)} (F : FunD K "lowest" "lowest" (defArgs s_lowest) (defBody s_lowest) (defScope s_lowest) dvs kws f fd) : FnOk P w K mg base CX0 2 f fd ["over", "under"] spLow := by
  refine F.ok sc_lowest (fun vs H Q E h => ?_) (fun cdv A outer s H vs Q E hr h => ?_)
  · obtain ⟨a, b, rfl, _⟩ := h
    rfl
  obtain ⟨a, b, rfl, hb0, hb1, q⟩ := h
  obtain ⟨t, z1, z2⟩ := low_body (P := P) (w := w) (base := base) B c_common_measure hr hb0 hb1 q
  exact ⟨t, z1.nox, z2⟩
end
end DM

namespace DM
/-! ### the program's own meeting, its mathematics -/
section
variable {x1 y1 x2 y2 u1 v1 u2 v2 : Int}
theorem mp_area (x1 y1 x2 y2 u1 v1 u2 v2 : Int) : (x2 - x1) * (v2 - v1) - (y2 - y1) * (u2 - u1) = crs u1 v1 u2 v2 x1 y1 - crs u1 v1 u2 v2 x2 y2 := by
  unfold crs
  simp only [Int.sub_mul, Int.mul_sub, Int.mul_comm]
  omega
theorem mp_one (x1 y1 u1 v1 u2 v2 : Int) : (u1 - x1) * (v2 - v1) - (v1 - y1) * (u2 - u1) = crs u1 v1 u2 v2 x1 y1 := by
  unfold crs
  simp only [Int.sub_mul, Int.mul_sub, Int.mul_comm]
  omega
theorem mp_other (x1 y1 x2 y2 u1 v1 : Int) : (u1 - x1) * (y2 - y1) - (v1 - y1) * (x2 - x1) = - crs x1 y1 x2 y2 u1 v1 := by
  unfold crs
  simp only [Int.sub_mul, Int.mul_sub, Int.mul_comm]
  omega
theorem line_same (h : (x2 - x1) * (v2 - v1) - (y2 - y1) * (u2 - u1) = 0) : crs x1 y1 x2 y2 u1 v1 = crs x1 y1 x2 y2 u2 v2 := by
  have a := mp_area x1 y1 x2 y2 u1 v1 u2 v2
  have b := cross_w x1 y1 x2 y2 u1 v1 u2 v2
  omega
theorem mp_apart (h : (x2 - x1) * (v2 - v1) - (y2 - y1) * (u2 - u1) = 0) (h' : (u1 - x1) * (y2 - y1) ≠ (v1 - y1) * (x2 - x1)) : meetL x1 y1 x2 y2 u1 v1 u2 v2 = .no := by
  have e := line_same h
  have e' := mp_other x1 y1 x2 y2 u1 v1
  have n : crs x1 y1 x2 y2 u1 v1 ≠ 0 := by omega
  have pos : crs x1 y1 x2 y2 u1 v1 * crs x1 y1 x2 y2 u2 v2 > 0 := by
    rw [← e]
    rcases Int.lt_or_lt_of_ne n with z | z
    · exact Int.mul_pos_of_neg_of_neg z z
    · exact Int.mul_pos z z
  unfold meetL
  dsimp only
  rw [if_neg (fun z => n z.1), if_pos (.inl pos)]
theorem mp_line (h : (x2 - x1) * (v2 - v1) - (y2 - y1) * (u2 - u1) = 0) (h' : (u1 - x1) * (y2 - y1) = (v1 - y1) * (x2 - x1)) : meetL x1 y1 x2 y2 u1 v1 u2 v2 =
    (if ltP (maxP (minP (x1, y1) (x2, y2)) (minP (u1, v1) (u2, v2))).1 (maxP (minP (x1, y1) (x2, y2)) (minP (u1, v1) (u2, v2))).2 (minP (maxP (x1, y1) (x2, y2)) (maxP (u1, v1) (u2, v2))).1 (minP (maxP (x1, y1) (x2, y2)) (maxP (u1, v1) (u2, v2))).2 then
      .along (maxP (minP (x1, y1) (x2, y2)) (minP (u1, v1) (u2, v2))).1 (maxP (minP (x1, y1) (x2, y2)) (minP (u1, v1) (u2, v2))).2 (minP (maxP (x1, y1) (x2, y2)) (maxP (u1, v1) (u2, v2))).1 (minP (maxP (x1, y1) (x2, y2)) (maxP (u1, v1) (u2, v2))).2
     else if (maxP (minP (x1, y1) (x2, y2)) (minP (u1, v1) (u2, v2))).1 = (minP (maxP (x1, y1) (x2, y2)) (maxP (u1, v1) (u2, v2))).1 ∧ (maxP (minP (x1, y1) (x2, y2)) (minP (u1, v1) (u2, v2))).2 = (minP (maxP (x1, y1) (x2, y2)) (maxP (u1, v1) (u2, v2))).2 then
      .pt (maxP (minP (x1, y1) (x2, y2)) (minP (u1, v1) (u2, v2))).1 1 (maxP (minP (x1, y1) (x2, y2)) (minP (u1, v1) (u2, v2))).2 1 else .no) := by
  have e := line_same h
  have e' := mp_other x1 y1 x2 y2 u1 v1
  unfold meetL
  dsimp only
  rw [if_pos ⟨by omega, by omega⟩]
theorem sides_of {a b : Int} (h : 0 < b - a) : ¬ a * b > 0 ↔ a ≤ 0 ∧ 0 ≤ b := by
  constructor
  · intro n
    constructor
    · rcases Int.lt_or_le 0 a with z | z
      · exact absurd (Int.mul_pos z (by omega)) n
      · exact z
    · rcases Int.lt_or_le b 0 with z | z
      · exact absurd (Int.mul_pos_of_neg_of_neg (by omega) z) n
      · exact z
  · rintro ⟨h1, h2⟩ h3
    have := Int.mul_nonpos_of_nonpos_of_nonneg h1 h2
    omega
/-- O, T, A: how far along each, of how much; A above nought -/
theorem mp_cross {A O T : Int} (hA : 0 < A) (h : (A = crs u1 v1 u2 v2 x1 y1 - crs u1 v1 u2 v2 x2 y2 ∧ O = crs u1 v1 u2 v2 x1 y1 ∧ T = - crs x1 y1 x2 y2 u1 v1) ∨ (A = -(crs u1 v1 u2 v2 x1 y1 - crs u1 v1 u2 v2 x2 y2) ∧ O = -crs u1 v1 u2 v2 x1 y1 ∧ T = crs x1 y1 x2 y2 u1 v1)) :
    meetL x1 y1 x2 y2 u1 v1 u2 v2 = if 0 ≤ O ∧ O ≤ A ∧ 0 ≤ T ∧ T ≤ A then .pt (lowA (x1 * A + O * (x2 - x1)) A) (lowB (x1 * A + O * (x2 - x1)) A) (lowA (y1 * A + O * (y2 - y1)) A) (lowB (y1 * A + O * (y2 - y1)) A) else .no := by
  have w := cross_w x1 y1 x2 y2 u1 v1 u2 v2
  have cx := cross_x x1 y1 x2 y2 u1 v1 u2 v2
  have cy := cross_y x1 y1 x2 y2 u1 v1 u2 v2
  unfold meetL
  dsimp only
  generalize crs x1 y1 x2 y2 u1 v1 = l0 at *
  generalize crs x1 y1 x2 y2 u2 v2 = l1 at *
  generalize crs u1 v1 u2 v2 x1 y1 = r0 at *
  generalize crs u1 v1 u2 v2 x2 y2 = r1 at *
  have n0 : l0 - l1 ≠ 0 := by omega
  rw [if_neg (show ¬ (l0 = 0 ∧ l1 = 0) by omega)]
  have ex : ∀ a b : Int, a * A + O * (b - a) = a * A + (b - a) * O := fun a b => by rw [Int.mul_comm O]
  rw [ex, ex]
  rcases h with ⟨eA, eO, eT⟩ | ⟨eA, eO, eT⟩
  · have s1 := sides_of (a := l0) (b := l1) (by omega)
    have s2 := sides_of (a := r1) (b := r0) (by omega)
    rw [Int.mul_comm] at s2
    by_cases d : l0 * l1 > 0 ∨ r0 * r1 > 0
    · rw [if_pos d, if_neg (by omega)]
    · rw [if_neg d, if_pos (by omega)]
      rw [eO, eA, cx, cy, w]
      have a1 := low_neg (u1 * (l0 - l1) + (u2 - u1) * l0) (l0 - l1) n0
      have a2 := low_neg (v1 * (l0 - l1) + (v2 - v1) * l0) (l0 - l1) n0
      rw [a1.1, a1.2, a2.1, a2.2]
  · have s1 := sides_of (a := l1) (b := l0) (by omega)
    have s2 := sides_of (a := r0) (b := r1) (by omega)
    rw [Int.mul_comm] at s1
    by_cases d : l0 * l1 > 0 ∨ r0 * r1 > 0
    · rw [if_pos d, if_neg (by omega)]
    · rw [if_neg d, if_pos (by omega)]
      have k : ∀ a b : Int, a * -(r0 - r1) + (b - a) * -r0 = -(a * (r0 - r1) + (b - a) * r0) := fun a b => by rw [Int.mul_neg, Int.mul_neg]; omega
      rw [eO, eA, k, k, cx, cy, w, Int.neg_neg, Int.neg_neg, Int.neg_neg]
theorem low_whole (a : Int) : lowA a 1 = a ∧ lowB a 1 = 1 := by
  unfold lowA lowB
  rw [if_neg (by decide), if_neg (by decide), Int.gcd_one_right]
  exact ⟨Int.ediv_one a, rfl⟩
end
end DM

namespace DM
open PySem L2
section
variable {X : Cx}
def rGtP (K : PySem.W.Frag) : R2 := fun x y H Q => ∃ (p q : Addr) (a b c d : Int), x = .ref p ∧ y = .ref q ∧ SqT K H p [.int a, .int b] ∧ SqT K H q [.int c, .int d] ∧ Q (.bl (decide (ltP c d a b))) H
theorem op_gtP (hu : X.A.units + 64 < cLine) : OpR X (compareOp .Gt) (rGtP X.K) := by
  intro pins s σ H x y v u Q I rx ry want
  obtain ⟨p, q, a, b, c, d, rfl, rfl, hp, hq, last⟩ := want
  cases (show v = Value.ref p from rx)
  cases (show u = Value.ref q from ry)
  refine PySem.W.gt_datum (α := Int × Int) (x := (a, b)) (y := (c, d)) (held_pair I hp) (held_pair I hq) (Nat.lt_of_le_of_lt (by show X.A.units + 1 ≤ X.A.units + 64; omega) hu) ?_
  rw [lt_pair]
  exact ⟨.bl _, H, I, rfl, last⟩
end
def spLine : Sp := fun vs H Q _ => ∃ (p q : Addr) (x1 y1 x2 y2 u1 v1 u2 v2 : Int), vs = [.ref p, .ref q] ∧ Stk H p x1 y1 x2 y2 ∧ Stk H q u1 v1 u2 v2 ∧ (x2 - x1) * (v2 - v1) - (y2 - y1) * (u2 - u1) = 0 ∧ ∀ (r : V) (H' : Hp), Same H H' → MetAt H' r (meetL x1 y1 x2 y2 u1 v1 u2 v2) → Q r H'
section
variable {P : Program} {w : World} {K : PySem.W.Frag} {mg : Str → Option Value} {base : Heap} {f : Addr} {fd : FuncData}
abbrev s_meet_in_line : Stmt := top 19
theorem sc_meet_in_line : FnScope ["one", "other", "x1", "y1", "x2", "y2", "x3", "y3", "x4", "y4", "begin", "end"] ["one", "other"] (defScope s_meet_in_line) := ⟨rfl, rfl, rfl, by decide +kernel, rfl, by decide +kernel, by decide +kernel⟩
theorem ok_meet_in_line (B : Blt mg) (d_lowest : CalD P w K mg base 2 "lowest" ["over", "under"] spLow [.int 1]) (F : Fun K "meet_in_line" "meet_in_line" s_meet_in_line f fd) : FnOk P w K mg base CX0 3 f fd ["one", "other"] spLine := by
  refine F.ok sc_meet_in_line (fun vs H Q E h => ?_) (fun cdv A outer s H vs Q E hr h => ?_)
  · obtain ⟨p, q, x1, y1, x2, y2, u1, v1, u2, v2, rfl, _⟩ := h
    rfl
  obtain ⟨p, o, x1, y1, x2, y2, u1, v1, u2, v2, rfl, hS, hT, h0, q⟩ := h
  have hp := hS.1
  have ho := hT.1
  have bs := hS.2.1
  have bt := hT.2.1
  refine ⟨_, (pss_cons (ps_asg (pv 0) (pg_tup rfl (pgs_cons (pg_name (i := 2) sc_meet_in_line.nd rfl (Or.inl rfl)) (pgs_cons (pg_name (i := 3) sc_meet_in_line.nd rfl (Or.inl rfl)) (pgs_cons (pg_name (i := 4) sc_meet_in_line.nd rfl (Or.inl rfl)) (pgs_cons (pg_name (i := 5) sc_meet_in_line.nd rfl (Or.inl rfl)) pgs_nil))))))
    (pss_cons (ps_asg (pv 1) (pg_tup rfl (pgs_cons (pg_name (i := 6) sc_meet_in_line.nd rfl (Or.inl rfl)) (pgs_cons (pg_name (i := 7) sc_meet_in_line.nd rfl (Or.inl rfl)) (pgs_cons (pg_name (i := 8) sc_meet_in_line.nd rfl (Or.inl rfl)) (pgs_cons (pg_name (i := 9) sc_meet_in_line.nd rfl (Or.inl rfl)) pgs_nil))))))
    (pss_cons (ps_if (pt_cmpR op_ne (pe_op op_mul (pe_op op_sub (pv 6) (pv 2)) (pe_op op_sub (pv 5) (pv 3))) (pe_op op_mul (pe_op op_sub (pv 7) (pv 3)) (pe_op op_sub (pv 4) (pv 2))) (nomark _))
    (pss_one (ps_ret pe_non))
    pss_nil)
    (pss_cons (ps_set (i := 10) sc_meet_in_line.nd rfl (Or.inl rfl) (pe_callB (cr_max2 rfl hr.units) rfl B.max bt_max (pa_cons (pe_callB (cr_min2 rfl hr.units) rfl B.min bt_min (pa_cons (pe_tup (pa_cons (pv 2) (pa_cons (pv 3) pa_nil))) (pa_cons (pe_tup (pa_cons (pv 4) (pa_cons (pv 5) pa_nil))) pa_nil))) (pa_cons (pe_callB (cr_min2 rfl hr.units) rfl B.min bt_min (pa_cons (pe_tup (pa_cons (pv 6) (pa_cons (pv 7) pa_nil))) (pa_cons (pe_tup (pa_cons (pv 8) (pa_cons (pv 9) pa_nil))) pa_nil))) pa_nil))))
    (pss_cons (ps_set (i := 11) sc_meet_in_line.nd rfl (Or.inl rfl) (pe_callB (cr_min2 rfl hr.units) rfl B.min bt_min (pa_cons (pe_callB (cr_max2 rfl hr.units) rfl B.max bt_max (pa_cons (pe_tup (pa_cons (pv 2) (pa_cons (pv 3) pa_nil))) (pa_cons (pe_tup (pa_cons (pv 4) (pa_cons (pv 5) pa_nil))) pa_nil))) (pa_cons (pe_callB (cr_max2 rfl hr.units) rfl B.max bt_max (pa_cons (pe_tup (pa_cons (pv 6) (pa_cons (pv 7) pa_nil))) (pa_cons (pe_tup (pa_cons (pv 8) (pa_cons (pv 9) pa_nil))) pa_nil))) pa_nil))))
    (pss_cons (ps_if (pt_cmpR (op_gtP hr.units) (pv 10) (pv 11) (nomark _))
    (pss_one (ps_ret pe_non))
    pss_nil)
    (pss_cons (ps_if (pt_cmpR (op_eqD hr.units) (pv 10) (pv 11) (nomark _))
    (pss_one (ps_ret (pe_tup (pa_cons pe_str (pa_cons (pe_tup (pa_cons (pe_calD d_lowest hr (pa_cons (pe_ix ix_tup (pv 10) pe_int (fun _ _ => rfl)) pa_nil)) (pa_cons (pe_calD d_lowest hr (pa_cons (pe_ix ix_tup (pv 10) pe_int (fun _ _ => rfl)) pa_nil)) pa_nil))) pa_nil)))))
    pss_nil)
    (pss_one (ps_ret (pe_tup (pa_cons pe_str (pa_cons (pv 10) (pa_cons (pv 11) pa_nil))))))))))))), ?_⟩
  refine seq_with (fun σ' H' => H = H' ∧ σ' = [some (.ref p), some (.ref o), some (.int x1), some (.int y1), some (.int x2), some (.int y2), none, none, none, none, none, none]) (fun R hR => ⟨_, rfl, p, _, rfl, SqT.of hp, rfl, _, _, rfl, _, _, rfl, _, _, rfl, _, _, rfl, rfl, hR _ _ ⟨rfl, rfl⟩⟩) ?_
  rintro _ _ ⟨rfl, rfl⟩
  refine seq_with (fun σ' H' => H = H' ∧ σ' = [some (.ref p), some (.ref o), some (.int x1), some (.int y1), some (.int x2), some (.int y2), some (.int u1), some (.int v1), some (.int u2), some (.int v2), none, none]) (fun R hR => ⟨_, rfl, o, _, rfl, SqT.of ho, rfl, _, _, rfl, _, _, rfl, _, _, rfl, _, _, rfl, rfl, hR _ _ ⟨rfl, rfl⟩⟩) ?_
  rintro _ _ ⟨rfl, rfl⟩
  refine ⟨_, rfl, _, rfl, _, _, rfl, rfl, _, rfl, _, rfl, _, _, rfl, rfl, _, _, rfl, rfl, .inl ⟨by omega, by omega⟩, ?_⟩
  refine ⟨_, rfl, _, rfl, _, _, rfl, rfl, _, rfl, _, rfl, _, _, rfl, rfl, _, _, rfl, rfl, .inl ⟨by omega, by omega⟩, rfl, _, rfl, ?_⟩
  by_cases c : (u1 - x1) * (y2 - y1) = (v1 - y1) * (x2 - x1)
  · refine iteNS (congrArg V.int c) ?_
    rw [mp_line h0 c] at q
    -- begin
    refine ⟨_, rfl, _, rfl, sz (by decide : 2 ≤ 100000), fun e0 n0 => ?_⟩
    have g0 := same_new n0 (.tup [.int x1, .int y1])
    refine ⟨_, rfl, _, rfl, sz (by decide : 2 ≤ 100000), fun e1 n1 => ?_⟩
    have g1 := same_new n1 (.tup [.int x2, .int y2])
    have i0 := g1 _ _ (new_at g0)
    have i1 := new_at g1
    refine ⟨e0, e1, x1, y1, x2, y2, rfl, SqT.of i0, SqT.of i1, ?_⟩
    have m1 := min_at (a := (x1, y1)) (b := (x2, y2)) i0 i1
    refine ⟨_, rfl, _, rfl, sz (by decide : 2 ≤ 100000), fun e2 n2 => ?_⟩
    have g2 := same_new n2 (.tup [.int u1, .int v1])
    refine ⟨_, rfl, _, rfl, sz (by decide : 2 ≤ 100000), fun e3 n3 => ?_⟩
    have g3 := same_new n3 (.tup [.int u2, .int v2])
    have i2 := g3 _ _ (new_at g2)
    have i3 := new_at g3
    refine ⟨e2, e3, u1, v1, u2, v2, rfl, SqT.of i2, SqT.of i3, ?_⟩
    have m2 := min_at (a := (u1, v1)) (b := (u2, v2)) i2 i3
    have m1 := g3 _ _ (g2 _ _ m1)
    refine ⟨_, _, _, _, _, _, rfl, SqT.of m1, SqT.of m2, ?_⟩
    have hlo := max_at m1 m2
    have gA := g0.trans (g1.trans (g2.trans g3))
    -- end
    refine ⟨_, rfl, _, rfl, sz (by decide : 2 ≤ 100000), fun e4 n4 => ?_⟩
    have g4 := same_new n4 (.tup [.int x1, .int y1])
    refine ⟨_, rfl, _, rfl, sz (by decide : 2 ≤ 100000), fun e5 n5 => ?_⟩
    have g5 := same_new n5 (.tup [.int x2, .int y2])
    have i4 := g5 _ _ (new_at g4)
    have i5 := new_at g5
    refine ⟨e4, e5, x1, y1, x2, y2, rfl, SqT.of i4, SqT.of i5, ?_⟩
    have M1 := max_at (a := (x1, y1)) (b := (x2, y2)) i4 i5
    refine ⟨_, rfl, _, rfl, sz (by decide : 2 ≤ 100000), fun e6 n6 => ?_⟩
    have g6 := same_new n6 (.tup [.int u1, .int v1])
    refine ⟨_, rfl, _, rfl, sz (by decide : 2 ≤ 100000), fun e7 n7 => ?_⟩
    have g7 := same_new n7 (.tup [.int u2, .int v2])
    have i6 := g7 _ _ (new_at g6)
    have i7 := new_at g7
    refine ⟨e6, e7, u1, v1, u2, v2, rfl, SqT.of i6, SqT.of i7, ?_⟩
    have M2 := max_at (a := (u1, v1)) (b := (u2, v2)) i6 i7
    have M1 := g7 _ _ (g6 _ _ M1)
    refine ⟨_, _, _, _, _, _, rfl, SqT.of M1, SqT.of M2, ?_⟩
    have hhi := min_at M1 M2
    have gB := g4.trans (g5.trans (g6.trans g7))
    have hlo := gB _ _ hlo
    have gC := gA.trans gB
    generalize maxP (minP (x1, y1) (x2, y2)) (minP (u1, v1) (u2, v2)) = lo at *
    generalize minP (maxP (x1, y1) (x2, y2)) (maxP (u1, v1) (u2, v2)) = hi at *
    refine ⟨_, rfl, _, rfl, _, _, lo.1, lo.2, hi.1, hi.2, rfl, rfl, SqT.of hlo, SqT.of hhi, _, rfl, ?_⟩
    by_cases d : ltP hi.1 hi.2 lo.1 lo.2
    · refine iteDT d ?_
      rw [if_neg (show ¬ ltP lo.1 lo.2 hi.1 hi.2 by unfold ltP at *; omega), if_neg (show ¬ (lo.1 = hi.1 ∧ lo.2 = hi.2) by unfold ltP at *; omega)] at q
      exact q _ _ gC rfl
    · refine iteDF d ?_
      refine ⟨_, rfl, _, rfl, _, _, dp_pair hlo, dp_pair hhi, shaped_pair _ _, shaped_pair _ _, _, rfl, ?_⟩
      rw [eqv_pair]
      by_cases d' : lo.1 = hi.1 ∧ lo.2 = hi.2
      · refine iteDT d' ?_
        rw [if_neg (show ¬ ltP lo.1 lo.2 hi.1 hi.2 by unfold ltP at *; omega), if_pos d'] at q
        refine ⟨_, rfl, _, _, _, _, rfl, rfl, SqT.of hlo, rfl, lo.1, 1, rfl, by decide, by decide, fun r1 H1 s1 h1 => ?_⟩
        refine ⟨_, rfl, _, _, _, _, rfl, rfl, SqT.of (s1 _ _ hlo), rfl, lo.2, 1, rfl, by decide, by decide, fun r2 H2 s2 h2 => ?_⟩
        rw [(low_whole lo.1).1, (low_whole lo.1).2] at h1
        rw [(low_whole lo.2).1, (low_whole lo.2).2] at h2
        refine ⟨sz (by decide : 2 ≤ 100000), fun r3 n3 => ⟨sz (by decide : 2 ≤ 100000), fun r4 n4 => ?_⟩⟩
        exact q (.ref r4) _ (gC.trans (s1.trans (s2.trans ((same_new n3 _).trans (same_new n4 _))))) ⟨r4, r3, r1, r2, rfl, upd_same, same_new n4 _ _ _ upd_same, same_new n4 _ _ _ (same_new n3 _ _ _ (s2 _ _ h1)), same_new n4 _ _ _ (same_new n3 _ _ _ h2)⟩
      · refine iteDF d' ?_
        rw [if_pos (show ltP lo.1 lo.2 hi.1 hi.2 by unfold ltP at *; omega)] at q
        refine ⟨_, rfl, _, rfl, sz (by decide : 3 ≤ 100000), fun r nr => ?_⟩
        exact q (.ref r) _ (gC.trans (same_new nr _)) ⟨r, _, _, rfl, upd_same, same_new nr _ _ _ hlo, same_new nr _ _ _ hhi⟩
  · refine if_pos' (by rw [decide_eq_false (fun z => c (V.int.inj z))]; rfl) ?_
    rw [mp_apart h0 c] at q
    exact q _ _ (Same.refl H) rfl
abbrev s_p_meet : Stmt := top 18
theorem sc_p_meet : FnScope ["one", "other", "x1", "y1", "x2", "y2", "x3", "y3", "x4", "y4", "area", "along_one", "along_other", "x", "y"] ["one", "other"] (defScope s_p_meet) := ⟨rfl, rfl, rfl, by decide +kernel, rfl, by decide +kernel, by decide +kernel⟩
theorem ok_p_meet (c_lowest : Cal P w K mg base 2 "lowest" ["over", "under"] spLow) (c_meet_in_line : Cal P w K mg base 3 "meet_in_line" ["one", "other"] spLine) (F : Fun K "meet" "meet" s_p_meet f fd) : FnOk P w K mg base CX0 4 f fd ["one", "other"] spMeet := by
  refine F.ok sc_p_meet (fun vs H Q E h => ?_) (fun cdv A outer s H vs Q E hr h => ?_)
  · obtain ⟨p, q, x1, y1, x2, y2, u1, v1, u2, v2, rfl, _⟩ := h
    rfl
  obtain ⟨p, o, x1, y1, x2, y2, u1, v1, u2, v2, rfl, hS, hT, q⟩ := h
  have hp := hS.1
  have ho := hT.1
  have bs := hS.2.1
  have bt := hT.2.1
  refine ⟨_, (pss_cons (ps_asg (pv 0) (pg_tup rfl (pgs_cons (pg_name (i := 2) sc_p_meet.nd rfl (Or.inl rfl)) (pgs_cons (pg_name (i := 3) sc_p_meet.nd rfl (Or.inl rfl)) (pgs_cons (pg_name (i := 4) sc_p_meet.nd rfl (Or.inl rfl)) (pgs_cons (pg_name (i := 5) sc_p_meet.nd rfl (Or.inl rfl)) pgs_nil))))))
    (pss_cons (ps_asg (pv 1) (pg_tup rfl (pgs_cons (pg_name (i := 6) sc_p_meet.nd rfl (Or.inl rfl)) (pgs_cons (pg_name (i := 7) sc_p_meet.nd rfl (Or.inl rfl)) (pgs_cons (pg_name (i := 8) sc_p_meet.nd rfl (Or.inl rfl)) (pgs_cons (pg_name (i := 9) sc_p_meet.nd rfl (Or.inl rfl)) pgs_nil))))))
    (pss_cons (ps_set (i := 10) sc_p_meet.nd rfl (Or.inl rfl) (pe_op op_sub (pe_op op_mul (pe_op op_sub (pv 4) (pv 2)) (pe_op op_sub (pv 9) (pv 7))) (pe_op op_mul (pe_op op_sub (pv 5) (pv 3)) (pe_op op_sub (pv 8) (pv 6)))))
    (pss_cons (ps_if (pt_cmpR op_eq (pv 10) pe_int (nomark _))
    (pss_one (ps_ret (pe_cal c_meet_in_line hr (pa_cons (pv 0) (pa_cons (pv 1) pa_nil)))))
    pss_nil)
    (pss_cons (ps_set (i := 11) sc_p_meet.nd rfl (Or.inl rfl) (pe_op op_sub (pe_op op_mul (pe_op op_sub (pv 6) (pv 2)) (pe_op op_sub (pv 9) (pv 7))) (pe_op op_mul (pe_op op_sub (pv 7) (pv 3)) (pe_op op_sub (pv 8) (pv 6)))))
    (pss_cons (ps_set (i := 12) sc_p_meet.nd rfl (Or.inl rfl) (pe_op op_sub (pe_op op_mul (pe_op op_sub (pv 6) (pv 2)) (pe_op op_sub (pv 5) (pv 3))) (pe_op op_mul (pe_op op_sub (pv 7) (pv 3)) (pe_op op_sub (pv 4) (pv 2)))))
    (pss_cons (ps_if (pt_cmpR op_lt (pv 10) pe_int (nomark _))
    (pss_one (ps_par3 (i := 10) (j := 11) (l := 12) (by rfl) sc_p_meet.nd rfl rfl rfl (by decide) (by decide) (by decide) rfl rfl rfl (pa_cons (pe_un un_neg (pv 10)) (pa_cons (pe_un un_neg (pv 11)) (pa_cons (pe_un un_neg (pv 12)) pa_nil))) (by rfl)))
    pss_nil)
    (pss_cons (ps_if (pt_not (PW.pt (pw_and (pt_chain op_le op_le pe_int (pv 11) (pv 10)) (pw_and1 (pt_chain op_le op_le pe_int (pv 12) (pv 10))))))
    (pss_one (ps_ret pe_non))
    pss_nil)
    (pss_cons (ps_set (i := 13) sc_p_meet.nd rfl (Or.inl rfl) (pe_cal c_lowest hr (pa_cons (pe_op op_add (pe_op op_mul (pv 2) (pv 10)) (pe_op op_mul (pv 11) (pe_op op_sub (pv 4) (pv 2)))) (pa_cons (pv 10) pa_nil))))
    (pss_cons (ps_set (i := 14) sc_p_meet.nd rfl (Or.inl rfl) (pe_cal c_lowest hr (pa_cons (pe_op op_add (pe_op op_mul (pv 3) (pv 10)) (pe_op op_mul (pv 11) (pe_op op_sub (pv 5) (pv 3)))) (pa_cons (pv 10) pa_nil))))
    (pss_one (ps_ret (pe_tup (pa_cons pe_str (pa_cons (pe_tup (pa_cons (pv 13) (pa_cons (pv 14) pa_nil))) pa_nil))))))))))))))), ?_⟩
  refine seq_with (fun σ' H' => H = H' ∧ σ' = [some (.ref p), some (.ref o), some (.int x1), some (.int y1), some (.int x2), some (.int y2), none, none, none, none, none, none, none, none, none]) (fun R hR => ⟨_, rfl, p, _, rfl, SqT.of hp, rfl, _, _, rfl, _, _, rfl, _, _, rfl, _, _, rfl, rfl, hR _ _ ⟨rfl, rfl⟩⟩) ?_
  rintro _ _ ⟨rfl, rfl⟩
  refine seq_with (fun σ' H' => H = H' ∧ σ' = [some (.ref p), some (.ref o), some (.int x1), some (.int y1), some (.int x2), some (.int y2), some (.int u1), some (.int v1), some (.int u2), some (.int v2), none, none, none, none, none]) (fun R hR => ⟨_, rfl, o, _, rfl, SqT.of ho, rfl, _, _, rfl, _, _, rfl, _, _, rfl, _, _, rfl, rfl, hR _ _ ⟨rfl, rfl⟩⟩) ?_
  rintro _ _ ⟨rfl, rfl⟩
  refine ⟨_, rfl, _, rfl, _, _, rfl, rfl, _, rfl, _, rfl, _, _, rfl, rfl, _, _, rfl, rfl, .inl ⟨by omega, by omega⟩, ?_⟩
  refine ⟨_, rfl, _, rfl, _, _, rfl, rfl, _, rfl, _, rfl, _, _, rfl, rfl, _, _, rfl, rfl, .inl ⟨by omega, by omega⟩, _, _, rfl, rfl, ?_⟩
  refine ⟨_, rfl, rfl, _, rfl, ?_⟩
  by_cases c : (x2 - x1) * (v2 - v1) - (y2 - y1) * (u2 - u1) = 0
  · refine iteDT (congrArg V.int c) ?_
    exact ⟨_, rfl, _, rfl, p, o, x1, y1, x2, y2, u1, v1, u2, v2, rfl, hS, hT, c, q⟩
  refine iteDF (fun z => c (V.int.inj z)) ?_
  refine ⟨_, rfl, _, rfl, _, _, rfl, rfl, _, rfl, _, rfl, _, _, rfl, rfl, _, _, rfl, rfl, .inl ⟨by omega, by omega⟩, ?_⟩
  refine ⟨_, rfl, _, rfl, _, _, rfl, rfl, _, rfl, _, rfl, _, _, rfl, rfl, _, _, rfl, rfl, .inl ⟨by omega, by omega⟩, _, _, rfl, rfl, ?_⟩
  refine ⟨_, rfl, _, rfl, _, _, rfl, rfl, _, rfl, _, rfl, _, _, rfl, rfl, _, _, rfl, rfl, .inl ⟨by omega, by omega⟩, ?_⟩
  refine ⟨_, rfl, _, rfl, _, _, rfl, rfl, _, rfl, _, rfl, _, _, rfl, rfl, _, _, rfl, rfl, .inl ⟨by omega, by omega⟩, _, _, rfl, rfl, ?_⟩
  have k1 := crs_small (x1 := u1) (y1 := v1) (x2 := u2) (y2 := v2) (x3 := x1) (y3 := y1) (by omega) (by omega) (by omega)
  have k2 := crs_small (x1 := u1) (y1 := v1) (x2 := u2) (y2 := v2) (x3 := x2) (y3 := y2) (by omega) (by omega) (by omega)
  have z1 := mp_area x1 y1 x2 y2 u1 v1 u2 v2
  have z2 := mp_one x1 y1 u1 v1 u2 v2
  have z3 := mp_other x1 y1 x2 y2 u1 v1
  dsimp only [gName, tNext]
  refine seq_with (fun σ' H' => H' = H ∧ ∃ A O T : Int, σ' = [some (.ref p), some (.ref o), some (.int x1), some (.int y1), some (.int x2), some (.int y2), some (.int u1), some (.int v1), some (.int u2), some (.int v2), some (.int A), some (.int O), some (.int T), none, none] ∧ 0 < A ∧ A ≤ 25600 ∧ -25600 ≤ O ∧ O ≤ 25600 ∧ ((A = crs u1 v1 u2 v2 x1 y1 - crs u1 v1 u2 v2 x2 y2 ∧ O = crs u1 v1 u2 v2 x1 y1 ∧ T = - crs x1 y1 x2 y2 u1 v1) ∨ (A = -(crs u1 v1 u2 v2 x1 y1 - crs u1 v1 u2 v2 x2 y2) ∧ O = -crs u1 v1 u2 v2 x1 y1 ∧ T = crs x1 y1 x2 y2 u1 v1))) (fun R hR => ?_) ?_
  · refine ⟨_, rfl, _, _, rfl, rfl, _, rfl, ?_⟩
    by_cases d : (x2 - x1) * (v2 - v1) - (y2 - y1) * (u2 - u1) < 0
    · refine iteDT d ?_
      refine ⟨_, rfl, _, rfl, _, rfl, _, rfl, _, rfl, _, rfl, _, _, _, rfl, hR _ _ ⟨rfl, _, _, _, rfl, by omega, by omega, by omega, by omega, .inr ⟨by omega, by omega, by omega⟩⟩⟩
    · refine iteDF d ?_
      exact hR _ _ ⟨rfl, _, _, _, rfl, by omega, by omega, by omega, by omega, .inl ⟨by omega, by omega, by omega⟩⟩
  · rintro σ H' ⟨rfl, A, O, T, rfl, hA, hA', hO, hO', hc⟩
    rw [mp_cross hA hc] at q
    refine ⟨_, rfl, _, _, rfl, rfl, _, rfl, ?_⟩
    by_cases d1 : 0 ≤ O
    · refine iteDT d1 ?_
      refine ⟨_, rfl, _, _, rfl, rfl, _, rfl, ?_⟩
      by_cases d2 : O ≤ A
      · refine iteDT d2 ?_
        refine ⟨_, rfl, _, _, rfl, rfl, _, rfl, ?_⟩
        by_cases d3 : 0 ≤ T
        · refine iteDT d3 ?_
          refine ⟨_, rfl, _, _, rfl, rfl, _, rfl, ?_⟩
          by_cases d4 : T ≤ A
          · refine iteNS d4 ?_
            rw [if_pos ⟨d1, d2, d3, d4⟩] at q
            refine ⟨_, rfl, _, rfl, _, _, rfl, rfl, .inl ⟨by omega, by omega⟩, _, rfl, _, rfl, _, rfl, _, _, rfl, rfl, _, _, rfl, rfl, .inl ⟨by omega, by omega⟩, _, _, rfl, rfl, _, rfl, _, A, rfl, by omega, by omega, fun px H1 s1 h1 => ?_⟩
            refine ⟨_, rfl, _, rfl, _, _, rfl, rfl, .inl ⟨by omega, by omega⟩, _, rfl, _, rfl, _, rfl, _, _, rfl, rfl, _, _, rfl, rfl, .inl ⟨by omega, by omega⟩, _, _, rfl, rfl, _, rfl, _, A, rfl, by omega, by omega, fun py H2 s2 h2 => ?_⟩
            refine ⟨_, rfl, _, rfl, sz (by decide : 2 ≤ 100000), fun r3 n3 => ⟨sz (by decide : 2 ≤ 100000), fun r4 n4 => ?_⟩⟩
            exact q (.ref r4) _ (s1.trans (s2.trans ((same_new n3 _).trans (same_new n4 _)))) ⟨r4, r3, px, py, rfl, upd_same, same_new n4 _ _ _ upd_same, same_new n4 _ _ _ (same_new n3 _ _ _ (s2 _ _ h1)), same_new n4 _ _ _ (same_new n3 _ _ _ h2)⟩
          · refine if_pos' (by rw [decide_eq_false d4]; rfl) ?_
            rw [if_neg (fun z => d4 z.2.2.2)] at q
            exact q _ _ (Same.refl _) rfl
        · refine iteDF d3 ?_
          rw [if_neg (fun z => d3 z.2.2.1)] at q
          exact ⟨_, rfl, iteT (q _ _ (Same.refl _) rfl)⟩
      · refine iteDF d2 ?_
        rw [if_neg (fun z => d2 z.2.1)] at q
        exact q _ _ (Same.refl _) rfl
    · refine iteDF d1 ?_
      rw [if_neg (fun z => d1 z.1)] at q
      exact ⟨_, rfl, iteF (q _ _ (Same.refl _) rfl)⟩
end
end DM

namespace DM
theorem low_frac {a b : Int} (hb : b ≠ 0) : 0 < lowB a b ∧ lowA a b * b = a * lowB a b := by
  have hg : 0 < ((Int.gcd a b : Nat) : Int) := by
    have := Int.gcd_pos_of_ne_zero_right a hb
    omega
  obtain ⟨a', ea⟩ : ((Int.gcd a b : Nat) : Int) ∣ a := Int.gcd_dvd_left ..
  obtain ⟨b', eb⟩ : ((Int.gcd a b : Nat) : Int) ∣ b := Int.gcd_dvd_right ..
  unfold lowA lowB
  generalize ((Int.gcd a b : Nat) : Int) = g at *
  have hg0 : g ≠ 0 := by omega
  by_cases c : b < 0
  · rw [if_pos c, if_pos c]
    have e1 : -a / g = -a' := by rw [ea, ← Int.mul_neg, Int.mul_ediv_cancel_left _ hg0]
    have e2 : -b / g = -b' := by rw [eb, ← Int.mul_neg, Int.mul_ediv_cancel_left _ hg0]
    rw [e1, e2]
    constructor
    · rcases Int.lt_or_le 0 (-b') with z | z
      · exact z
      · have := Int.mul_nonneg (show 0 ≤ g by omega) (show 0 ≤ b' by omega)
        omega
    · rw [ea, eb]
      simp only [Int.neg_mul, Int.mul_neg, Int.mul_left_comm, Int.mul_comm]
  · rw [if_neg c, if_neg c]
    have e1 : a / g = a' := by rw [ea, Int.mul_ediv_cancel_left _ hg0]
    have e2 : b / g = b' := by rw [eb, Int.mul_ediv_cancel_left _ hg0]
    rw [e1, e2]
    constructor
    · rcases Int.lt_or_le 0 b' with z | z
      · exact z
      · have := Int.mul_nonneg (show 0 ≤ g by omega) (show 0 ≤ -b' by omega)
        rw [Int.mul_neg] at this
        omega
    · rw [ea, eb]
      simp only [Int.mul_left_comm, Int.mul_comm]
/-- a place lies on a stroke -/
def On (x1 y1 x2 y2 a b c d : Int) : Prop := 0 < b ∧ 0 < d ∧ ∃ n m : Int, 0 < m ∧ 0 ≤ n ∧ n ≤ m ∧ a * m = (x1 * m + (x2 - x1) * n) * b ∧ c * m = (y1 * m + (y2 - y1) * n) * d
theorem on_half {x u n m a b s : Int} (hm : 0 < m) (hb : 0 < b) (e : a * m = (x * m + u * n) * b) (h1 : (2 * s - 1) * b ≤ 2 * a) (h2 : 2 * a < (2 * s + 1) * b) : (2 * s - 1) * m ≤ 2 * x * m + 2 * u * n ∧ 2 * x * m + 2 * u * n < (2 * s + 1) * m := by
  have k1 := Int.mul_le_mul_of_nonneg_right h1 (show 0 ≤ m by omega)
  have k2 := Int.mul_lt_mul_of_pos_right h2 hm
  have f1 : 2 * a * m = 2 * x * m * b + 2 * u * n * b := by
    rw [Int.mul_assoc, e, Int.add_mul, Int.mul_add]
    simp only [Int.mul_assoc]
  have f2 : (2 * x * m + 2 * u * n) * b = 2 * a * m := by rw [f1, Int.add_mul]
  have f3 : (2 * s - 1) * b * m = (2 * s - 1) * m * b := Int.mul_right_comm ..
  have f4 : (2 * s + 1) * b * m = (2 * s + 1) * m * b := Int.mul_right_comm ..
  constructor
  · exact Int.le_of_mul_le_mul_right (by omega) hb
  · exact Int.lt_of_mul_lt_mul_right (by omega) (Int.le_of_lt hb)
theorem On.thr {x1 y1 x2 y2 a b c d sx sy : Int} (h : On x1 y1 x2 y2 a b c d) (h1 : (2 * sx - 1) * b ≤ 2 * a) (h2 : 2 * a < (2 * sx + 1) * b) (h3 : (2 * sy - 1) * d ≤ 2 * c) (h4 : 2 * c < (2 * sy + 1) * d) : Thr x1 y1 x2 y2 sx sy := by
  obtain ⟨hb, hd, n, m, hm, h0, hn, e1, e2⟩ := h
  have k := on_half hm hb e1 h1 h2
  have l := on_half hm hd e2 h3 h4
  exact ⟨n, m, hm, h0, hn, k.1, k.2, l.1, l.2⟩
theorem On.spot {x1 y1 x2 y2 a c : Int} (h : On x1 y1 x2 y2 a 1 c 1) : Thr x1 y1 x2 y2 a c := h.thr (by omega) (by omega) (by omega) (by omega)
/-- the place where lines cross, at a time between -/
theorem on_low {x1 y1 x2 y2 l0 l1 : Int} (hw : l0 - l1 ≠ 0) (hl : ¬ l0 * l1 > 0) : On x1 y1 x2 y2 (lowA (x1 * (l0 - l1) + (x2 - x1) * l0) (l0 - l1)) (lowB (x1 * (l0 - l1) + (x2 - x1) * l0) (l0 - l1)) (lowA (y1 * (l0 - l1) + (y2 - y1) * l0) (l0 - l1)) (lowB (y1 * (l0 - l1) + (y2 - y1) * l0) (l0 - l1)) := by
  have f1 := low_frac (a := x1 * (l0 - l1) + (x2 - x1) * l0) hw
  have f2 := low_frac (a := y1 * (l0 - l1) + (y2 - y1) * l0) hw
  refine ⟨f1.1, f2.1, ?_⟩
  rcases Int.lt_or_lt_of_ne hw with z | z
  · refine ⟨-l0, -(l0 - l1), by omega, ?_, ?_, ?_, ?_⟩
    · rcases Int.lt_or_le 0 l0 with y | y
      · have := Int.mul_pos y (show 0 < l1 by omega)
        omega
      · omega
    · rcases Int.lt_or_le l1 0 with y | y
      · have := Int.mul_pos_of_neg_of_neg (show l0 < 0 by omega) y
        omega
      · omega
    · rw [Int.mul_neg, Int.mul_neg, Int.mul_neg, f1.2, ← Int.neg_mul]
      congr 1
      omega
    · rw [Int.mul_neg, Int.mul_neg, Int.mul_neg, f2.2, ← Int.neg_mul]
      congr 1
      omega
  · refine ⟨l0, l0 - l1, by omega, ?_, ?_, f1.2, f2.2⟩
    · rcases Int.lt_or_le l0 0 with y | y
      · have := Int.mul_pos_of_neg_of_neg y (show l1 < 0 by omega)
        omega
      · exact y
    · rcases Int.lt_or_le 0 l1 with y | y
      · have := Int.mul_pos (show 0 < l0 by omega) y
        omega
      · omega
/-- a whole point on the line, between the ends in the order of pairs -/
def LeP (p q : Int × Int) : Prop := p = q ∨ ltP p.1 p.2 q.1 q.2
theorem on_line {x1 y1 x2 y2 a c : Int} (hne : ¬ (x1 = x2 ∧ y1 = y2)) (h0 : crs x1 y1 x2 y2 a c = 0) (h1 : (x1 ≤ a ∧ a ≤ x2) ∨ (x2 ≤ a ∧ a ≤ x1)) (h2 : (y1 ≤ c ∧ c ≤ y2) ∨ (y2 ≤ c ∧ c ≤ y1)) : On x1 y1 x2 y2 a 1 c 1 := by
  refine ⟨by decide, by decide, ?_⟩
  unfold crs at h0
  rcases Int.lt_trichotomy x1 x2 with z | z | z
  · refine ⟨a - x1, x2 - x1, by omega, by omega, by omega, ?_, ?_⟩
    · rw [Int.mul_one, Int.mul_comm x1, ← Int.mul_add, Int.mul_comm]
      congr 1
      omega
    · rw [Int.mul_one, show (y2 - y1) * (a - x1) = (x2 - x1) * (c - y1) by omega, Int.mul_comm y1, ← Int.mul_add, Int.mul_comm]
      congr 1
      omega
  · subst z
    have e : a = x1 := by omega
    subst e
    rcases Int.lt_trichotomy y1 y2 with y | y | y
    · refine ⟨c - y1, y2 - y1, by omega, by omega, by omega, ?_, ?_⟩
      · rw [Int.sub_self, Int.zero_mul, Int.add_zero, Int.mul_one]
      · rw [Int.mul_one, Int.mul_comm y1, ← Int.mul_add, Int.mul_comm]
        congr 1
        omega
    · exact absurd ⟨rfl, y⟩ hne
    · refine ⟨y1 - c, y1 - y2, by omega, by omega, by omega, ?_, ?_⟩
      · rw [Int.sub_self, Int.zero_mul, Int.add_zero, Int.mul_one]
      · rw [Int.mul_one, show (y2 - y1) * (y1 - c) = (y1 - y2) * (c - y1) by rw [← Int.neg_mul_neg]; congr 1 <;> omega, Int.mul_comm y1, ← Int.mul_add, Int.mul_comm]
        congr 1
        omega
  · refine ⟨x1 - a, x1 - x2, by omega, by omega, by omega, ?_, ?_⟩
    · rw [Int.mul_one, show (x2 - x1) * (x1 - a) = (x1 - x2) * (a - x1) by rw [← Int.neg_mul_neg]; congr 1 <;> omega, Int.mul_comm x1, ← Int.mul_add, Int.mul_comm]
      congr 1
      omega
    · rw [Int.mul_one, show (y2 - y1) * (x1 - a) = (x1 - x2) * (c - y1) by
        have e1 : (y2 - y1) * (x1 - a) = - ((y2 - y1) * (a - x1)) := by rw [← Int.mul_neg]; congr 1; omega
        have e2 : (x1 - x2) * (c - y1) = - ((x2 - x1) * (c - y1)) := by rw [← Int.neg_mul]; congr 1; omega
        omega, Int.mul_comm y1, ← Int.mul_add, Int.mul_comm]
      congr 1
      omega
theorem minP_le (p q : Int × Int) : LeP (minP p q) p ∧ LeP (minP p q) q := by
  unfold minP LeP
  split
  · rename_i h
    exact ⟨.inr h, .inl rfl⟩
  · rename_i h
    refine ⟨.inl rfl, ?_⟩
    by_cases c : p = q
    · exact .inl c
    · right
      unfold ltP at *
      have := pair_ne c
      omega
theorem le_maxP (p q : Int × Int) : LeP p (maxP p q) ∧ LeP q (maxP p q) := by
  unfold maxP LeP
  split
  · rename_i h
    exact ⟨.inr h, .inl rfl⟩
  · rename_i h
    refine ⟨.inl rfl, ?_⟩
    by_cases c : q = p
    · exact .inl c
    · right
      unfold ltP at *
      have := pair_ne c
      omega
theorem LeP.num {p q : Int × Int} (h : LeP p q) : p.1 < q.1 ∨ (p.1 = q.1 ∧ p.2 ≤ q.2) := by
  rcases h with h | h
  · subst h; exact .inr ⟨rfl, Int.le_refl _⟩
  · unfold ltP at h; omega
theorem LeP.trans {p q r : Int × Int} (h : LeP p q) (h' : LeP q r) : LeP p r := by
  have a := h.num
  have b := h'.num
  by_cases c : p = r
  · exact .inl c
  · right
    have := pair_ne c
    unfold ltP
    omega
/-- between the ends in the order of pairs, on the line: between in both parts -/
theorem line_between {x1 y1 x2 y2 a c : Int} (hne : ¬ (x1 = x2 ∧ y1 = y2)) (h0 : crs x1 y1 x2 y2 a c = 0) (h1 : LeP (minP (x1, y1) (x2, y2)) (a, c)) (h2 : LeP (a, c) (maxP (x1, y1) (x2, y2))) : On x1 y1 x2 y2 a 1 c 1 := by
  have hx : (x1 ≤ a ∧ a ≤ x2) ∨ (x2 ≤ a ∧ a ≤ x1) := by
    have k1 := h1.num
    have k2 := h2.num
    unfold minP at k1
    unfold maxP at k2
    dsimp only at k1 k2
    by_cases c1 : ltP x1 y1 x2 y2
    · have c2 : ¬ ltP x2 y2 x1 y1 := by unfold ltP at *; omega
      rw [if_neg c2] at k1
      rw [if_pos c1] at k2
      dsimp only at k1 k2
      unfold ltP at c1
      omega
    · rw [if_neg c1] at k2
      have c2 : ltP x2 y2 x1 y1 := by unfold ltP at *; omega
      rw [if_pos c2] at k1
      dsimp only at k1 k2
      unfold ltP at c2
      omega
  have hy : (y1 ≤ c ∧ c ≤ y2) ∨ (y2 ≤ c ∧ c ≤ y1) := by
    by_cases ex : x1 = x2
    · have k1 := h1.num
      have k2 := h2.num
      unfold minP at k1
      unfold maxP at k2
      dsimp only at k1 k2
      by_cases c1 : ltP x1 y1 x2 y2
      · have c2 : ¬ ltP x2 y2 x1 y1 := by unfold ltP at *; omega
        rw [if_neg c2] at k1
        rw [if_pos c1] at k2
        dsimp only at k1 k2
        unfold ltP at c1
        omega
      · rw [if_neg c1] at k2
        have c2 : ltP x2 y2 x1 y1 := by unfold ltP at *; omega
        rw [if_pos c2] at k1
        dsimp only at k1 k2
        unfold ltP at c2
        omega
    · unfold crs at h0
      have e : (x2 - x1) * (c - y1) = (y2 - y1) * (a - x1) := by omega
      have key : ∀ u v s t : Int, u ≠ 0 → u * t = v * s → ((0 ≤ s ∧ s ≤ u) ∨ (u ≤ s ∧ s ≤ 0)) → (0 ≤ t ∧ t ≤ v) ∨ (v ≤ t ∧ t ≤ 0) := fun u v s t hu e h => by
        rcases h with ⟨h1, h2⟩ | ⟨h1, h2⟩
        · rcases Int.le_total 0 v with z | z
          · left
            have a1 := Int.mul_nonneg z h1
            have a2 := Int.mul_le_mul_of_nonneg_left h2 z
            rw [Int.mul_comm v u] at a2
            exact ⟨Int.le_of_mul_le_mul_left (by rw [Int.mul_zero]; omega) (show 0 < u by omega), Int.le_of_mul_le_mul_left (a := u) (by omega) (by omega)⟩
          · right
            have a1 := Int.mul_nonneg (show 0 ≤ -v by omega) h1
            have a2 := Int.mul_le_mul_of_nonneg_left h2 (show 0 ≤ -v by omega)
            rw [Int.neg_mul, Int.neg_mul, Int.mul_comm v u] at a2
            rw [Int.neg_mul] at a1
            exact ⟨Int.le_of_mul_le_mul_left (a := u) (by omega) (by omega), Int.le_of_mul_le_mul_left (a := u) (by rw [Int.mul_zero]; omega) (by omega)⟩
        · rcases Int.le_total 0 v with z | z
          · left
            have a1 := Int.mul_nonneg z (show 0 ≤ -s by omega)
            have a2 := Int.mul_le_mul_of_nonneg_left h1 z
            rw [Int.mul_comm v u] at a2
            rw [Int.mul_neg] at a1
            have f1 : (-u) * t = -(u * t) := Int.neg_mul ..
            have f2 : (-u) * v = -(u * v) := Int.neg_mul ..
            exact ⟨Int.le_of_mul_le_mul_left (a := -u) (by rw [Int.mul_zero]; omega) (by omega), Int.le_of_mul_le_mul_left (a := -u) (by omega) (by omega)⟩
          · right
            have a1 := Int.mul_nonneg (show 0 ≤ -v by omega) (show 0 ≤ -s by omega)
            have a2 := Int.mul_le_mul_of_nonneg_left h1 (show 0 ≤ -v by omega)
            rw [Int.neg_mul, Int.neg_mul, Int.mul_comm v u] at a2
            rw [Int.neg_mul_neg] at a1
            have f1 : (-u) * t = -(u * t) := Int.neg_mul ..
            have f2 : (-u) * v = -(u * v) := Int.neg_mul ..
            exact ⟨Int.le_of_mul_le_mul_left (a := -u) (by omega) (by omega), Int.le_of_mul_le_mul_left (a := -u) (by rw [Int.mul_zero]; omega) (by omega)⟩
      have := key (x2 - x1) (y2 - y1) (a - x1) (c - y1) (by omega) e (by omega)
      omega
  exact on_line hne h0 hx hy
/-- all that is told of a meeting lies on both -/
def MetOn (x1 y1 x2 y2 : Int) : Met → Prop
  | .no => True
  | .pt a b c d => On x1 y1 x2 y2 a b c d
  | .along p1 p2 q1 q2 => On x1 y1 x2 y2 p1 1 p2 1 ∧ On x1 y1 x2 y2 q1 1 q2 1
theorem crs_end1 (x1 y1 x2 y2 : Int) : crs x1 y1 x2 y2 x1 y1 = 0 := by unfold crs; rw [Int.sub_self, Int.sub_self, Int.mul_zero, Int.mul_zero]; rfl
theorem crs_end2 (x1 y1 x2 y2 : Int) : crs x1 y1 x2 y2 x2 y2 = 0 := by unfold crs; rw [Int.mul_comm]; exact Int.sub_self _
theorem min_crs {x1 y1 x2 y2 : Int} {p q : Int × Int} (h : crs x1 y1 x2 y2 p.1 p.2 = 0) (h' : crs x1 y1 x2 y2 q.1 q.2 = 0) : crs x1 y1 x2 y2 (minP p q).1 (minP p q).2 = 0 := by unfold minP; split <;> assumption
theorem max_crs {x1 y1 x2 y2 : Int} {p q : Int × Int} (h : crs x1 y1 x2 y2 p.1 p.2 = 0) (h' : crs x1 y1 x2 y2 q.1 q.2 = 0) : crs x1 y1 x2 y2 (maxP p q).1 (maxP p q).2 = 0 := by unfold maxP; split <;> assumption
theorem meet_on {x1 y1 x2 y2 u1 v1 u2 v2 : Int} (hne : ¬ (x1 = x2 ∧ y1 = y2)) (hne' : ¬ (u1 = u2 ∧ v1 = v2)) : MetOn u1 v1 u2 v2 (meetL x1 y1 x2 y2 u1 v1 u2 v2) := by
  unfold meetL
  dsimp only
  by_cases c : crs x1 y1 x2 y2 u1 v1 = 0 ∧ crs x1 y1 x2 y2 u2 v2 = 0
  · rw [if_pos c]
    have c' := line_swap hne c.1 c.2
    have e1 := crs_end1 u1 v1 u2 v2
    have e2 := crs_end2 u1 v1 u2 v2
    have clo := max_crs (min_crs (p := (x1, y1)) (q := (x2, y2)) c'.1 c'.2) (min_crs (p := (u1, v1)) (q := (u2, v2)) e1 e2)
    have chi := min_crs (max_crs (p := (x1, y1)) (q := (x2, y2)) c'.1 c'.2) (max_crs (p := (u1, v1)) (q := (u2, v2)) e1 e2)
    have l1 := (le_maxP (minP (x1, y1) (x2, y2)) (minP (u1, v1) (u2, v2))).2
    have l2 := (minP_le (maxP (x1, y1) (x2, y2)) (maxP (u1, v1) (u2, v2))).2
    generalize maxP (minP (x1, y1) (x2, y2)) (minP (u1, v1) (u2, v2)) = lo at *
    generalize minP (maxP (x1, y1) (x2, y2)) (maxP (u1, v1) (u2, v2)) = hi at *
    obtain ⟨a, b⟩ := lo
    obtain ⟨d, e⟩ := hi
    dsimp only at *
    by_cases f : ltP a b d e
    · rw [if_pos f]
      have g : LeP (a, b) (d, e) := .inr f
      exact ⟨line_between hne' clo l1 (g.trans l2), line_between hne' chi (l1.trans g) l2⟩
    · rw [if_neg f]
      by_cases k : a = d ∧ b = e
      · rw [if_pos k]
        obtain ⟨rfl, rfl⟩ := k
        exact line_between hne' clo l1 l2
      · rw [if_neg k]
        trivial
  · rw [if_neg c]
    by_cases d : crs x1 y1 x2 y2 u1 v1 * crs x1 y1 x2 y2 u2 v2 > 0 ∨ crs u1 v1 u2 v2 x1 y1 * crs u1 v1 u2 v2 x2 y2 > 0
    · rw [if_pos d]
      trivial
    · rw [if_neg d]
      exact on_low (w_ne c (fun z => d (.inl z))) (fun z => d (.inl z))
theorem meet_both {x1 y1 x2 y2 u1 v1 u2 v2 : Int} (hne : ¬ (x1 = x2 ∧ y1 = y2)) (hne' : ¬ (u1 = u2 ∧ v1 = v2)) : MetOn x1 y1 x2 y2 (meetL x1 y1 x2 y2 u1 v1 u2 v2) ∧ MetOn u1 v1 u2 v2 (meetL x1 y1 x2 y2 u1 v1 u2 v2) := by
  refine ⟨?_, meet_on hne hne'⟩
  have k := meet_on hne' hne
  rw [meet_swap hne hne'] at k
  exact k
end DM

namespace DM
open PySem L2
def Part (x y : Int) : Prop := -1000000000 ≤ x ∧ x ≤ 1000000000 ∧ 0 < y ∧ y ≤ 1000000000
theorem mul_bd {b d : Int} (h1 : 0 < b) (h2 : b ≤ 1000000000) (h3 : 0 < d) (h4 : d ≤ 1000000000) : 0 < b * d ∧ b * d ≤ 1000000000 * 1000000000 :=
  ⟨Int.mul_pos h1 h3, Int.mul_le_mul h2 h4 (by omega) (by decide)⟩
theorem mul_ne {b d : Int} (h1 : 0 < b) (h2 : b ≤ 1000000000) (h3 : 0 < d) (h4 : d ≤ 1000000000) : b * d ≠ 0 ∧ (b * d).natAbs < 4611686018427387904 := by
  have := mul_bd h1 h2 h3 h4
  omega
theorem low_part {a b : Int} (h1 : -1000000000 < a) (h2 : a < 1000000000) (h3 : 0 < b) (h4 : b ≤ 1000000000) : Part (lowA a b) (lowB a b) := by
  have hg := gcd_pos (a := a) (b := b) (by omega)
  have c : ¬ b < 0 := by omega
  unfold lowA lowB Part
  rw [if_neg c, if_neg c]
  have hd : ((Int.gcd a b : Nat) : Int) ∣ b := Int.gcd_dvd_right ..
  have e1 := Int.ediv_mul_cancel hd
  generalize ((Int.gcd a b : Nat) : Int) = g at *
  refine ⟨?_, ?_, ?_, ?_⟩
  · refine (Int.le_ediv_iff_mul_le hg).mpr ?_
    have : g ≥ 1 := by omega
    have := Int.mul_le_mul_of_nonneg_left this (by decide : (0 : Int) ≤ 1000000000)
    omega
  · refine Int.le_of_lt_add_one ((Int.ediv_lt_iff_lt_mul hg).mpr ?_)
    have : g ≥ 1 := by omega
    have := Int.mul_le_mul_of_nonneg_left this (by decide : (0 : Int) ≤ 1000000000 + 1)
    omega
  · rcases Int.lt_trichotomy (b / g) 0 with z | z | z
    · have := Int.mul_neg_of_neg_of_pos z hg
      omega
    · rw [z] at e1
      omega
    · exact z
  · refine Int.le_of_lt_add_one ((Int.ediv_lt_iff_lt_mul hg).mpr ?_)
    have : g ≥ 1 := by omega
    have := Int.mul_le_mul_of_nonneg_left this (by decide : (0 : Int) ≤ 1000000000 + 1)
    omega
theorem low_sign {n b : Int} (hb : 0 < b) : (lowA n b < 0 ↔ n < 0) ∧ (0 < lowA n b ↔ 0 < n) := by
  have hg := gcd_pos (a := n) (b := b) (by omega)
  have c : ¬ b < 0 := by omega
  unfold lowA
  rw [if_neg c]
  have hd : ((Int.gcd n b : Nat) : Int) ∣ n := Int.gcd_dvd_left ..
  have e1 := Int.ediv_mul_cancel hd
  generalize ((Int.gcd n b : Nat) : Int) = g at *
  rcases Int.lt_trichotomy (n / g) 0 with z | z | z
  · have := Int.mul_neg_of_neg_of_pos z hg
    omega
  · rw [z] at e1
    omega
  · have := Int.mul_pos z hg
    omega
def spPart : Sp := fun vs H Q _ => ∃ (b l : Addr), vs = [.ref b] ∧ BagAt H b l ∧ ∀ (p : Addr) (H' : Hp) (x y : Int), BagAt H' b l → But b H H' → H' p = some (.tup [.int x, .int y]) → Part x y → Q (.ref p) H'
section
variable {P : Program} {w : World} {K : PySem.W.Frag} {mg : Str → Option Value} {base : Heap} {f : Addr} {fd : FuncData}
end
end DM

namespace DM
open PySem L2
def nearI (a b : Int) : Int := (2 * a + b) / (2 * b)
theorem near_ok {a b : Int} (hb : 0 < b) : (2 * nearI a b - 1) * b ≤ 2 * a ∧ 2 * a < (2 * nearI a b + 1) * b := by
  unfold nearI
  have h1 := Int.mul_ediv_self_le (x := 2 * a + b) (k := 2 * b) (by omega)
  have h2 := Int.lt_mul_ediv_self_add (x := 2 * a + b) (k := 2 * b) (by omega)
  generalize (2 * a + b) / (2 * b) = n at *
  have e : 2 * b * n = 2 * (n * b) := by rw [Int.mul_assoc, Int.mul_comm b n]
  have e1 : (2 * n - 1) * b = 2 * (n * b) - b := by rw [Int.sub_mul, Int.mul_assoc, Int.one_mul]
  have e2 : (2 * n + 1) * b = 2 * (n * b) + b := by rw [Int.add_mul, Int.mul_assoc, Int.one_mul]
  rw [e] at h1 h2
  rw [e1, e2]
  omega
def spNear : Sp := fun vs H Q _ => ∃ (p : Addr) (a b : Int), vs = [.ref p] ∧ H p = some (.tup [.int a, .int b]) ∧ Part a b ∧ Q (.int (nearI a b)) H
section
variable {P : Program} {w : World} {K : PySem.W.Frag} {mg : Str → Option Value} {base : Heap} {f : Addr} {fd : FuncData}
abbrev s_nearest : Stmt := top 6
theorem sc_nearest : FnScope ["one"] ["one"] (defScope s_nearest) := ⟨rfl, rfl, rfl, by decide +kernel, rfl, by decide +kernel, by decide +kernel⟩
theorem ok_nearest (F : Fun K "nearest" "nearest" s_nearest f fd) : FnOk P w K mg base CX0 1 f fd ["one"] spNear := by
  refine F.ok sc_nearest (fun vs H Q E h => ?_) (fun cdv A outer s H vs Q E hr h => ?_)
  · obtain ⟨p, a, b, rfl, _⟩ := h
    rfl
  obtain ⟨p, a, b, rfl, hp, k, q⟩ := h
  refine ⟨_, (pss_one (ps_ret (pe_op op_fdivW (pe_op op_add (pe_op op_mul pe_int (pe_ix ix_tup (pv 0) pe_int (fun _ _ => rfl))) (pe_ix ix_tup (pv 0) pe_int (fun _ _ => rfl))) (pe_op op_mul pe_int (pe_ix ix_tup (pv 0) pe_int (fun _ _ => rfl)))))), ?_⟩
  unfold Part at k
  refine ⟨_, rfl, p, _, _, _, rfl, rfl, SqT.of hp, rfl, _, _, rfl, rfl, .inl ⟨by decide, by decide⟩, _, rfl, p, _, _, _, rfl, rfl, SqT.of hp, rfl, _, _, rfl, rfl, ?_⟩
  refine ⟨_, rfl, p, _, _, _, rfl, rfl, SqT.of hp, rfl, _, _, rfl, rfl, .inl ⟨by decide, by decide⟩, _, _, rfl, rfl, wide_div (b := 62) (by omega) (by omega) (by decide) (by decide), ?_⟩
  exact q
end
end DM

namespace DM
open PySem L2
def spSquare : Sp := fun vs H Q _ => ∃ (p px py : Addr) (a b c d : Int), vs = [.ref p] ∧ H p = some (.tup [.ref px, .ref py]) ∧ H px = some (.tup [.int a, .int b]) ∧ H py = some (.tup [.int c, .int d]) ∧ Part a b ∧ Part c d ∧
  ∀ (r : Addr) (H' : Hp), Same H H' → H' r = some (.tup [.int (nearI a b), .int (nearI c d)]) → Q (.ref r) H'
section
variable {P : Program} {w : World} {K : PySem.W.Frag} {mg : Str → Option Value} {base : Heap} {f : Addr} {fd : FuncData}
abbrev s_square_of : Stmt := top 17
theorem sc_square_of : FnScope ["place", "x", "y"] ["place"] (defScope s_square_of) := ⟨rfl, rfl, rfl, by decide +kernel, rfl, by decide +kernel, by decide +kernel⟩
theorem ok_square_of (c_nearest : Cal P w K mg base 1 "nearest" ["one"] spNear) (F : Fun K "square_of" "square_of" s_square_of f fd) : FnOk P w K mg base CX0 2 f fd ["place"] spSquare := by
  refine F.ok sc_square_of (fun vs H Q E h => ?_) (fun cdv A outer s H vs Q E hr h => ?_)
  · obtain ⟨p, px, py, a, b, c, d, rfl, _⟩ := h
    rfl
  obtain ⟨p, px, py, a, b, c, d, rfl, hp, hx, hy, k1, k2, q⟩ := h
  refine ⟨_, (pss_cons (ps_asg (pv 0) (pg_tup rfl (pgs_cons (pg_name (i := 1) sc_square_of.nd rfl (Or.inl rfl)) (pgs_cons (pg_name (i := 2) sc_square_of.nd rfl (Or.inl rfl)) pgs_nil))))
    (pss_one (ps_ret (pe_tup (pa_cons (pe_cal c_nearest hr (pa_cons (pv 1) pa_nil)) (pa_cons (pe_cal c_nearest hr (pa_cons (pv 2) pa_nil)) pa_nil)))))), ?_⟩
  refine ⟨_, rfl, p, _, rfl, SqT.of hp, rfl, _, _, rfl, _, _, rfl, rfl, ?_⟩
  refine ⟨_, rfl, px, a, b, rfl, hx, k1, ?_⟩
  refine ⟨_, rfl, py, c, d, rfl, hy, k2, ?_⟩
  exact ⟨sz (by decide : 2 ≤ 100000), fun r hr' => q r _ (same_new hr' _) upd_same⟩
end
end DM

namespace DM
/-! ### a meeting's numbers stay small -/
theorem mul_abs_le {a b m n : Int} (h1 : -m ≤ a) (h2 : a ≤ m) (h3 : -n ≤ b) (h4 : b ≤ n) : -(m * n) ≤ a * b ∧ a * b ≤ m * n := by
  have e1 := Int.mul_nonneg (show 0 ≤ m - a by omega) (show 0 ≤ n + b by omega)
  have e2 := Int.mul_nonneg (show 0 ≤ m + a by omega) (show 0 ≤ n - b by omega)
  have e3 := Int.mul_nonneg (show 0 ≤ m - a by omega) (show 0 ≤ n - b by omega)
  have e4 := Int.mul_nonneg (show 0 ≤ m + a by omega) (show 0 ≤ n + b by omega)
  simp only [Int.sub_mul, Int.mul_sub, Int.add_mul, Int.mul_add] at *
  omega
theorem minP_or (p q : Int × Int) : minP p q = p ∨ minP p q = q := by
  unfold minP
  split
  · exact .inr rfl
  · exact .inl rfl
theorem maxP_or (p q : Int × Int) : maxP p q = p ∨ maxP p q = q := by
  unfold maxP
  split
  · exact .inr rfl
  · exact .inl rfl
theorem num_small {x1 x2 A O : Int} (h1 : -40 ≤ x1 ∧ x1 ≤ 40) (h2 : -40 ≤ x2 ∧ x2 ≤ 40) (hA : 0 < A ∧ A ≤ 25600) (hO : 0 ≤ O ∧ O ≤ A) : -1000000000 < x1 * A + O * (x2 - x1) ∧ x1 * A + O * (x2 - x1) < 1000000000 := by
  have a := mul_abs_le (a := x1) (b := A) (m := 40) (n := 25600) (by omega) (by omega) (by omega) (by omega)
  have b := mul_abs_le (a := O) (b := x2 - x1) (m := 25600) (n := 80) (by omega) (by omega) (by omega) (by omega)
  omega
theorem met_part {x1 y1 x2 y2 u1 v1 u2 v2 : Int} (bs : -40 ≤ x1 ∧ x1 ≤ 40 ∧ -40 ≤ y1 ∧ y1 ≤ 40 ∧ -40 ≤ x2 ∧ x2 ≤ 40 ∧ -40 ≤ y2 ∧ y2 ≤ 40) (bt : -40 ≤ u1 ∧ u1 ≤ 40 ∧ -40 ≤ v1 ∧ v1 ≤ 40 ∧ -40 ≤ u2 ∧ u2 ≤ 40 ∧ -40 ≤ v2 ∧ v2 ≤ 40) {a b c d : Int} (h : meetL x1 y1 x2 y2 u1 v1 u2 v2 = .pt a b c d) : Part a b ∧ Part c d := by
  have k1 := crs_small (x1 := u1) (y1 := v1) (x2 := u2) (y2 := v2) (x3 := x1) (y3 := y1) (by omega) (by omega) (by omega)
  have k2 := crs_small (x1 := u1) (y1 := v1) (x2 := u2) (y2 := v2) (x3 := x2) (y3 := y2) (by omega) (by omega) (by omega)
  by_cases c0 : (x2 - x1) * (v2 - v1) - (y2 - y1) * (u2 - u1) = 0
  · by_cases c1 : (u1 - x1) * (y2 - y1) = (v1 - y1) * (x2 - x1)
    · rw [mp_line c0 c1] at h
      have hb : ∀ p : Int × Int, (p = (x1, y1) ∨ p = (x2, y2) ∨ p = (u1, v1) ∨ p = (u2, v2)) → -40 ≤ p.1 ∧ p.1 ≤ 40 ∧ -40 ≤ p.2 ∧ p.2 ≤ 40 := by
        rintro p (rfl | rfl | rfl | rfl) <;> dsimp only <;> omega
      have hl : -40 ≤ (maxP (minP (x1, y1) (x2, y2)) (minP (u1, v1) (u2, v2))).1 ∧ (maxP (minP (x1, y1) (x2, y2)) (minP (u1, v1) (u2, v2))).1 ≤ 40 ∧ -40 ≤ (maxP (minP (x1, y1) (x2, y2)) (minP (u1, v1) (u2, v2))).2 ∧ (maxP (minP (x1, y1) (x2, y2)) (minP (u1, v1) (u2, v2))).2 ≤ 40 := by
        apply hb
        rcases maxP_or (minP (x1, y1) (x2, y2)) (minP (u1, v1) (u2, v2)) with e | e <;> rw [e]
        · rcases minP_or (x1, y1) (x2, y2) with e | e <;> rw [e]
          · exact .inl rfl
          · exact .inr (.inl rfl)
        · rcases minP_or (u1, v1) (u2, v2) with e | e <;> rw [e]
          · exact .inr (.inr (.inl rfl))
          · exact .inr (.inr (.inr rfl))
      generalize maxP (minP (x1, y1) (x2, y2)) (minP (u1, v1) (u2, v2)) = lo at *
      split at h
      · cases h
      · split at h
        · cases h
          unfold Part
          omega
        · cases h
    · rw [mp_apart c0 c1] at h
      cases h
  · rw [mp_area] at c0
    have z3 := mp_other x1 y1 x2 y2 u1 v1
    obtain ⟨A, O, T, hA, hA', hc⟩ : ∃ A O T : Int, 0 < A ∧ A ≤ 25600 ∧ ((A = crs u1 v1 u2 v2 x1 y1 - crs u1 v1 u2 v2 x2 y2 ∧ O = crs u1 v1 u2 v2 x1 y1 ∧ T = - crs x1 y1 x2 y2 u1 v1) ∨ (A = -(crs u1 v1 u2 v2 x1 y1 - crs u1 v1 u2 v2 x2 y2) ∧ O = -crs u1 v1 u2 v2 x1 y1 ∧ T = crs x1 y1 x2 y2 u1 v1)) := by
      rcases Int.lt_or_lt_of_ne c0 with z | z
      · exact ⟨_, _, _, by omega, by omega, .inr ⟨rfl, rfl, rfl⟩⟩
      · exact ⟨_, _, _, z, by omega, .inl ⟨rfl, rfl, rfl⟩⟩
    rw [mp_cross hA hc] at h
    split at h
    · rename_i k
      cases h
      have n1 := num_small (x1 := x1) (x2 := x2) (A := A) (O := O) (by omega) (by omega) (by omega) (by omega)
      have n2 := num_small (x1 := y1) (x2 := y2) (A := A) (O := O) (by omega) (by omega) (by omega) (by omega)
      exact ⟨low_part n1.1 n1.2 hA (by omega), low_part n2.1 n2.2 hA (by omega)⟩
    · cases h
end DM

namespace DM
open PySem L2
section
variable {P : Program} {w : World} {K : PySem.W.Frag} {mg : Str → Option Value} {base : Heap} {f : Addr} {fd : FuncData}
theorem any_both {L1 L2 : List (Int × Int)} {p : Int × Int} (h1 : p ∈ L1) (h2 : p ∈ L2) : (L2.map fun q => decide (q ∈ L1)).any id = true := by
  rw [List.any_eq_true]
  exact ⟨true, List.mem_map.mpr ⟨p, h2, decide_eq_true h1⟩, rfl⟩
abbrev s_law : Stmt := top 29
theorem sc_law : FnScope ["_law_script", "_law_bag_here", "_law_turn", "_law_base_here", "_law_wide", "_law_one", "_law_other", "_law_told", "_law_lists", "_law_spots", "_law_spot_here"] ["_law_script"] (defScope s_law) := ⟨rfl, rfl, rfl, by decide +kernel, rfl, by decide +kernel, by decide +kernel⟩
theorem ok_law (B : Blt mg) (c_bag : Cal P w K mg base 1 "_law_bag" ["_law_script"] (spBag K)) (c_of : Cal P w K mg base 2 "_law_of" ["_law_bag_here", "_law_things"] spOf) (c_base : Cal P w K mg base 3 "_law_base" ["_law_bag_here"] spBase) (c_stroke : Cal P w K mg base 3 "_law_stroke" ["_law_bag_here", "_law_base_here", "_law_wide"] spStroke) (c_beside : Cal P w K mg base 4 "_law_beside" ["_law_bag_here", "_law_base_here", "_law_wide", "_law_some"] spBeside)
    (c_p_meet : Cal P w K mg base 4 "meet" ["one", "other"] spMeet) (c_squares : Cal P w K mg base 5 "squares" ["stroke"] spSquares) (c_square_of : Cal P w K mg base 2 "square_of" ["place"] spSquare) (c_p_goes : Cal P w K mg base 3 "goes" ["stroke", "spot"] spGoes) (F : Fun K "law" "law" s_law f fd) : FnOk P w K mg base CX0 6 f fd ["_law_script"] (spLaw K) := by
  refine F.ok sc_law (fun vs H Q E h => ?_) (fun cdv A outer s H vs Q E hr h => ?_)
  · obtain ⟨a, ns, rfl, _⟩ := h
    rfl
  obtain ⟨a, ns, rfl, hS, h63, q⟩ := h
  refine ⟨_, (pss_cons (ps_set (i := 1) sc_law.nd rfl (Or.inl rfl) (pe_cal c_bag hr (pa_cons (pv 0) pa_nil)))
    (pss_cons (ps_for PassesOwn.never rfl (pi_range1 rfl B.range (pa_cons pe_int pa_nil)) (pg_name (i := 2) sc_law.nd rfl (Or.inl rfl))
    (pss_cons (ps_par (i := 3) (j := 4) (by rfl) sc_law.nd rfl rfl (by decide) rfl rfl (pa_cons (pe_cal c_base hr (pa_cons (pv 1) pa_nil)) (pa_cons (pe_cal c_of hr (pa_cons (pv 1) (pa_cons (pe_lst (pa_cons pe_int (pa_cons pe_int (pa_cons pe_int (pa_cons pe_int pa_nil))))) pa_nil))) pa_nil)) (by rfl))
    (pss_cons (ps_set (i := 5) sc_law.nd rfl (Or.inl rfl) (pe_cal c_stroke hr (pa_cons (pv 1) (pa_cons (pv 3) (pa_cons (pv 4) pa_nil)))))
    (pss_cons (ps_set (i := 6) sc_law.nd rfl (Or.inl rfl) (pe_cal c_beside hr (pa_cons (pv 1) (pa_cons (pv 3) (pa_cons (pv 4) (pa_cons (pe_lst (pa_cons (pv 5) pa_nil)) pa_nil))))))
    (pss_cons (ps_set (i := 7) sc_law.nd rfl (Or.inl rfl) (pe_cal c_p_meet hr (pa_cons (pv 5) (pa_cons (pv 6) pa_nil))))
    (pss_cons (ps_set (i := 8) sc_law.nd rfl (Or.inr rfl) (pe_lst (pa_cons (pe_cal c_squares hr (pa_cons (pv 5) pa_nil)) (pa_cons (pe_cal c_squares hr (pa_cons (pv 6) pa_nil)) pa_nil))))
    (pss_cons (ps_if (pt_cmpR op_isN (pv 7) pe_non (nomark _))
    (pss_one ps_continue)
    pss_nil)
    (pss_cons (ps_set (i := 9) sc_law.nd rfl (Or.inl rfl) (pe_ifExp (pt_cmpR op_eq (pe_ix ix_tup (pv 7) pe_int (fun _ _ => rfl)) pe_str (nomark _)) (pe_lst (pa_cons (pe_cal c_square_of hr (pa_cons (pe_ix ix_tup (pv 7) pe_int (fun _ _ => rfl)) pa_nil)) pa_nil)) (pe_lst (pa_cons (pe_ix ix_tup (pv 7) pe_int (fun _ _ => rfl)) (pa_cons (pe_ix ix_tup (pv 7) pe_int (fun _ _ => rfl)) pa_nil)))))
    (pss_cons (ps_for PassesOwn.never rfl (pi_list (pv 9)) (pg_name (i := 10) sc_law.nd rfl (Or.inl rfl))
    (pss_one (ps_if (PW.pt (pw_or (pt_not (pt_val (pe_cal c_p_goes hr (pa_cons (pv 5) (pa_cons (pv 10) pa_nil))))) (pw_or (pt_not (pt_val (pe_cal c_p_goes hr (pa_cons (pv 6) (pa_cons (pv 10) pa_nil))))) (pw_or (pt_cmpR (op_notInD (u65 hr)) (pv 10) (pe_ix ix_list (pv 8) pe_int (fun _ _ => rfl)) rfl) (pw_or1 (pt_cmpR (op_notInD (u65 hr)) (pv 10) (pe_ix ix_list (pv 8) pe_int (fun _ _ => rfl)) rfl))))))
    (pss_one (ps_ret pe_bl))
    pss_nil)))
    (pss_one (ps_if (pt_not (pt_val (pe_callB (cr_any rfl) rfl B.any bt_any (pa_cons (pe_lc (own := [("_law_spot_here", 10)]) (g := gName 10) (tt := tYes) rfl sc_law.nd (pi_list (pe_ix ix_list (pv 8) pe_int (fun _ _ => rfl))) (blkOk_by (own := [("_law_spot_here", 10)]) (N := ["_law_script", "_law_bag_here", "_law_turn", "_law_base_here", "_law_wide", "_law_one", "_law_other", "_law_told", "_law_lists", "_law_spots", "_law_spot_here"]) (sc := defScope s_law) (by decide +kernel)) (fun _ _ _ _ _ => pg_name (i := 10) sc_law.nd rfl (Or.inl rfl)) (fun _ _ _ _ _ => pts_nil) (fun _ _ _ _ _ => (pe_cmpR (r := rInD K) (op_inD (u65 hr)) (pv 10) (pe_ix (r := rIxL K) ix_list (pv 8) pe_int (fun _ _ => rfl)) rfl))) pa_nil))))
    (pss_one (ps_ret pe_bl))
    pss_nil)))))))))))
    (pss_one (ps_ret pe_bl)))), ?_⟩
  refine ⟨_, rfl, a, ns, rfl, hS, h63, fun b l H1 sm1 nb nl hB => ?_⟩
  refine ⟨6, rfl, by decide, by decide, for_range (lo := 0) (n := (6 : Int).toNat) (fun _ σ H' => (∃ c2 c3 c4 c5 c6 c7 c8 c9 c10, σ = [some (.ref a), some (.ref b), c2, c3, c4, c5, c6, c7, c8, c9, c10]) ∧ BagAt H' b l) ⟨⟨_, _, _, _, _, _, _, _, _, rfl⟩, hB⟩ ?_ ?_⟩
  · rintro i σ H2 hi ⟨⟨c2, c3, c4, c5, c6, c7, c8, c9, c10, rfl⟩, hB2⟩
    refine ⟨_, rfl, b, _, rfl, hB2, fun pb H3 x0 y0 hB3 bt3 hpb => ?_⟩
    refine ⟨_, rfl, sz (by decide : 4 ≤ 100000), fun p8 n8 => ?_⟩
    have g8 := same_new n8 (.lst [.int 1, .int 3, .int 6, .int 12])
    refine ⟨b, _, p8, _, rfl, hB3.same g8, upd_same, (hB3.new n8).1, by show 0 < 4; decide, by show 4 ≤ 1000; decide, fun v H4 hB4 bt4 hv => ?_⟩
    obtain ⟨m, rfl, m0, m1⟩ : ∃ m : Int, v = .int m ∧ 0 < m ∧ m ≤ 1000 := by
      simp only [List.mem_cons, List.not_mem_nil, or_false] at hv
      rcases hv with rfl | rfl | rfl | rfl <;> exact ⟨_, rfl, by decide, by decide⟩
    have hpb4 := bt4 _ _ (bag_tup (hB3.same g8) (g8 _ _ hpb)) (g8 _ _ hpb)
    refine ⟨_, _, rfl, ?_⟩
    -- the strokes
    refine ⟨_, rfl, _, rfl, _, rfl, b, _, pb, x0, y0, m, rfl, hB4, hpb4, m0, m1, fun s1 H5 x1 y1 x2 y2 hB5 bt5 hs1 => ?_⟩
    have hpb5 := bt5 _ _ (bag_tup hB4 hpb4) hpb4
    refine ⟨_, rfl, _, rfl, _, rfl, _, rfl, sz (by decide : 1 ≤ 100000), fun pl nl => ?_⟩
    have gl := same_new nl (.lst [.ref s1])
    refine ⟨b, _, pb, pl, x0, y0, m, _, rfl, hB5.same gl, gl _ _ hpb5, m0, m1, upd_same, (hB5.new nl).1, by show 1 ≤ 1000; decide, (fun v hv => ?_), fun s2 H6 u1 v1 u2 v2 hB6 bt6 hs2 => ?_⟩
    · simp only [List.mem_cons, List.not_mem_nil, or_false] at hv
      exact ⟨s1, x1, y1, x2, y2, hv, hs1.same gl⟩
    have hs1 := (hs1.same gl).but (hB5.same gl) bt6
    dsimp only [gName, tNext, List.set, List.set_cons_succ, List.set_cons_zero]
    refine seq_with (fun σ' H' => ∃ (c2 : Option V) (r : V), σ' = [some (.ref a), some (.ref b), c2, some (.ref pb), some (.int m), some (.ref s1), some (.ref s2), some r, c8, c9, c10] ∧ Same H6 H' ∧ MetAt H' r (meetL x1 y1 x2 y2 u1 v1 u2 v2)) (fun R hR => ?_) ?_
    · exact ⟨_, rfl, _, rfl, s1, s2, x1, y1, x2, y2, u1, v1, u2, v2, rfl, hs1, hs2, fun r J1 t1 hm => hR _ _ ⟨_, r, rfl, t1, hm⟩⟩
    rintro σ J1 ⟨c2', r, rfl, t1, hm⟩
    refine seq_with (fun σ' H' => ∃ (l1 l2 pl2 : Addr) (xs1 xs2 : List V) (L1 L2 : List (Int × Int)), σ' = [some (.ref a), some (.ref b), c2', some (.ref pb), some (.int m), some (.ref s1), some (.ref s2), some r, some (.ref pl2), c9, c10] ∧ Same J1 H' ∧ H' pl2 = some (.lst [.ref l1, .ref l2]) ∧ H' l1 = some (.lst xs1) ∧ H' l2 = some (.lst xs2) ∧ Prs H' xs1 L1 ∧ Prs H' xs2 L2 ∧ Row x1 y1 x2 y2 L1 ∧ Row u1 v1 u2 v2 L2) (fun R hR => ?_) ?_
    · refine ⟨_, rfl, s1, x1, y1, x2, y2, rfl, hs1.same t1, fun l1 J2 xs1 L1 t2 nl1 hl1 hp1 row1 => ?_⟩
      refine ⟨_, rfl, s2, u1, v1, u2, v2, rfl, (hs2.same t1).same t2, fun l2 J3 xs2 L2 t3 nl2 hl2 hp2 row2 => ?_⟩
      refine ⟨sz (by decide : 2 ≤ 100000), fun pl2 np2 => ?_⟩
      have g2 := same_new np2 (.lst [.ref l1, .ref l2])
      exact hR _ _ ⟨l1, l2, pl2, xs1, xs2, L1, L2, rfl, t2.trans (t3.trans g2), upd_same, g2 _ _ (t3 _ _ hl1), g2 _ _ hl2, (hp1.same t3).same g2, hp2.same g2, row1, row2⟩
    rintro σ J2 ⟨l1, l2, pl2, xs1, xs2, L1, L2, rfl, t2, hpl, hl1, hl2, hp1, hp2, row1, row2⟩
    have hm2 := hm.same t2
    have hs1' := (hs1.same t1).same t2
    have hs2' := (hs2.same t1).same t2
    have hB7 := (hB6.same t1).same t2
    have mo := meet_both hs1.2.2 hs2.2.2
    have mp := @met_part x1 y1 x2 y2 u1 v1 u2 v2 hs1.2.1 hs2.2.1
    generalize meetL x1 y1 x2 y2 u1 v1 u2 v2 = mt at *
    by_cases no : r = .non
    · subst no
      refine ⟨_, rfl, rfl, _, rfl, iteDT rfl ?_⟩
      exact ⟨⟨_, _, _, _, _, _, _, _, _, rfl⟩, hB7⟩
    refine ⟨_, rfl, rfl, _, rfl, iteDF no ?_⟩
    dsimp only [tNext]
    refine seq_with (fun σ' H' => ∃ (ls : Addr) (vs : List V) (S : List (Int × Int)), σ' = [some (.ref a), some (.ref b), c2', some (.ref pb), some (.int m), some (.ref s1), some (.ref s2), some r, some (.ref pl2), some (.ref ls), c10] ∧ Same J2 H' ∧ H' ls = some (.lst vs) ∧ Prs H' vs S ∧ S ≠ [] ∧ ∀ p ∈ S, Thr x1 y1 x2 y2 p.1 p.2 ∧ Thr u1 v1 u2 v2 p.1 p.2) (fun R hR => ?_) ?_
    · cases mt with
      | no => exact absurd hm no
      | pt ea eb ec ed =>
        obtain ⟨p, o, px, py, rfl, hp, ho, hx, hy⟩ := hm2
        have pp := mp rfl
        refine ⟨_, rfl, p, _, _, _, rfl, rfl, SqT.of hp, rfl, rfl, _, rfl, iteDT rfl ?_⟩
        refine ⟨_, rfl, p, _, _, _, rfl, rfl, SqT.of hp, rfl, o, px, py, ea, eb, ec, ed, rfl, ho, hx, hy, pp.1, pp.2, fun rs J5 t5 hrs => ⟨sz (by decide : 1 ≤ 100000), fun ls nls => ?_⟩⟩
        have g5 := same_new nls (.lst [.ref rs])
        refine hR _ _ ⟨ls, _, [(nearI ea eb, nearI ec ed)], rfl, t5.trans g5, upd_same, .cons ⟨rs, rfl, g5 _ _ hrs⟩ .nil, (by intro z; cases z), fun p hp => ?_⟩
        cases List.mem_singleton.mp hp
        have n1 := near_ok (a := ea) pp.1.2.2.1
        have n2 := near_ok (a := ec) pp.2.2.2.1
        exact ⟨On.thr mo.1 n1.1 n1.2 n2.1 n2.2, On.thr mo.2 n1.1 n1.2 n2.1 n2.2⟩
      | along a1 b1 a2 b2 =>
        obtain ⟨p, p1, p2, rfl, hp, h1, h2⟩ := hm2
        refine ⟨_, rfl, p, _, _, _, rfl, rfl, SqT.of hp, rfl, rfl, _, rfl, iteDF (by intro z; exact absurd (V.str.inj z) (by decide)) ?_⟩
        refine ⟨_, rfl, p, _, _, _, rfl, rfl, SqT.of hp, rfl, _, rfl, p, _, _, _, rfl, rfl, SqT.of hp, rfl, sz (by decide : 2 ≤ 100000), fun ls nls => ?_⟩
        have g5 := same_new nls (.lst [.ref p1, .ref p2])
        refine hR _ _ ⟨ls, _, [(a1, b1), (a2, b2)], rfl, g5, upd_same, .cons ⟨p1, rfl, g5 _ _ h1⟩ (.cons ⟨p2, rfl, g5 _ _ h2⟩ .nil), (by intro z; cases z), fun p hp => ?_⟩
        simp only [List.mem_cons, List.not_mem_nil, or_false] at hp
        rcases hp with rfl | rfl
        · exact ⟨On.spot mo.1.1, On.spot mo.2.1⟩
        · exact ⟨On.spot mo.1.2, On.spot mo.2.2⟩
    rintro σ J3 ⟨ls, vs, S, rfl, t3, hls, hps, hne, hS⟩
    refine ⟨_, rfl, ls, rfl, ⟨_, SqL.of hls⟩, ?_⟩
    refine for_list (K := K) (a := ls) (xs := vs) (fun i σ H' => (∃ c10, σ = [some (.ref a), some (.ref b), c2', some (.ref pb), some (.int m), some (.ref s1), some (.ref s2), some r, some (.ref pl2), some (.ref ls), c10]) ∧ Same J3 H') ⟨⟨_, rfl⟩, Same.refl _⟩ ?_ ?_ ?_
    · rintro i σ H' _ ⟨_, e⟩
      exact SqL.of (e _ _ hls)
    · rintro i x σ J hx ⟨⟨c10, rfl⟩, e⟩
      obtain ⟨p, hp, ap, rfl, hap⟩ := hps.at hx
      have th := hS p (List.mem_of_getElem? hp)
      have bt := thr_betw (p := p) th.1
      have bs := hs1.2.1
      have in1 := (row1.1 p).mpr th.1
      have in2 := (row2.1 p).mpr th.2
      have g1 : goesL x1 y1 x2 y2 p.1 p.2 = true := (goesL_iff ..).mpr th.1
      have g2 : goesL u1 v1 u2 v2 p.1 p.2 = true := (goesL_iff ..).mpr th.2
      have eA := t3.trans e
      refine ⟨_, rfl, _, rfl, s1, ap, x1, y1, x2, y2, p.1, p.2, rfl, hs1'.same eA, e _ _ hap, by omega, fun J' e' => ?_⟩
      rw [g1]
      refine ⟨_, rfl, iteF ?_⟩
      have eB := eA.trans e'
      refine ⟨_, rfl, _, rfl, s2, ap, u1, v1, u2, v2, p.1, p.2, rfl, hs2'.same eB, e' _ _ (e _ _ hap), by omega, fun J'' e'' => ?_⟩
      rw [g2]
      refine ⟨_, rfl, iteF ?_⟩
      have eC := eB.trans e''
      have eD := e.trans (e'.trans e'')
      refine ⟨_, rfl, _, rfl, pl2, _, _, _, rfl, rfl, SqL.of (eC _ _ hpl), rfl, prD p, _, dp_prV ⟨ap, rfl, eD _ _ hap⟩, dp_prs (eC _ _ hl1) (hp1.same eC), shaped_prD _, shaped_prs _, _, rfl, ?_⟩
      rw [any_prs]
      refine iteNS in1 ?_
      refine ⟨_, rfl, _, rfl, pl2, _, _, _, rfl, rfl, SqL.of (eC _ _ hpl), rfl, prD p, _, dp_prV ⟨ap, rfl, eD _ _ hap⟩, dp_prs (eC _ _ hl2) (hp2.same eC), shaped_prD _, shaped_prs _, _, rfl, ?_⟩
      rw [any_prs]
      refine iteNS in2 ?_
      exact ⟨⟨_, rfl⟩, eD⟩
    · rintro σ J ⟨⟨c10, rfl⟩, e⟩
      have eA := t3.trans e
      refine ⟨_, rfl, pl2, _, _, _, rfl, rfl, SqL.of (eA _ _ hpl), rfl, l2, rfl, ⟨_, SqL.of (eA _ _ hl2)⟩, fun D hD => ?_⟩
      refine lc_list (K := K) (a := l2) (xs := xs2) (fun i H' => Same J H' ∧ H' D = some (.lst (((L2.take i).map fun p => decide (p ∈ L1)).map V.bl))) ?_ ?_ ?_ ?_
      · exact ⟨same_new hD _, upd_same⟩
      · rintro i H' _ ⟨e', _⟩
        exact SqL.of (e' _ _ (eA _ _ hl2))
      · rintro i x H' hx ⟨e', hd⟩
        obtain ⟨p, hp, ap, rfl, hap⟩ := hp2.at hx
        have eE := eA.trans e'
        refine ⟨rfl, lc_yes ?_⟩
        refine ⟨_, rfl, _, rfl, pl2, _, _, _, rfl, rfl, SqL.of (eE _ _ hpl), rfl, prD p, _, dp_prV ⟨ap, rfl, eE _ _ hap⟩, dp_prs (eE _ _ hl1) (hp1.same eE), shaped_prD _, shaped_prs _, ?_⟩
        rw [any_prs]
        have ln : i < 1000 := by
          have := (List.getElem?_eq_some_iff.mp hp).1
          have := row_len (Row.of.mp row2) hs2.2.1
          omega
        refine ⟨_, hd, ?_, fun a o z => ?_, ?_⟩
        · rw [List.length_map, List.length_map, List.length_take]
          exact Nat.lt_of_lt_of_le (by omega : min i L2.length < 100000) (sz (Nat.le_refl _))
        · rw [upd_ne (ne_of_none z hD)]
          exact e' _ _ z
        · rw [upd_same, take_snoc hp, List.map_append, List.map_append]
          rfl
      · rintro H' ⟨e', hd⟩
        rw [hp2.len, List.take_length] at hd
        refine ⟨D, _, rfl, SqL.of hd, ?_⟩
        obtain ⟨p, hpS⟩ : ∃ p, p ∈ S := by
          cases S with
          | nil => exact absurd rfl hne
          | cons p _ => exact ⟨p, List.mem_cons_self⟩
        have th := hS p hpS
        rw [any_both ((row1.1 p).mpr th.1) ((row2.1 p).mpr th.2)]
        refine ⟨_, rfl, iteF ?_⟩
        exact ⟨⟨_, _, _, _, _, _, _, _, _, rfl⟩, hB7.same (eA.trans e')⟩
  · rintro σ H2 ⟨⟨c2, c3, c4, c5, c6, c7, c8, c9, c10, rfl⟩, hB⟩
    exact q _
end
end DM

namespace DM
open PySem L2
theorem all_mk {l : PySem.W.OpenLaw} {w : World} {K : PySem.W.Frag} {h : Heap} {mg : Str → Option Value} {fa f1 f2 f3 f4 f5 f6 f7 f8 f9 f10 f11 f12 f13 f14 f15 f16 f17 f18 f19 f20 f21 f22 f23 : Addr} (X : K.In h) (G : h.Ns mainGlobals mg) (hfa : mg "law" = some (.ref fa))
    {od1 an1 od2 an2 od3 an3 od4 an4 od5 an5 od6 an6 od7 an7 od8 an8 od9 an9 od10 an10 od11 an11 od12 an12 od13 an13 od14 an14 od15 an15 od16 an16 od17 an17 od18 an18 od19 an19 od20 an20 od21 an21 od22 an22 od23 an23 : Option Addr} {sl1 sl2 sl3 sl4 sl5 sl6 sl7 sl8 sl9 sl10 sl11 sl12 sl13 sl14 sl15 sl16 sl17 sl18 sl19 sl20 sl21 sl22 sl23 : Array (Option Value)} {oc1 kV1 dc1 pm1 cd1 ct1 oc2 ocT2 kV2 dc2 pm2 cd2 ct2 oc3 kV3 dc3 pm3 cd3 ct3 oc4 kV4 dc4 pm4 cd4 ct4 oc5 kV5 dc5 pm5 cd5 ct5 oc6 kV6 dc6 pm6 cd6 ct6 oc7 kV7 dc7 pm7 cd7 ct7 oc8 kV8 dc8 pm8 cd8 ct8 oc9 kV9 dc9 pm9 cd9 ct9 oc10 kV10 dc10 pm10 cd10 ct10 oc11 kV11 dc11 pm11 cd11 ct11 oc12 kV12 dc12 pm12 cd12 ct12 oc13 kV13 dc13 pm13 cd13 ct13 oc14 kV14 dc14 pm14 cd14 ct14 oc15 kV15 dc15 pm15 cd15 ct15 oc16 kV16 dc16 pm16 cd16 ct16 oc17 kV17 dc17 pm17 cd17 ct17 oc18 kV18 dc18 pm18 cd18 ct18 oc19 kV19 dc19 pm19 cd19 ct19 oc20 kV20 dc20 pm20 cd20 ct20 oc21 kV21 dc21 pm21 cd21 ct21 oc22 kV22 dc22 pm22 cd22 ct22 oc23 kV23 dc23 pm23 cd23 ct23 : Value} 
    {T2 : Addr} {odT2 : Option Addr} {slT2 : Array (Option Value)} {nT2 : Nat} {tkT2 : Tok}
    (a1 : PySem.W.nsIn K mainGlobals "common_measure" = some (some (.ref f1))) (l1 : K.lookup f1 = some ⟨oc1, od1, .func (PySem.W.fnOf "common_measure" "common_measure" (defArgs s_common_measure) (defBody s_common_measure) (defScope s_common_measure) .none kV1 dc1 pm1 an1 cd1 ct1), sl1⟩) (c1 : PySem.W.codeIn K cd1 "common_measure" = true) (k1 : PySem.W.keepIn K (.ref f1) = true)
    (a2 : PySem.W.nsIn K mainGlobals "lowest" = some (some (.ref f2))) (l2 : K.lookup f2 = some ⟨oc2, od2, .func (PySem.W.fnOf "lowest" "lowest" (defArgs s_lowest) (defBody s_lowest) (defScope s_lowest) (.ref T2) kV2 dc2 pm2 an2 cd2 ct2), sl2⟩) (c2 : PySem.W.codeIn K cd2 "lowest" = true) (k2 : PySem.W.keepIn K (.ref f2) = true)
    (t2 : K.lookup T2 = some ⟨ocT2, odT2, .seq (List.toArray [.int 1 tkT2]) nT2, slT2⟩)
    (a3 : PySem.W.nsIn K mainGlobals "nearest" = some (some (.ref f3))) (l3 : K.lookup f3 = some ⟨oc3, od3, .func (PySem.W.fnOf "nearest" "nearest" (defArgs s_nearest) (defBody s_nearest) (defScope s_nearest) .none kV3 dc3 pm3 an3 cd3 ct3), sl3⟩) (c3 : PySem.W.codeIn K cd3 "nearest" = true) (k3 : PySem.W.keepIn K (.ref f3) = true)
    (a4 : PySem.W.nsIn K mainGlobals "sign" = some (some (.ref f4))) (l4 : K.lookup f4 = some ⟨oc4, od4, .func (PySem.W.fnOf "sign" "sign" (defArgs s_sign) (defBody s_sign) (defScope s_sign) .none kV4 dc4 pm4 an4 cd4 ct4), sl4⟩) (c4 : PySem.W.codeIn K cd4 "sign" = true) (k4 : PySem.W.keepIn K (.ref f4) = true)
    (a5 : PySem.W.nsIn K mainGlobals "ends_of" = some (some (.ref f5))) (l5 : K.lookup f5 = some ⟨oc5, od5, .func (PySem.W.fnOf "ends_of" "ends_of" (defArgs s_ends_of) (defBody s_ends_of) (defScope s_ends_of) .none kV5 dc5 pm5 an5 cd5 ct5), sl5⟩) (c5 : PySem.W.codeIn K cd5 "ends_of" = true) (k5 : PySem.W.keepIn K (.ref f5) = true)
    (a6 : PySem.W.nsIn K mainGlobals "heading" = some (some (.ref f6))) (l6 : K.lookup f6 = some ⟨oc6, od6, .func (PySem.W.fnOf "heading" "heading" (defArgs s_heading) (defBody s_heading) (defScope s_heading) .none kV6 dc6 pm6 an6 cd6 ct6), sl6⟩) (c6 : PySem.W.codeIn K cd6 "heading" = true) (k6 : PySem.W.keepIn K (.ref f6) = true)
    (a7 : PySem.W.nsIn K mainGlobals "goes" = some (some (.ref f7))) (l7 : K.lookup f7 = some ⟨oc7, od7, .func (PySem.W.fnOf "goes" "goes" (defArgs s_p_goes) (defBody s_p_goes) (defScope s_p_goes) .none kV7 dc7 pm7 an7 cd7 ct7), sl7⟩) (c7 : PySem.W.codeIn K cd7 "goes" = true) (k7 : PySem.W.keepIn K (.ref f7) = true)
    (a8 : PySem.W.nsIn K mainGlobals "passes" = some (some (.ref f8))) (l8 : K.lookup f8 = some ⟨oc8, od8, .func (PySem.W.fnOf "passes" "passes" (defArgs s_passes) (defBody s_passes) (defScope s_passes) .none kV8 dc8 pm8 an8 cd8 ct8), sl8⟩) (c8 : PySem.W.codeIn K cd8 "passes" = true) (k8 : PySem.W.keepIn K (.ref f8) = true)
    (a9 : PySem.W.nsIn K mainGlobals "moments" = some (some (.ref f9))) (l9 : K.lookup f9 = some ⟨oc9, od9, .func (PySem.W.fnOf "moments" "moments" (defArgs s_moments) (defBody s_moments) (defScope s_moments) .none kV9 dc9 pm9 an9 cd9 ct9), sl9⟩) (c9 : PySem.W.codeIn K cd9 "moments" = true) (k9 : PySem.W.keepIn K (.ref f9) = true)
    (a10 : PySem.W.nsIn K mainGlobals "squares" = some (some (.ref f10))) (l10 : K.lookup f10 = some ⟨oc10, od10, .func (PySem.W.fnOf "squares" "squares" (defArgs s_squares) (defBody s_squares) (defScope s_squares) .none kV10 dc10 pm10 an10 cd10 ct10), sl10⟩) (c10 : PySem.W.codeIn K cd10 "squares" = true) (k10 : PySem.W.keepIn K (.ref f10) = true)
    (a11 : PySem.W.nsIn K mainGlobals "square_behind" = some (some (.ref f11))) (l11 : K.lookup f11 = some ⟨oc11, od11, .func (PySem.W.fnOf "square_behind" "square_behind" (defArgs s_square_behind) (defBody s_square_behind) (defScope s_square_behind) .none kV11 dc11 pm11 an11 cd11 ct11), sl11⟩) (c11 : PySem.W.codeIn K cd11 "square_behind" = true) (k11 : PySem.W.keepIn K (.ref f11) = true)
    (a12 : PySem.W.nsIn K mainGlobals "square_of" = some (some (.ref f12))) (l12 : K.lookup f12 = some ⟨oc12, od12, .func (PySem.W.fnOf "square_of" "square_of" (defArgs s_square_of) (defBody s_square_of) (defScope s_square_of) .none kV12 dc12 pm12 an12 cd12 ct12), sl12⟩) (c12 : PySem.W.codeIn K cd12 "square_of" = true) (k12 : PySem.W.keepIn K (.ref f12) = true)
    (a13 : PySem.W.nsIn K mainGlobals "meet" = some (some (.ref f13))) (l13 : K.lookup f13 = some ⟨oc13, od13, .func (PySem.W.fnOf "meet" "meet" (defArgs s_p_meet) (defBody s_p_meet) (defScope s_p_meet) .none kV13 dc13 pm13 an13 cd13 ct13), sl13⟩) (c13 : PySem.W.codeIn K cd13 "meet" = true) (k13 : PySem.W.keepIn K (.ref f13) = true)
    (a14 : PySem.W.nsIn K mainGlobals "meet_in_line" = some (some (.ref f14))) (l14 : K.lookup f14 = some ⟨oc14, od14, .func (PySem.W.fnOf "meet_in_line" "meet_in_line" (defArgs s_meet_in_line) (defBody s_meet_in_line) (defScope s_meet_in_line) .none kV14 dc14 pm14 an14 cd14 ct14), sl14⟩) (c14 : PySem.W.codeIn K cd14 "meet_in_line" = true) (k14 : PySem.W.keepIn K (.ref f14) = true)
    (a15 : PySem.W.nsIn K mainGlobals "_law_bag" = some (some (.ref f15))) (l15 : K.lookup f15 = some ⟨oc15, od15, .func (PySem.W.fnOf "_law_bag" "_law_bag" (defArgs s_bag) (defBody s_bag) (defScope s_bag) .none kV15 dc15 pm15 an15 cd15 ct15), sl15⟩) (c15 : PySem.W.codeIn K cd15 "_law_bag" = true) (k15 : PySem.W.keepIn K (.ref f15) = true)
    (a16 : PySem.W.nsIn K mainGlobals "_law_pull" = some (some (.ref f16))) (l16 : K.lookup f16 = some ⟨oc16, od16, .func (PySem.W.fnOf "_law_pull" "_law_pull" (defArgs s_pull) (defBody s_pull) (defScope s_pull) .none kV16 dc16 pm16 an16 cd16 ct16), sl16⟩) (c16 : PySem.W.codeIn K cd16 "_law_pull" = true) (k16 : PySem.W.keepIn K (.ref f16) = true)
    (a17 : PySem.W.nsIn K mainGlobals "_law_of" = some (some (.ref f17))) (l17 : K.lookup f17 = some ⟨oc17, od17, .func (PySem.W.fnOf "_law_of" "_law_of" (defArgs s_of) (defBody s_of) (defScope s_of) .none kV17 dc17 pm17 an17 cd17 ct17), sl17⟩) (c17 : PySem.W.codeIn K cd17 "_law_of" = true) (k17 : PySem.W.keepIn K (.ref f17) = true)
    (a18 : PySem.W.nsIn K mainGlobals "_law_clipped" = some (some (.ref f18))) (l18 : K.lookup f18 = some ⟨oc18, od18, .func (PySem.W.fnOf "_law_clipped" "_law_clipped" (defArgs s_clipped) (defBody s_clipped) (defScope s_clipped) .none kV18 dc18 pm18 an18 cd18 ct18), sl18⟩) (c18 : PySem.W.codeIn K cd18 "_law_clipped" = true) (k18 : PySem.W.keepIn K (.ref f18) = true)
    (a19 : PySem.W.nsIn K mainGlobals "_law_spot" = some (some (.ref f19))) (l19 : K.lookup f19 = some ⟨oc19, od19, .func (PySem.W.fnOf "_law_spot" "_law_spot" (defArgs s_spot) (defBody s_spot) (defScope s_spot) .none kV19 dc19 pm19 an19 cd19 ct19), sl19⟩) (c19 : PySem.W.codeIn K cd19 "_law_spot" = true) (k19 : PySem.W.keepIn K (.ref f19) = true)
    (a20 : PySem.W.nsIn K mainGlobals "_law_base" = some (some (.ref f20))) (l20 : K.lookup f20 = some ⟨oc20, od20, .func (PySem.W.fnOf "_law_base" "_law_base" (defArgs s_base) (defBody s_base) (defScope s_base) .none kV20 dc20 pm20 an20 cd20 ct20), sl20⟩) (c20 : PySem.W.codeIn K cd20 "_law_base" = true) (k20 : PySem.W.keepIn K (.ref f20) = true)
    (a21 : PySem.W.nsIn K mainGlobals "_law_stroke" = some (some (.ref f21))) (l21 : K.lookup f21 = some ⟨oc21, od21, .func (PySem.W.fnOf "_law_stroke" "_law_stroke" (defArgs s_stroke) (defBody s_stroke) (defScope s_stroke) .none kV21 dc21 pm21 an21 cd21 ct21), sl21⟩) (c21 : PySem.W.codeIn K cd21 "_law_stroke" = true) (k21 : PySem.W.keepIn K (.ref f21) = true)
    (a22 : PySem.W.nsIn K mainGlobals "_law_beside" = some (some (.ref f22))) (l22 : K.lookup f22 = some ⟨oc22, od22, .func (PySem.W.fnOf "_law_beside" "_law_beside" (defArgs s_beside) (defBody s_beside) (defScope s_beside) .none kV22 dc22 pm22 an22 cd22 ct22), sl22⟩) (c22 : PySem.W.codeIn K cd22 "_law_beside" = true) (k22 : PySem.W.keepIn K (.ref f22) = true)
    (a23 : PySem.W.nsIn K mainGlobals "law" = some (some (.ref f23))) (l23 : K.lookup f23 = some ⟨oc23, od23, .func (PySem.W.fnOf "law" "law" (defArgs s_law) (defBody s_law) (defScope s_law) .none kV23 dc23 pm23 an23 cd23 ct23), sl23⟩) (c23 : PySem.W.codeIn K cd23 "law" = true) (k23 : PySem.W.keepIn K (.ref f23) = true)
    (z_len : PySem.W.nsIn K mainGlobals "len" = some none)
    (z_isinstance : PySem.W.nsIn K mainGlobals "isinstance" = some none)
    (z_all : PySem.W.nsIn K mainGlobals "all" = some none)
    (z_list : PySem.W.nsIn K mainGlobals "list" = some none)
    (z_tuple : PySem.W.nsIn K mainGlobals "tuple" = some none)
    (z_dict : PySem.W.nsIn K mainGlobals "dict" = some none)
    (z_bool : PySem.W.nsIn K mainGlobals "bool" = some none)
    (z_range : PySem.W.nsIn K mainGlobals "range" = some none)
    (z_abs : PySem.W.nsIn K mainGlobals "abs" = some none)
    (z_any : PySem.W.nsIn K mainGlobals "any" = some none)
    (z_sorted : PySem.W.nsIn K mainGlobals "sorted" = some none)
    (z_int : PySem.W.nsIn K mainGlobals "int" = some none)
    (z_max : PySem.W.nsIn K mainGlobals "max" = some none)
    (z_min : PySem.W.nsIn K mainGlobals "min" = some none)
    (z_sum : PySem.W.nsIn K mainGlobals "sum" = some none)
    (z_zip : PySem.W.nsIn K mainGlobals "zip" = some none)
    (z_enumerate : PySem.W.nsIn K mainGlobals "enumerate" = some none)
    : ∃ fd : FuncData, (∀ (s : Shared) (v : Value), BindsTo s fd ⟨[v], []⟩ [("_law_script", v)]) ∧ ∀ base : Heap, K.In base → base.Ns mainGlobals mg → FnOk l.prog w K mg base CX0 6 fa fd ["_law_script"] (spLaw K) := by
  have e := hfa.symm.trans (PySem.W.mg_of X G a23)
  cases e
  have F_common_measure := fun_mk (st := s_common_measure) l1 c1 k1
  have b_common_measure := F_common_measure.binds (ps := ["one", "other"]) fun _ _ _ _ _ _ us hl => match us, hl with | [_, _], _ => rfl
  have m_common_measure := PySem.W.mg_of X G a1
  have F_lowest : FunD K "lowest" "lowest" (defArgs s_lowest) (defBody s_lowest) (defScope s_lowest) [.int 1] [] f2 _ := ⟨⟨_, _, _, _, _, _, _, _, _, _, rfl, l2, c2, .inr ⟨by decide, _, _, _, _, rfl, t2, rfl, (.cons ⟨_, rfl⟩ .nil)⟩, .inl rfl⟩, k2⟩
  obtain ⟨dslowest_0, vlowest_0, bblowest_0⟩ := F_lowest.binds1 (ps := ["over", "under"]) 1 0 (by decide) rfl fun _ _ _ _ _ _ _ us its hl hi => match us, its, hl, hi with | [_], [_], _, _ => ⟨_, rfl, rfl⟩
  obtain ⟨dslowest_1, vlowest_1, bblowest_1⟩ := F_lowest.binds1 (ps := ["over", "under"]) 2 1 (by decide) rfl fun _ _ _ _ _ _ _ us its hl hi => match us, its, hl, hi with | [_, _], [_], _, _ => ⟨_, rfl, rfl⟩
  have b_lowest := nil_binds vlowest_1 bblowest_1
  have m_lowest := PySem.W.mg_of X G a2
  have F_nearest := fun_mk (st := s_nearest) l3 c3 k3
  have b_nearest := F_nearest.binds (ps := ["one"]) fun _ _ _ _ _ _ us hl => match us, hl with | [_], _ => rfl
  have m_nearest := PySem.W.mg_of X G a3
  have F_sign := fun_mk (st := s_sign) l4 c4 k4
  have b_sign := F_sign.binds (ps := ["number"]) fun _ _ _ _ _ _ us hl => match us, hl with | [_], _ => rfl
  have m_sign := PySem.W.mg_of X G a4
  have F_ends_of := fun_mk (st := s_ends_of) l5 c5 k5
  have b_ends_of := F_ends_of.binds (ps := ["stroke"]) fun _ _ _ _ _ _ us hl => match us, hl with | [_], _ => rfl
  have m_ends_of := PySem.W.mg_of X G a5
  have F_heading := fun_mk (st := s_heading) l6 c6 k6
  have b_heading := F_heading.binds (ps := ["stroke"]) fun _ _ _ _ _ _ us hl => match us, hl with | [_], _ => rfl
  have m_heading := PySem.W.mg_of X G a6
  have F_p_goes := fun_mk (st := s_p_goes) l7 c7 k7
  have b_p_goes := F_p_goes.binds (ps := ["stroke", "spot"]) fun _ _ _ _ _ _ us hl => match us, hl with | [_, _], _ => rfl
  have m_p_goes := PySem.W.mg_of X G a7
  have F_passes := fun_mk (st := s_passes) l8 c8 k8
  have b_passes := F_passes.binds (ps := ["stroke", "least", "greatest"]) fun _ _ _ _ _ _ us hl => match us, hl with | [_, _, _], _ => rfl
  have m_passes := PySem.W.mg_of X G a8
  have F_moments := fun_mk (st := s_moments) l9 c9 k9
  have b_moments := F_moments.binds (ps := ["start", "end", "unit", "least", "greatest"]) fun _ _ _ _ _ _ us hl => match us, hl with | [_, _, _, _, _], _ => rfl
  have m_moments := PySem.W.mg_of X G a9
  have F_squares := fun_mk (st := s_squares) l10 c10 k10
  have b_squares := F_squares.binds (ps := ["stroke"]) fun _ _ _ _ _ _ us hl => match us, hl with | [_], _ => rfl
  have m_squares := PySem.W.mg_of X G a10
  have F_square_behind := fun_mk (st := s_square_behind) l11 c11 k11
  have b_square_behind := F_square_behind.binds (ps := ["stroke", "here"]) fun _ _ _ _ _ _ us hl => match us, hl with | [_, _], _ => rfl
  have m_square_behind := PySem.W.mg_of X G a11
  have F_square_of := fun_mk (st := s_square_of) l12 c12 k12
  have b_square_of := F_square_of.binds (ps := ["place"]) fun _ _ _ _ _ _ us hl => match us, hl with | [_], _ => rfl
  have m_square_of := PySem.W.mg_of X G a12
  have F_p_meet := fun_mk (st := s_p_meet) l13 c13 k13
  have b_p_meet := F_p_meet.binds (ps := ["one", "other"]) fun _ _ _ _ _ _ us hl => match us, hl with | [_, _], _ => rfl
  have m_p_meet := PySem.W.mg_of X G a13
  have F_meet_in_line := fun_mk (st := s_meet_in_line) l14 c14 k14
  have b_meet_in_line := F_meet_in_line.binds (ps := ["one", "other"]) fun _ _ _ _ _ _ us hl => match us, hl with | [_, _], _ => rfl
  have m_meet_in_line := PySem.W.mg_of X G a14
  have F_bag := fun_mk (st := s_bag) l15 c15 k15
  have b_bag := F_bag.binds (ps := ["_law_script"]) fun _ _ _ _ _ _ us hl => match us, hl with | [_], _ => rfl
  have m_bag := PySem.W.mg_of X G a15
  have F_pull := fun_mk (st := s_pull) l16 c16 k16
  have b_pull := F_pull.binds (ps := ["_law_bag_here", "_law_amount"]) fun _ _ _ _ _ _ us hl => match us, hl with | [_, _], _ => rfl
  have m_pull := PySem.W.mg_of X G a16
  have F_of := fun_mk (st := s_of) l17 c17 k17
  have b_of := F_of.binds (ps := ["_law_bag_here", "_law_things"]) fun _ _ _ _ _ _ us hl => match us, hl with | [_, _], _ => rfl
  have m_of := PySem.W.mg_of X G a17
  have F_clipped := fun_mk (st := s_clipped) l18 c18 k18
  have b_clipped := F_clipped.binds (ps := ["_law_number"]) fun _ _ _ _ _ _ us hl => match us, hl with | [_], _ => rfl
  have m_clipped := PySem.W.mg_of X G a18
  have F_spot := fun_mk (st := s_spot) l19 c19 k19
  have b_spot := F_spot.binds (ps := ["_law_bag_here", "_law_base_here", "_law_wide"]) fun _ _ _ _ _ _ us hl => match us, hl with | [_, _, _], _ => rfl
  have m_spot := PySem.W.mg_of X G a19
  have F_base := fun_mk (st := s_base) l20 c20 k20
  have b_base := F_base.binds (ps := ["_law_bag_here"]) fun _ _ _ _ _ _ us hl => match us, hl with | [_], _ => rfl
  have m_base := PySem.W.mg_of X G a20
  have F_stroke := fun_mk (st := s_stroke) l21 c21 k21
  have b_stroke := F_stroke.binds (ps := ["_law_bag_here", "_law_base_here", "_law_wide"]) fun _ _ _ _ _ _ us hl => match us, hl with | [_, _, _], _ => rfl
  have m_stroke := PySem.W.mg_of X G a21
  have F_beside := fun_mk (st := s_beside) l22 c22 k22
  have b_beside := F_beside.binds (ps := ["_law_bag_here", "_law_base_here", "_law_wide", "_law_some"]) fun _ _ _ _ _ _ us hl => match us, hl with | [_, _, _, _], _ => rfl
  have m_beside := PySem.W.mg_of X G a22
  have F_law := fun_mk (st := s_law) l23 c23 k23
  have b_law := F_law.binds (ps := ["_law_script"]) fun _ _ _ _ _ _ us hl => match us, hl with | [_], _ => rfl
  have m_law := PySem.W.mg_of X G a23
  have B : Blt mg := ⟨PySem.W.mg_none_of X G z_len, PySem.W.mg_none_of X G z_isinstance, PySem.W.mg_none_of X G z_all, PySem.W.mg_none_of X G z_list, PySem.W.mg_none_of X G z_tuple, PySem.W.mg_none_of X G z_dict, PySem.W.mg_none_of X G z_bool, PySem.W.mg_none_of X G z_range, PySem.W.mg_none_of X G z_abs, PySem.W.mg_none_of X G z_any, PySem.W.mg_none_of X G z_sorted, PySem.W.mg_none_of X G z_int, PySem.W.mg_none_of X G z_max, PySem.W.mg_none_of X G z_min, PySem.W.mg_none_of X G z_sum, PySem.W.mg_none_of X G z_zip, PySem.W.mg_none_of X G z_enumerate⟩
  refine ⟨PySem.W.fnOf "law" "law" (defArgs s_law) (defBody s_law) (defScope s_law) .none kV23 dc23 pm23 an23 cd23 ct23, fun s v => .of_eq rfl, fun base _ _ => ?_⟩
  have C_bag : Cal l.prog w K mg base 1 "_law_bag" ["_law_script"] (spBag K) := ⟨_, _, ok_bag B F_bag, b_bag, F_bag.kp, m_bag⟩
  have C_pull : Cal l.prog w K mg base 1 "_law_pull" ["_law_bag_here", "_law_amount"] spPull := ⟨_, _, ok_pull B F_pull, b_pull, F_pull.kp, m_pull⟩
  have C_of : Cal l.prog w K mg base 2 "_law_of" ["_law_bag_here", "_law_things"] spOf := ⟨_, _, ok_of B C_pull F_of, b_of, F_of.kp, m_of⟩
  have C_clipped : Cal l.prog w K mg base 1 "_law_clipped" ["_law_number"] spClip := ⟨_, _, ok_clipped B F_clipped, b_clipped, F_clipped.kp, m_clipped⟩
  have C_spot : Cal l.prog w K mg base 2 "_law_spot" ["_law_bag_here", "_law_base_here", "_law_wide"] spSpot := ⟨_, _, ok_spot C_pull C_clipped F_spot, b_spot, F_spot.kp, m_spot⟩
  have C_base : Cal l.prog w K mg base 3 "_law_base" ["_law_bag_here"] spBase := ⟨_, _, ok_base C_pull C_of F_base, b_base, F_base.kp, m_base⟩
  have C_stroke : Cal l.prog w K mg base 3 "_law_stroke" ["_law_bag_here", "_law_base_here", "_law_wide"] spStroke := ⟨_, _, ok_stroke C_spot F_stroke, b_stroke, F_stroke.kp, m_stroke⟩
  have C_common_measure : Cal l.prog w K mg base 1 "common_measure" ["one", "other"] spGcd := ⟨_, _, ok_common_measure F_common_measure, b_common_measure, F_common_measure.kp, m_common_measure⟩
  have C_lowest : Cal l.prog w K mg base 2 "lowest" ["over", "under"] spLow := ⟨_, _, ok_lowest B C_common_measure F_lowest, b_lowest, F_lowest.kp, m_lowest⟩
  have D_lowest : CalD l.prog w K mg base 2 "lowest" ["over", "under"] spLow [.int 1] := ⟨_, _, _, ok_lowest B C_common_measure F_lowest, bblowest_0, vlowest_0, F_lowest.kp, m_lowest⟩
  have C_beside : Cal l.prog w K mg base 4 "_law_beside" ["_law_bag_here", "_law_base_here", "_law_wide", "_law_some"] spBeside := ⟨_, _, ok_beside B C_pull C_of C_stroke F_beside, b_beside, F_beside.kp, m_beside⟩
  have C_meet_in_line : Cal l.prog w K mg base 3 "meet_in_line" ["one", "other"] spLine := ⟨_, _, ok_meet_in_line B D_lowest F_meet_in_line, b_meet_in_line, F_meet_in_line.kp, m_meet_in_line⟩
  have C_p_meet : Cal l.prog w K mg base 4 "meet" ["one", "other"] spMeet := ⟨_, _, ok_p_meet C_lowest C_meet_in_line F_p_meet, b_p_meet, F_p_meet.kp, m_p_meet⟩
  have C_ends_of : Cal l.prog w K mg base 1 "ends_of" ["stroke"] spEnds := ⟨_, _, ok_ends_of F_ends_of, b_ends_of, F_ends_of.kp, m_ends_of⟩
  have C_moments : Cal l.prog w K mg base 1 "moments" ["start", "end", "unit", "least", "greatest"] spMoments := ⟨_, _, ok_moments F_moments, b_moments, F_moments.kp, m_moments⟩
  have C_passes : Cal l.prog w K mg base 2 "passes" ["stroke", "least", "greatest"] spPasses := ⟨_, _, ok_passes B C_moments F_passes, b_passes, F_passes.kp, m_passes⟩
  have C_p_goes : Cal l.prog w K mg base 3 "goes" ["stroke", "spot"] spGoes := ⟨_, _, ok_p_goes C_passes F_p_goes, b_p_goes, F_p_goes.kp, m_p_goes⟩
  have C_sign : Cal l.prog w K mg base 1 "sign" ["number"] spSign := ⟨_, _, ok_sign F_sign, b_sign, F_sign.kp, m_sign⟩
  have C_heading : Cal l.prog w K mg base 2 "heading" ["stroke"] spHeading := ⟨_, _, ok_heading C_sign F_heading, b_heading, F_heading.kp, m_heading⟩
  have C_square_behind : Cal l.prog w K mg base 4 "square_behind" ["stroke", "here"] spBehind := ⟨_, _, ok_square_behind C_heading C_p_goes F_square_behind, b_square_behind, F_square_behind.kp, m_square_behind⟩
  have C_squares : Cal l.prog w K mg base 5 "squares" ["stroke"] spSquares := ⟨_, _, ok_squares C_ends_of C_square_behind F_squares, b_squares, F_squares.kp, m_squares⟩
  have C_nearest : Cal l.prog w K mg base 1 "nearest" ["one"] spNear := ⟨_, _, ok_nearest F_nearest, b_nearest, F_nearest.kp, m_nearest⟩
  have C_square_of : Cal l.prog w K mg base 2 "square_of" ["place"] spSquare := ⟨_, _, ok_square_of C_nearest F_square_of, b_square_of, F_square_of.kp, m_square_of⟩
  exact ok_law B C_bag C_of C_base C_stroke C_beside C_p_meet C_squares C_square_of C_p_goes F_law
theorem walk {l : PySem.W.OpenLaw} {q : Program} {loose : List Str} {XP : (Str → Option Value) → Heap → Prop} {YP : World → Heap → Prop} {d : DefRec} {K : Params → PySem.W.Frag} (hn : l.most = some 63) (hdf : d.params.defaults = [])
    (hY : ∀ (w : World) (h : Heap), YP w h → (K w.params).In h)
    (F : ∀ (w : World) (mg : Str → Option Value) (fa : Addr) (h : Heap), (K w.params).In h → h.Ns mainGlobals mg → mg d.name = some (.ref fa) →
      ∃ fd : FuncData, (∀ (s : Shared) (u : Value), BindsTo s fd ⟨[u], []⟩ [("_law_script", u)]) ∧ ∀ base : Heap, (K w.params).In base → base.Ns mainGlobals mg → FnOk l.prog w (K w.params) mg base CX0 6 fa fd ["_law_script"] (spLaw (K w.params))) :
    PySem.W.WalkO q loose XP YP l.row.toRowW d [] (fun f vs => PySem.call f vs) :=
  L2.walk_of (n := 63) (k := 6) (x := "_law_script") (CX := fun _ => CX0) (sp := fun w => spLaw (K w.params)) hn (by decide) hdf ⟨rfl, by decide, by decide⟩ hY F (fun _ _ a ns hl _ hS => ⟨a, ns, rfl, hS, hl, fun _ => rfl⟩) fun _ _ _ _ _ z => z
end DM
open PySem PySem.W PyProof.Rows
set_option maxRecDepth 100000 in
set_option maxHeartbeats 0 in
theorem PySem.Challenge.cw_dotmoor_k09_whole_both_go_through_where_holds : PySem.Challenge.rw_dotmoor_k09_whole_both_go_through_where.Holds := by
  w_on; o_law; k_head; (case hw => w_witness2)
  k_fill
  refine DM.walk (l := PySem.Challenge.rw_dotmoor_k09_whole_both_go_through_where) rfl rfl (fun w h Y => PySem.W.kIn_of Y) ?F
  case F =>
    intro w mg fa h KX G hmg
    refine' DM.all_mk KX G hmg ?a1 ?l1 ?c1 ?k1 ?a2 ?l2 ?c2 ?k2 ?t2 ?a3 ?l3 ?c3 ?k3 ?a4 ?l4 ?c4 ?k4 ?a5 ?l5 ?c5 ?k5 ?a6 ?l6 ?c6 ?k6 ?a7 ?l7 ?c7 ?k7 ?a8 ?l8 ?c8 ?k8 ?a9 ?l9 ?c9 ?k9 ?a10 ?l10 ?c10 ?k10 ?a11 ?l11 ?c11 ?k11 ?a12 ?l12 ?c12 ?k12 ?a13 ?l13 ?c13 ?k13 ?a14 ?l14 ?c14 ?k14 ?a15 ?l15 ?c15 ?k15 ?a16 ?l16 ?c16 ?k16 ?a17 ?l17 ?c17 ?k17 ?a18 ?l18 ?c18 ?k18 ?a19 ?l19 ?c19 ?k19 ?a20 ?l20 ?c20 ?k20 ?a21 ?l21 ?c21 ?k21 ?a22 ?l22 ?c22 ?k22 ?a23 ?l23 ?c23 ?k23 ?z_len ?z_isinstance ?z_all ?z_list ?z_tuple ?z_dict ?z_bool ?z_range ?z_abs ?z_any ?z_sorted ?z_int ?z_max ?z_min ?z_sum ?z_zip ?z_enumerate
    (case a1 => k_is)
    (case l1 => k_is)
    (case c1 => k_is)
    (case k1 => k_is)
    (case a2 => k_is)
    (case l2 => k_is)
    (case c2 => k_is)
    (case k2 => k_is)
    (case t2 => k_is)
    (case a3 => k_is)
    (case l3 => k_is)
    (case c3 => k_is)
    (case k3 => k_is)
    (case a4 => k_is)
    (case l4 => k_is)
    (case c4 => k_is)
    (case k4 => k_is)
    (case a5 => k_is)
    (case l5 => k_is)
    (case c5 => k_is)
    (case k5 => k_is)
    (case a6 => k_is)
    (case l6 => k_is)
    (case c6 => k_is)
    (case k6 => k_is)
    (case a7 => k_is)
    (case l7 => k_is)
    (case c7 => k_is)
    (case k7 => k_is)
    (case a8 => k_is)
    (case l8 => k_is)
    (case c8 => k_is)
    (case k8 => k_is)
    (case a9 => k_is)
    (case l9 => k_is)
    (case c9 => k_is)
    (case k9 => k_is)
    (case a10 => k_is)
    (case l10 => k_is)
    (case c10 => k_is)
    (case k10 => k_is)
    (case a11 => k_is)
    (case l11 => k_is)
    (case c11 => k_is)
    (case k11 => k_is)
    (case a12 => k_is)
    (case l12 => k_is)
    (case c12 => k_is)
    (case k12 => k_is)
    (case a13 => k_is)
    (case l13 => k_is)
    (case c13 => k_is)
    (case k13 => k_is)
    (case a14 => k_is)
    (case l14 => k_is)
    (case c14 => k_is)
    (case k14 => k_is)
    (case a15 => k_is)
    (case l15 => k_is)
    (case c15 => k_is)
    (case k15 => k_is)
    (case a16 => k_is)
    (case l16 => k_is)
    (case c16 => k_is)
    (case k16 => k_is)
    (case a17 => k_is)
    (case l17 => k_is)
    (case c17 => k_is)
    (case k17 => k_is)
    (case a18 => k_is)
    (case l18 => k_is)
    (case c18 => k_is)
    (case k18 => k_is)
    (case a19 => k_is)
    (case l19 => k_is)
    (case c19 => k_is)
    (case k19 => k_is)
    (case a20 => k_is)
    (case l20 => k_is)
    (case c20 => k_is)
    (case k20 => k_is)
    (case a21 => k_is)
    (case l21 => k_is)
    (case c21 => k_is)
    (case k21 => k_is)
    (case a22 => k_is)
    (case l22 => k_is)
    (case c22 => k_is)
    (case k22 => k_is)
    (case a23 => k_is)
    (case l23 => k_is)
    (case c23 => k_is)
    (case k23 => k_is)
    (case z_len => k_is)
    (case z_isinstance => k_is)
    (case z_all => k_is)
    (case z_list => k_is)
    (case z_tuple => k_is)
    (case z_dict => k_is)
    (case z_bool => k_is)
    (case z_range => k_is)
    (case z_abs => k_is)
    (case z_any => k_is)
    (case z_sorted => k_is)
    (case z_int => k_is)
    (case z_max => k_is)
    (case z_min => k_is)
    (case z_sum => k_is)
    (case z_zip => k_is)
    (case z_enumerate => k_is)

