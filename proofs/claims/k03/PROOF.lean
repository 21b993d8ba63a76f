import PyProof.Rows.All
import Wide.All
import OpenK.AllK
import Wide.FinOn
import HandS.ForMost
import HandS.IsInst
import HandS.Wide
import HandS.Style
import HandS.Defaults
import PySem.Challenge.RW_dotmoor_k03_each_part_has_one_nearest_nu
set_option Elab.async false
set_option linter.all false
set_option maxRecDepth 100000
set_option maxHeartbeats 4000000
namespace DM
open PySem L2
/-! ### built-ins by their names -/
theorem bt_len : bootBuiltins "len" = some (.builtin "len") := by decide +kernel
theorem bt_isinstance : bootBuiltins "isinstance" = some (.builtin "isinstance") := by decide +kernel
theorem bt_all : bootBuiltins "all" = some (.builtin "all") := by decide +kernel
theorem bt_any : bootBuiltins "any" = some (.builtin "any") := by decide +kernel
theorem bt_sorted : bootBuiltins "sorted" = some (.builtin "sorted") := by decide +kernel
theorem bt_abs : bootBuiltins "abs" = some (.builtin "abs") := by decide +kernel
theorem bt_max : bootBuiltins "max" = some (.builtin "max") := by decide +kernel
theorem bt_min : bootBuiltins "min" = some (.builtin "min") := by decide +kernel
theorem bt_list : bootBuiltins "list" = some (.type "list") := by decide +kernel
theorem bt_tuple : bootBuiltins "tuple" = some (.type "tuple") := by decide +kernel
theorem bt_dict : bootBuiltins "dict" = some (.type "dict") := by decide +kernel
theorem bt_bool : bootBuiltins "bool" = some (.type "bool") := by decide +kernel
theorem bt_int : bootBuiltins "int" = some (.type "int") := by decide +kernel
structure Blt (mg : Str → Option Value) : Prop where
  len : mg "len" = none
  isinstance : mg "isinstance" = none
  all : mg "all" = none
  list : mg "list" = none
  tuple : mg "tuple" = none
  dict : mg "dict" = none
  bool : mg "bool" = none
  range : mg "range" = none
  abs : mg "abs" = none
  any : mg "any" = none
  sorted : mg "sorted" = none
  int : mg "int" = none
  max : mg "max" = none
  min : mg "min" = none
/-! ### a def that may be called by its name -/
def Cal (P : Program) (w : World) (K : PySem.W.Frag) (mg : Str → Option Value) (base : Heap) (k : Nat) (x : Str) (ps : List Str) (sp : Sp) : Prop :=
  ∃ (f : Addr) (fd : FuncData), FnOk P w K mg base CX0 k f fd ps sp ∧ Binds K fd ps [] ∧ PySem.W.keepIn K (.ref f) = true ∧ mg x = some (.ref f)
section
variable {X : Cx}
theorem pe_cal {k k' : Nat} {x : Str} {ps : List Str} {sp : Sp} {e : Expr} {es : List Expr} {t : TA} {p pos : Pos} (C : Cal X.prog X.w X.K X.mg X.base k x ps sp) (hr : Room k' X.A) (ha : PA X (e :: es) t)
    (hk : k ≤ k' := by decide) (hg : Gl X x := by rfl) (hdb : (x == ("__debug__" : Str)) = false := by decide) (he : starEach (e :: es) X.env = (false, eval e X.env) :: starEach es X.env := by rfl) (hpl : (backTo pos (starEach es X.env)).any (·.1) = false := by rfl) :
    PE X (.Call (.Name x p) (e :: es) [] pos) (tCall sp [] E0 t) := by
  obtain ⟨f, fd, F, b, kp, hm⟩ := C
  exact pe_call F (hr.mono hk) hg hm kp b .nil pass0 ha hdb he hpl
end
theorem nil_binds {K : PySem.W.Frag} {fd : FuncData} {ps : List Str} {ds : List Value} (v : Vals [] ds) (b : Binds K fd ps ds) : Binds K fd ps [] := by
  cases v
  exact b
/-! ### statements -/
theorem seq_with {t u : TS} {D : Ends} {σ : St} {H : Hp} (P : St → Hp → Prop) (h1 : ∀ R : St → Hp → Prop, (∀ σ' H', P σ' H' → R σ' H') → t { D with nx := R } σ H) (h2 : ∀ σ' H', P σ' H' → u D σ' H') : tSeq t u D σ H := h1 (u D) h2
theorem iteDF {c : Prop} [Decidable c] {A B : Prop} (hc : ¬ c) (h : B) : if decide c = true then A else B := by
  rw [decide_eq_false hc]
  exact iteF h
theorem iteDT {c : Prop} [Decidable c] {A B : Prop} (hc : c) (h : A) : if decide c = true then A else B := by
  rw [decide_eq_true hc]
  exact iteT h
theorem same_new {H : Hp} {p : Addr} (h : H p = none) (o : HO) : Same H (upd H p o) := fun b u q => by rw [upd_ne (ne_of_none q h)]; exact q
theorem new_at {H : Hp} {p : Addr} {o : HO} (_ : Same H (upd H p o)) : upd H p o p = some o := upd_same
theorem sz {n : Nat} (h : n ≤ 100000) : n ≤ sizeLine := Nat.le_trans h (by decide)
/-! ### the bag -/
/-- all but what stands at b is as it was -/
def But (b : Addr) (H H' : Hp) : Prop := ∀ a o, a ≠ b → H a = some o → H' a = some o
theorem But.refl {b : Addr} {H : Hp} : But b H H := fun _ _ _ h => h
theorem But.trans {b : Addr} {H H1 H2 : Hp} (x : But b H H1) (y : But b H1 H2) : But b H H2 := fun a o h e => y a o h (x a o h e)
theorem But.of {b : Addr} {H H1 : Hp} (x : Same H H1) : But b H H1 := fun a o _ e => x a o e
theorem But.upd {b : Addr} {H : Hp} {o : HO} : But b H (upd H b o) := fun a u h e => by rw [upd_ne h]; exact e
def BagAt (H : Hp) (b l : Addr) : Prop := ∃ (ns : List Int) (i g s : Int), H b = some (.lst [.ref l, .int i, .int g, .int s]) ∧ H l = some (.lst (ns.map V.int)) ∧ ns.length ≤ 63 ∧ 0 ≤ i ∧ 0 ≤ g ∧ 0 ≤ s ∧ s < 2147483647
theorem bag_ne {H : Hp} {b l : Addr} {ns : List Int} {i g s : Int} (h : H b = some (.lst [.ref l, .int i, .int g, .int s])) (h' : H l = some (.lst (ns.map V.int))) : l ≠ b := by
  refine ne_of h' h fun e => ?_
  have e1 := HO.lst.inj e
  cases ns with
  | nil => cases e1
  | cons a r => cases e1
theorem bag_upd {H : Hp} {b l : Addr} {ns : List Int} {i g s : Int} (hl : l ≠ b) (h' : H l = some (.lst (ns.map V.int))) (h63 : ns.length ≤ 63) (hi : 0 ≤ i) (hg : 0 ≤ g) (h0 : 0 ≤ s) (h1 : s < 2147483647) : BagAt (upd H b (.lst [.ref l, .int i, .int g, .int s])) b l :=
  ⟨ns, i, g, s, upd_same, by rw [upd_ne hl]; exact h', h63, hi, hg, h0, h1⟩
theorem BagAt.same {H H' : Hp} {b l : Addr} (h : BagAt H b l) (e : Same H H') : BagAt H' b l := by
  obtain ⟨ns, i, g, s, h1, h2, r⟩ := h
  exact ⟨ns, i, g, s, e _ _ h1, e _ _ h2, r⟩
theorem BagAt.hasB {H : Hp} {b l : Addr} (h : BagAt H b l) : ∃ xs, H b = some (.lst xs) := by
  obtain ⟨ns, i, g, s, h1, _⟩ := h
  exact ⟨_, h1⟩
theorem BagAt.hasL {H : Hp} {b l : Addr} (h : BagAt H b l) : ∃ xs, H l = some (.lst xs) := by
  obtain ⟨ns, i, g, s, h1, h2, _⟩ := h
  exact ⟨_, h2⟩
/-- a store elsewhere leaves the bag -/
theorem BagAt.put {H : Hp} {b l p : Addr} {o : HO} (h : BagAt H b l) (h1 : p ≠ b) (h2 : p ≠ l) : BagAt (upd H p o) b l := by
  obtain ⟨ns, i, g, s, e1, e2, r⟩ := h
  exact ⟨ns, i, g, s, by rw [upd_ne (Ne.symm h1)]; exact e1, by rw [upd_ne (Ne.symm h2)]; exact e2, r⟩
/-- what is new is not the bag's -/
theorem BagAt.new {H : Hp} {b l p : Addr} (h : BagAt H b l) (hp : H p = none) : p ≠ b ∧ p ≠ l := by
  obtain ⟨xs, e1⟩ := h.hasB
  obtain ⟨ys, e2⟩ := h.hasL
  exact ⟨Ne.symm (ne_of_none e1 hp), Ne.symm (ne_of_none e2 hp)⟩
theorem bag_tup {H : Hp} {b l p : Addr} {xs : List V} (hB : BagAt H b l) (h : H p = some (.tup xs)) : p ≠ b := by
  obtain ⟨ys, e⟩ := hB.hasB
  exact ne_of h e (by intro z; cases z)
/-- what the bag's makers and readers promise -/
def spBag (K : PySem.W.Frag) : Sp := fun vs H Q _ => ∃ (a : Addr) (ns : List Int), vs = [.ref a] ∧ SqL K H a (ns.map V.int) ∧ ns.length ≤ 63 ∧ ∀ (b l : Addr) (H' : Hp), Same H H' → H b = none → H l = none → BagAt H' b l → Q (.ref b) H'
def spPull : Sp := fun vs H Q _ => ∃ (b l : Addr) (m : Int), vs = [.ref b, .int m] ∧ BagAt H b l ∧ 0 < m ∧ m < 4611686018427387904 ∧ ∀ (r : Int) (H' : Hp), BagAt H' b l → But b H H' → 0 ≤ r → r < m → Q (.int r) H'
def spOf : Sp := fun vs H Q _ => ∃ (b l p : Addr) (xs : List V), vs = [.ref b, .ref p] ∧ BagAt H b l ∧ H p = some (.lst xs) ∧ p ≠ b ∧ 0 < xs.length ∧ xs.length ≤ 1000 ∧ ∀ (v : V) (H' : Hp), BagAt H' b l → But b H H' → v ∈ xs → Q v H'
def spLaw (K : PySem.W.Frag) : Sp := fun vs H Q _ => ∃ (a : Addr) (ns : List Int), vs = [.ref a] ∧ SqL K H a (ns.map V.int) ∧ ns.length ≤ 63 ∧ ∀ H', Q (.bl true) H'
end DM

namespace DM
open PySem L2
def top (i : Nat) : Stmt := PySem.Challenge.pw_dotmoor_k03_each_part_has_one_nearest_nu.main.body.getD i (.Pass ⟨0, 0, 0, 0⟩)
section
variable {P : Program} {w : World} {K : PySem.W.Frag} {mg : Str → Option Value} {base : Heap} {f : Addr} {fd : FuncData}
abbrev s_bag : Stmt := top 5
theorem sc_bag : FnScope ["_law_script", "_law_salt", "_law_cell"] ["_law_script"] (defScope s_bag) := ⟨rfl, rfl, rfl, by decide +kernel, rfl, by decide +kernel, by decide +kernel⟩
theorem cut_ints (ns : List Int) : ∃ ms : List Int, cutV (ns.map V.int) none (some 63) = ms.map V.int ∧ ms.length ≤ ns.length := by
  refine ⟨(ns.drop (HT.sIx ns.length 0 none)).take (HT.sIx ns.length ns.length (some 63) - HT.sIx ns.length 0 none), ?_, ?_⟩
  · unfold cutV
    rw [List.length_map, List.map_take, List.map_drop]
  · rw [List.length_take, List.length_drop]
    omega
theorem ok_bag (B : Blt mg) (F : Fun K "_law_bag" "_law_bag" s_bag f fd) : FnOk P w K mg base CX0 1 f fd ["_law_script"] (spBag K) := by
  refine F.ok sc_bag (fun vs H Q E h => ?_) (fun cdv A outer s H vs Q E hr h => ?_)
  · obtain ⟨a, ns, rfl, _⟩ := h
    rfl
  obtain ⟨a, ns, rfl, hS, h63, q⟩ := h
  refine ⟨_, (pss_cons (ps_set (i := 1) sc_bag.nd rfl (Or.inl rfl) pe_int)
    (pss_cons (ps_for PassesOwn.never rfl (pi_list (pe_slice sl_list (pv 0) po_none (po_some pe_int))) (pg_name (i := 2) sc_bag.nd rfl (Or.inl rfl))
    (pss_one (ps_set (i := 1) sc_bag.nd rfl (Or.inl rfl) (pe_op op_mod (pe_op op_add (pe_op op_add (pe_op op_mul (pv 1) pe_int) (pe_op op_mod (pv 2) pe_int)) pe_int) pe_int))))
    (pss_one (ps_ret (pe_lst (pa_cons (pe_callTy call_list_of rfl B.list bt_list (pa_cons (pe_slice sl_list (pv 0) po_none (po_some pe_int)) pa_nil)) (pa_cons pe_int (pa_cons pe_int (pa_cons (pv 1) pa_nil))))))))), ?_⟩
  obtain ⟨ms, em, lm⟩ := cut_ints ns
  refine ⟨_, rfl, _, rfl, a, _, rfl, hS, fun p hp => ?_⟩
  refine ⟨p, rfl, ⟨_, SqL.of upd_same⟩, ?_⟩
  have g1 : Same H (upd H p (.lst (cutV (ns.map V.int) none (some 63)))) := same_new hp _
  have hp1 : upd H p (.lst (cutV (ns.map V.int) none (some 63))) p = some (.lst (ms.map V.int)) := by rw [upd_same, em]
  refine for_list (K := K) (a := p) (xs := ms.map V.int) (fun _ σ H' => H' = upd H p (.lst (cutV (ns.map V.int) none (some 63))) ∧ ∃ (s : Int) (c : Option V), σ = [some (.ref a), some (.int s), c] ∧ 0 ≤ s ∧ s < 2147483647) ?_ ?_ ?_ ?_
  · exact ⟨rfl, 9117, none, rfl, by decide, by decide⟩
  · rintro i σ H' _ ⟨rfl, _⟩
    exact SqL.of hp1
  · rintro i x σ H' hx ⟨rfl, s, c, rfl, h0, h1⟩
    obtain ⟨n, rfl⟩ : ∃ n, x = V.int n := by
      rw [List.getElem?_map] at hx
      cases e : ms[i]? with
      | none => rw [e] at hx; cases hx
      | some n => rw [e] at hx; exact ⟨n, (Option.some.inj hx).symm⟩
    refine ⟨_, rfl, _, _, rfl, rfl, .inr ⟨by decide, by decide⟩, _, rfl, _, _, rfl, rfl, (by dsimp only; decide), _, _, rfl, rfl, _, _, rfl, rfl, _, _, rfl, rfl, (by dsimp only; decide), ?_⟩
    refine ⟨rfl, _, _, rfl, ?_, ?_⟩
    · exact Int.emod_nonneg _ (by decide)
    · exact Int.emod_lt_of_pos _ (by decide)
  · rintro σ H' ⟨rfl, s, c, rfl, h0, h1⟩
    refine ⟨_, rfl, _, rfl, a, _, rfl, g1.seq hS, fun p2 hp2 => ?_⟩
    refine ⟨p2, _, rfl, .inl (SqL.of upd_same), fun p3 hp3 => ?_⟩
    refine ⟨_, rfl, sz (by decide : 4 ≤ 100000), fun p4 hp4 => ?_⟩
    refine q p4 p3 _ (g1.trans ((same_new hp2 _).trans ((same_new hp3 _).trans (same_new hp4 _)))) ?_ (g1.free ((same_new hp2 _).free hp3)) ?_
    · exact g1.free ((same_new hp2 _).free ((same_new hp3 _).free hp4))
    · refine bag_upd (ns := ms) (Ne.symm (Ne.symm (ne_of_none (H := upd _ p3 _) upd_same hp4))) ?_ (by omega) (by decide) (by decide) h0 h1
      rw [upd_same, em]
abbrev s_pull : Stmt := top 6
theorem sc_pull : FnScope ["_law_bag_here", "_law_amount", "_law_cell", "_law_got", "_law_seed"] ["_law_bag_here", "_law_amount"] (defScope s_pull) := ⟨rfl, rfl, rfl, by decide +kernel, rfl, by decide +kernel, by decide +kernel⟩
theorem ok_pull (B : Blt mg) (F : Fun K "_law_pull" "_law_pull" s_pull f fd) : FnOk P w K mg base CX0 1 f fd ["_law_bag_here", "_law_amount"] spPull := by
  refine F.ok sc_pull (fun vs H Q E h => ?_) (fun cdv A outer s H vs Q E hr h => ?_)
  · obtain ⟨b, l, m, rfl, _⟩ := h
    rfl
  obtain ⟨b, l, m, rfl, hB, hm0, hm1, q⟩ := h
  refine ⟨_, (pss_cons (ps_if (PW.pt (pw_and (pt_cmpR op_eq (pe_ix ix_list (pv 0) pe_int (fun _ _ => rfl)) pe_int (nomark _)) (pw_and1 (pt_cmpR op_lt (pe_ix ix_list (pv 0) pe_int (fun _ _ => rfl)) (pe_callB call_len_seq rfl B.len bt_len (pa_cons (pe_ix ix_list (pv 0) pe_int (fun _ _ => rfl)) pa_nil)) (nomark _)))))
    (pss_cons (ps_set (i := 2) sc_pull.nd rfl (Or.inl rfl) (pe_ix ix_list (pe_ix ix_list (pv 0) pe_int (fun _ _ => rfl)) (pe_ix ix_list (pv 0) pe_int (fun _ _ => rfl)) (fun _ _ => rfl)))
    (pss_cons (ps_asg (pe_op op_add (pe_ix ix_list (pv 0) pe_int (fun _ _ => rfl)) pe_int) (pg_sub (pv 0) pe_int set_list))
    (pss_one (ps_if (pt_cmpR op_ge (pv 2) (pe_op op_pow pe_int pe_int) (nomark _))
    (pss_one (ps_asg (pv 2) (pg_sub (pv 0) pe_int set_list)))
    (pss_one (ps_asg (pe_op op_mod (pe_op op_add (pe_op op_add (pe_op op_mul (pe_ix ix_list (pv 0) pe_int (fun _ _ => rfl)) pe_int) (pe_op op_mul (pe_op op_mod (pv 2) pe_int) pe_int)) pe_int) pe_int) (pg_sub (pv 0) pe_int set_list)))))))
    pss_nil)
    (pss_cons (ps_if (pt_cmpR op_gt (pe_ix ix_list (pv 0) pe_int (fun _ _ => rfl)) pe_int (nomark _))
    (pss_cons (ps_set (i := 3) sc_pull.nd rfl (Or.inl rfl) (pe_op op_mod (pe_ix ix_list (pv 0) pe_int (fun _ _ => rfl)) (pv 1)))
    (pss_cons (ps_asg (pe_op op_fdivW (pe_ix ix_list (pv 0) pe_int (fun _ _ => rfl)) (pv 1)) (pg_sub (pv 0) pe_int set_list))
    (pss_one (ps_ret (pv 3)))))
    pss_nil)
    (pss_cons (ps_set (i := 4) sc_pull.nd rfl (Or.inl rfl) (pe_ix ix_list (pv 0) pe_int (fun _ _ => rfl)))
    (pss_cons (ps_asg (pe_op op_mod (pe_op op_add (pe_op op_add (pe_op op_mul (pv 4) pe_int) (pe_op op_mul (pe_op op_fdiv (pv 4) pe_int) pe_int)) pe_int) pe_int) (pg_sub (pv 0) pe_int set_list))
    (pss_one (ps_ret (pe_op op_mod (pe_op op_add (pe_op op_fdiv (pe_ix ix_list (pv 0) pe_int (fun _ _ => rfl)) pe_int) (pe_op op_mul (pe_op op_mod (pe_ix ix_list (pv 0) pe_int (fun _ _ => rfl)) pe_int) pe_int)) (pv 1)))))))), ?_⟩
  obtain ⟨ns, i, g, z, hb, hl, h63, hi, hg, hz0, hz1⟩ := hB
  have hlb := bag_ne hb hl
  refine seq_with (fun σ' H' => (∃ c, σ' = [some (.ref b), some (.int m), c, none, none]) ∧ BagAt H' b l ∧ But b H H') (fun R hR => ?_) ?_
  · refine ⟨_, rfl, b, _, _, _, rfl, rfl, SqL.of hb, rfl, rfl, _, rfl, ?_⟩
    refine ite2 (fun c => ?_) (fun c => ?_)
    · refine ⟨_, rfl, b, _, _, _, rfl, rfl, SqL.of hb, rfl, _, rfl, b, _, _, _, rfl, rfl, SqL.of hb, rfl, l, _, rfl, .inl (SqL.of hl), _, _, rfl, rfl, _, rfl, ?_⟩
      refine ite2 (fun c2 => ?_) (fun c2 => ?_)
      · have c3 : i < ((ns.map V.int).length : Int) := of_decide_eq_true c2
        rw [List.length_map] at c3
        have hit : i.toNat < ns.length := by omega
        have ei : i = ((i.toNat : Nat) : Int) := by omega
        have hat : atI (ns.map V.int) i = some (.int ns[i.toNat]) := by
          exact at_of ei (by rw [List.getElem?_map, List.getElem?_eq_getElem hit] <;> rfl)
        refine ⟨_, rfl, b, _, _, _, rfl, rfl, SqL.of hb, rfl, _, rfl, b, _, _, _, rfl, rfl, SqL.of hb, rfl, l, _, _, _, rfl, rfl, SqL.of hl, hat, ?_⟩
        refine ⟨_, rfl, b, _, _, _, rfl, rfl, SqL.of hb, rfl, _, _, rfl, rfl, _, rfl, b, _, _, _, rfl, rfl, hb, rfl, ?_⟩
        refine ⟨_, rfl, _, _, rfl, rfl, ⟨by decide, by decide, by decide⟩, _, _, rfl, rfl, _, rfl, ?_⟩
        refine ite2 (fun c4 => ?_) (fun c4 => ?_)
        · have c5 : ns[i.toNat] ≥ (10 : Int) ^ (18 : Int).toNat := of_decide_eq_true c4
          have c6 : (0 : Int) ≤ (10 : Int) ^ (18 : Int).toNat := by decide
          refine ⟨_, rfl, _, rfl, b, _, _, _, rfl, rfl, upd_same, rfl, hR _ _ ⟨⟨_, rfl⟩, ?_, ?_⟩⟩
          · rw [upd_upd]
            exact bag_upd (ns := ns) hlb hl h63 (by omega) (by omega) hz0 hz1
          · rw [upd_upd]
            exact But.upd
        · refine ⟨_, rfl, b, _, _, _, rfl, rfl, SqL.of upd_same, rfl, _, _, rfl, rfl, .inr ⟨by decide, by decide⟩, _, rfl, _, _, rfl, rfl, (by dsimp only; decide), _, _, rfl, rfl, .inr ⟨by decide, by decide⟩, _, _, rfl, rfl, _, _, rfl, rfl, _, _, rfl, rfl, (by dsimp only; decide), ?_⟩
          refine ⟨_, rfl, b, _, _, _, rfl, rfl, upd_same, rfl, hR _ _ ⟨⟨_, rfl⟩, ?_, ?_⟩⟩
          · rw [upd_upd]
            exact bag_upd (ns := ns) hlb hl h63 (by omega) hg (Int.emod_nonneg _ (by decide)) (Int.emod_lt_of_pos _ (by decide))
          · rw [upd_upd]
            exact But.upd
      · refine hR _ _ ⟨⟨_, rfl⟩, ⟨ns, i, g, z, hb, hl, h63, hi, hg, hz0, hz1⟩, But.refl⟩
    · refine iteF ?_
      exact hR _ _ ⟨⟨_, rfl⟩, ⟨ns, i, g, z, hb, hl, h63, hi, hg, hz0, hz1⟩, But.refl⟩
  · rintro σ' H' ⟨⟨c, rfl⟩, hB', hBut⟩
    obtain ⟨ns, i, g, z, hb, hl, h63, hi, hg, hz0, hz1⟩ := hB'
    have hlb := bag_ne hb hl
    refine ⟨_, rfl, b, _, _, _, rfl, rfl, SqL.of hb, rfl, _, _, rfl, rfl, _, rfl, ?_⟩
    refine ite2 (fun c => ?_) (fun c => ?_)
    · refine ⟨_, rfl, b, _, _, _, rfl, rfl, SqL.of hb, rfl, _, rfl, _, _, rfl, rfl, hm0, ?_⟩
      refine ⟨_, rfl, b, _, _, _, rfl, rfl, SqL.of hb, rfl, _, rfl, _, _, rfl, rfl, wide_div (b := 62) hm0 (by omega) (by decide) (by decide), ?_⟩
      refine ⟨_, rfl, b, _, _, _, rfl, rfl, hb, rfl, _, rfl, ?_⟩
      refine q _ _ ?_ (hBut.trans But.upd) (Int.emod_nonneg _ (by omega)) (Int.emod_lt_of_pos _ hm0)
      exact bag_upd (ns := ns) hlb hl h63 hi (Int.ediv_nonneg hg (by omega)) hz0 hz1
    · refine ⟨_, rfl, b, _, _, _, rfl, rfl, SqL.of hb, rfl, ?_⟩
      refine ⟨_, rfl, _, _, rfl, rfl, .inr ⟨by decide, by decide⟩, _, rfl, _, _, rfl, rfl, ⟨by decide, by decide⟩, _, _, rfl, rfl, .inr ⟨by decide, by decide⟩, _, _, rfl, rfl, _, _, rfl, rfl, _, _, rfl, rfl, (by dsimp only; decide), ?_⟩
      refine ⟨_, rfl, b, _, _, _, rfl, rfl, hb, rfl, ?_⟩
      refine ⟨_, rfl, b, _, _, _, rfl, rfl, SqL.of upd_same, rfl, _, _, rfl, rfl, ⟨by decide, by decide⟩, _, rfl, b, _, _, _, rfl, rfl, SqL.of upd_same, rfl, _, _, rfl, rfl, (by dsimp only; decide), _, _, rfl, rfl, .inr ⟨by decide, by decide⟩, _, _, rfl, rfl, _, rfl, _, _, rfl, rfl, hm0, ?_⟩
      refine q _ _ ?_ (hBut.trans But.upd) (Int.emod_nonneg _ (by omega)) (Int.emod_lt_of_pos _ hm0)
      exact bag_upd (ns := ns) hlb hl h63 hi hg (Int.emod_nonneg _ (by decide)) (Int.emod_lt_of_pos _ (by decide))
abbrev s_of : Stmt := top 7
theorem sc_of : FnScope ["_law_bag_here", "_law_things"] ["_law_bag_here", "_law_things"] (defScope s_of) := ⟨rfl, rfl, rfl, by decide +kernel, rfl, by decide +kernel, by decide +kernel⟩
theorem ok_of (B : Blt mg) (c_pull : Cal P w K mg base 1 "_law_pull" ["_law_bag_here", "_law_amount"] spPull) (F : Fun K "_law_of" "_law_of" s_of f fd) : FnOk P w K mg base CX0 2 f fd ["_law_bag_here", "_law_things"] spOf := by
  refine F.ok sc_of (fun vs H Q E h => ?_) (fun cdv A outer s H vs Q E hr h => ?_)
  · obtain ⟨b, l, p, xs, rfl, _⟩ := h
    rfl
  obtain ⟨b, l, p, xs, rfl, hB, hp, hpb, h0, h1, q⟩ := h
  refine ⟨_, (pss_one (ps_ret (pe_ix ix_list (pv 1) (pe_cal c_pull hr (pa_cons (pv 0) (pa_cons (pe_callB call_len_seq rfl B.len bt_len (pa_cons (pv 1) pa_nil)) pa_nil))) (fun _ _ => rfl)))), ?_⟩
  refine ⟨_, rfl, _, rfl, _, rfl, p, xs, rfl, .inl (SqL.of hp), b, _, _, rfl, hB, by omega, by omega, fun r H' hB' hbut r0 r1 => ?_⟩
  have hr' : r.toNat < xs.length := by omega
  have er : r = ((r.toNat : Nat) : Int) := by omega
  have hat : atI xs r = some xs[r.toNat] := by
    exact at_of er (List.getElem?_eq_getElem hr')
  exact ⟨p, xs, r, _, rfl, rfl, SqL.of (hbut _ _ hpb hp), hat, q _ _ hB' hbut (List.getElem_mem hr')⟩
end
end DM

namespace DM
open PySem L2
/-! ### what is like what -/
def scl : V → Bool
  | .non => true | .bl _ => true | .int _ => true | .str _ => true
  | _ => false
def Alike : Nat → Hp → V → V → Prop
  | 0, _, x, y => x = y ∧ scl x = true
  | n + 1, H, x, y => (x = y ∧ scl x = true) ∨
    (∃ p q xs ys, x = .ref p ∧ y = .ref q ∧ H p = some (.tup xs) ∧ H q = some (.tup ys) ∧ xs.length = ys.length ∧ xs.length ≤ 1000 ∧ ∀ (i : Nat) (x y : V), xs[i]? = some x → ys[i]? = some y → Alike n H x y) ∨
    (∃ p q xs ys, x = .ref p ∧ y = .ref q ∧ H p = some (.lst xs) ∧ H q = some (.lst ys) ∧ xs.length = ys.length ∧ xs.length ≤ 1000 ∧ ∀ (i : Nat) (x y : V), xs[i]? = some x → ys[i]? = some y → Alike n H x y)
theorem Alike.same : ∀ {n : Nat} {H H' : Hp} {x y : V}, Alike n H x y → Same H H' → Alike n H' x y
  | 0, _, _, _, _, h, _ => h
  | n + 1, _, _, _, _, h, e => by
    rcases h with h | ⟨p, q, xs, ys, a, b, c, d, l, m, r⟩ | ⟨p, q, xs, ys, a, b, c, d, l, m, r⟩
    · exact .inl h
    · exact .inr (.inl ⟨p, q, xs, ys, a, b, e _ _ c, e _ _ d, l, m, fun i x y hx hy => (r i x y hx hy).same e⟩)
    · exact .inr (.inr ⟨p, q, xs, ys, a, b, e _ _ c, e _ _ d, l, m, fun i x y hx hy => (r i x y hx hy).same e⟩)
theorem Alike.scal {n : Nat} {H : Hp} {x : V} (h : scl x = true) : Alike n H x x := by
  cases n with
  | zero => exact ⟨rfl, h⟩
  | succ n => exact .inl ⟨rfl, h⟩
theorem Alike.of_eq {n : Nat} {H : Hp} {x y : V} (e : x = y) (h : scl x = true) : Alike n H x y := by
  subst e
  exact Alike.scal h
theorem Alike.up : ∀ {n : Nat} {H : Hp} {x y : V}, Alike n H x y → Alike (n + 1) H x y
  | 0, _, _, _, h => .inl h
  | _ + 1, _, _, _, .inl h => .inl h
  | _ + 1, _, _, _, .inr (.inl ⟨p, q, xs, ys, a, b, c, d, e, f, g⟩) => .inr (.inl ⟨p, q, xs, ys, a, b, c, d, e, f, fun i x y hx hy => (g i x y hx hy).up⟩)
  | _ + 1, _, _, _, .inr (.inr ⟨p, q, xs, ys, a, b, c, d, e, f, g⟩) => .inr (.inr ⟨p, q, xs, ys, a, b, c, d, e, f, fun i x y hx hy => (g i x y hx hy).up⟩)
theorem alike_pair {n : Nat} {H : Hp} {u v : Int} : ∀ (i : Nat) (x y : V), ([.int u, .int v] : List V)[i]? = some x → ([.int u, .int v] : List V)[i]? = some y → Alike n H x y
  | 0, _, _, hx, hy => by cases hx; cases hy; exact Alike.scal rfl
  | 1, _, _, hx, hy => by cases hx; cases hy; exact Alike.scal rfl
def spLike (n : Nat) : Sp := fun vs H Q _ => ∃ x y, vs = [x, y] ∧ Alike n H x y ∧ ∀ H', Same H H' → Q (.bl true) H'
theorem if_pos' {c A B : Prop} [Decidable c] (h : c) (a : A) : if c then A else B := by
  rw [if_pos h]
  exact a
theorem lc_yes {σ : St} {H : Hp} {A B : Hp → Prop} (h : A H) : tYes σ H (fun b H3 => if b = true then A H3 else B H3) := by
  show (if true = true then A H else B H)
  rw [if_pos rfl]
  exact h
def tyn : V → String
  | .non => "NoneType" | .bl _ => "bool" | .int _ => "int" | .str _ => "str"
  | _ => ""
theorem tyn_x {K : PySem.W.Frag} {H : Hp} : ∀ {x : V}, scl x = true → TyX K H x (.type (tyn x))
  | .non, _ => .base .non
  | .bl b, _ => .base (.bl b)
  | .int i, _ => .base (.int i)
  | .str s, _ => .base (.str s)
theorem tyn_no {K : PySem.W.Frag} : ∀ {x : V}, scl x = true → PySem.W.kitOne K (.type (tyn x)) (.type "dict") = some false ∧ PySem.W.kitOne K (.type (tyn x)) (.type "tuple") = some false ∧ PySem.W.kitOne K (.type (tyn x)) (.type "list") = some false ∧ ∃ b, PySem.W.kitOne K (.type (tyn x)) (.type "bool") = some b
  | .non, _ => ⟨kit_ty (by decide +kernel : kitB "NoneType" "dict" = some false), kit_ty (by decide +kernel : kitB "NoneType" "tuple" = some false), kit_ty (by decide +kernel : kitB "NoneType" "list" = some false), _, kit_ty (by decide +kernel : kitB "NoneType" "bool" = some false)⟩
  | .bl _, _ => ⟨kit_ty (by decide +kernel : kitB "bool" "dict" = some false), kit_ty (by decide +kernel : kitB "bool" "tuple" = some false), kit_ty (by decide +kernel : kitB "bool" "list" = some false), _, kit_ty (by decide +kernel : kitB "bool" "bool" = some true)⟩
  | .int _, _ => ⟨kit_ty (by decide +kernel : kitB "int" "dict" = some false), kit_ty (by decide +kernel : kitB "int" "tuple" = some false), kit_ty (by decide +kernel : kitB "int" "list" = some false), _, kit_ty (by decide +kernel : kitB "int" "bool" = some false)⟩
  | .str _, _ => ⟨kit_ty (by decide +kernel : kitB "str" "dict" = some false), kit_ty (by decide +kernel : kitB "str" "tuple" = some false), kit_ty (by decide +kernel : kitB "str" "list" = some false), _, kit_ty (by decide +kernel : kitB "str" "bool" = some false)⟩
theorem scl_eq : ∀ {x : V}, scl x = true → L2.scal x x = true
  | .non, _ => rfl
  | .bl _, _ => rfl
  | .int _, _ => rfl
  | .str _, _ => rfl
section
variable {P : Program} {w : World} {K : PySem.W.Frag} {mg : Str → Option Value} {base : Heap} {f : Addr} {fd : FuncData}
abbrev s_like : Stmt := top 8
theorem sc_like : FnScope ["_law_found", "_law_due", "_law_k"] ["_law_found", "_law_due"] (defScope s_like) := ⟨rfl, rfl, rfl, by decide +kernel, rfl, by decide +kernel, by decide +kernel⟩
theorem like_leaf {k n : Nat} (B : Blt mg) (F : Fun K "_law_like" "_law_like" s_like f fd) (x : V) (hx : scl x = true) (cdv : Value) (A : Around) (outer : List Env) (s : Shared) (H : Hp) (Q : VK) (E : XK) (hr : Room k (A.deeper (PyProof.Rows.envOfC "_law_like" (defScope s_like) s.heap.objs.size f cdv))) (q : ∀ H', Same H H' → Q (.bl true) H') :
    ∃ t, PSs (cxOf CX0 P w K mg base ["_law_found", "_law_due", "_law_k"] "_law_like" (defScope s_like) f cdv A outer s H E).nox (defBody s_like) t ∧ t { nx := fun _ H' => Q .non H', rt := Q } (start ["_law_found", "_law_due", "_law_k"] [x, x]) H := by
  refine ⟨_, (pss_cons (ps_if (pt_val (pe_callB call_isi rfl B.isinstance bt_isinstance (pa_cons (pv 1) (pa_cons (pe_bltn (v := .ty "dict") rfl B.dict bt_dict rfl) pa_nil)))) pss_never pss_nil) (pss_cons (ps_if (PW.pt (pw_or (pt_cmpR op_ne (pe_callB call_isi rfl B.isinstance bt_isinstance (pa_cons (pv 1) (pa_cons (pe_bltn (v := .ty "tuple") rfl B.tuple bt_tuple rfl) pa_nil))) (pe_callB call_isi rfl B.isinstance bt_isinstance (pa_cons (pv 0) (pa_cons (pe_bltn (v := .ty "tuple") rfl B.tuple bt_tuple rfl) pa_nil))) (nomark _)) (pw_or1 (pt_cmpR op_ne (pe_callB call_isi rfl B.isinstance bt_isinstance (pa_cons (pv 1) (pa_cons (pe_bltn (v := .ty "list") rfl B.list bt_list rfl) pa_nil))) (pe_callB call_isi rfl B.isinstance bt_isinstance (pa_cons (pv 0) (pa_cons (pe_bltn (v := .ty "list") rfl B.list bt_list rfl) pa_nil))) (nomark _))))) pss_never pss_nil) (pss_cons (ps_if (pt_not (pt_val (pe_callB call_isiT rfl B.isinstance bt_isinstance (pa_cons (pv 1) (pa_cons (pe_tup (pa_cons (pe_bltn (v := .ty "tuple") rfl B.tuple bt_tuple rfl) (pa_cons (pe_bltn (v := .ty "list") rfl B.list bt_list rfl) pa_nil))) pa_nil))))) (pss_one (ps_ret (pe_and (pe_cmpR op_eq (pe_callB call_isi rfl B.isinstance bt_isinstance (pa_cons (pv 0) (pa_cons (pe_bltn (v := .ty "bool") rfl B.bool bt_bool rfl) pa_nil))) (pe_callB call_isi rfl B.isinstance bt_isinstance (pa_cons (pv 1) (pa_cons (pe_bltn (v := .ty "bool") rfl B.bool bt_bool rfl) pa_nil))) (nomark _)) (pe_one (pe_cmpR op_eq (pv 0) (pv 1) (nomark _)))))) pss_nil) pss_never))), ?_⟩
  have ty : ∀ H', TyX K H' x (.type (tyn x)) := fun H' => tyn_x hx
  obtain ⟨kd, kt, kl, b, kb⟩ := tyn_no (K := K) hx
  refine ⟨_, rfl, _, _, _, _, _, rfl, .ty _, ty _, kd, _, rfl, iteF ?_⟩
  refine ⟨_, rfl, _, _, _, _, _, rfl, .ty _, ty _, kt, _, rfl, _, _, _, _, _, rfl, .ty _, ty _, kt, rfl, _, rfl, iteF ?_⟩
  refine ⟨_, rfl, _, _, _, _, _, rfl, .ty _, ty _, kl, _, rfl, _, _, _, _, _, rfl, .ty _, ty _, kl, rfl, _, rfl, iteF ?_⟩
  refine ⟨_, rfl, sz (by decide : 2 ≤ 100000), fun p1 hp1 => ?_⟩
  refine ⟨_, p1, _, _, _, false, rfl, upd_same, .cons (.ty _) (.cons (.ty _) .nil), ty _, kitAny_cons kt (fun _ => kitAny_cons kl (fun _ => kitAny_nil) (fun z => nomatch z)) (fun z => nomatch z), _, rfl, iteT ?_⟩
  refine ⟨_, rfl, _, _, _, _, _, rfl, .ty _, ty _, kb, _, rfl, _, _, _, _, _, rfl, .ty _, ty _, kb, rfl, _, rfl, ?_⟩
  refine if_pos' (decide_eq_true rfl) ?_
  refine ⟨_, rfl, _, rfl, scl_eq hx, ?_⟩
  have e : decide (x = x) = true := decide_eq_true rfl
  rw [e]
  exact q _ (same_new hp1 _)
theorem ok_like0 (B : Blt mg) (F : Fun K "_law_like" "_law_like" s_like f fd) : FnOk P w K mg base CX0 1 f fd ["_law_found", "_law_due"] (spLike 0) := by
  refine F.ok sc_like (fun vs H Q E h => ?_) (fun cdv A outer s H vs Q E hr h => ?_)
  · obtain ⟨x, y, rfl, _⟩ := h
    rfl
  obtain ⟨x, y, rfl, ⟨rfl, hx⟩, q⟩ := h
  exact like_leaf (n := 0) B F x hx cdv A outer s H Q E hr q
theorem ok_likeS {n : Nat} (B : Blt mg) (F : Fun K "_law_like" "_law_like" s_like f fd) (c_like : Cal P w K mg base (n + 1) "_law_like" ["_law_found", "_law_due"] (spLike n)) : FnOk P w K mg base CX0 (n + 2) f fd ["_law_found", "_law_due"] (spLike (n + 1)) := by
  refine F.ok sc_like (fun vs H Q E h => ?_) (fun cdv A outer s H vs Q E hr h => ?_)
  · obtain ⟨x, y, rfl, _⟩ := h
    rfl
  obtain ⟨x, y, rfl, hA, q⟩ := h
  rcases hA with ⟨rfl, hx⟩ | ⟨p, q0, xs, ys, rfl, rfl, hp, hq, hlen, h1000, hall⟩ | ⟨p, q0, xs, ys, rfl, rfl, hp, hq, hlen, h1000, hall⟩
  · exact like_leaf (n := n) B F x hx cdv A outer s H Q E hr q
  ·
    refine ⟨_, (pss_cons (ps_if (pt_val (pe_callB call_isi rfl B.isinstance bt_isinstance (pa_cons (pv 1) (pa_cons (pe_bltn (v := .ty "dict") rfl B.dict bt_dict rfl) pa_nil)))) pss_never pss_nil) (pss_cons (ps_if (PW.pt (pw_or (pt_cmpR op_ne (pe_callB call_isi rfl B.isinstance bt_isinstance (pa_cons (pv 1) (pa_cons (pe_bltn (v := .ty "tuple") rfl B.tuple bt_tuple rfl) pa_nil))) (pe_callB call_isi rfl B.isinstance bt_isinstance (pa_cons (pv 0) (pa_cons (pe_bltn (v := .ty "tuple") rfl B.tuple bt_tuple rfl) pa_nil))) (nomark _)) (pw_or1 (pt_cmpR op_ne (pe_callB call_isi rfl B.isinstance bt_isinstance (pa_cons (pv 1) (pa_cons (pe_bltn (v := .ty "list") rfl B.list bt_list rfl) pa_nil))) (pe_callB call_isi rfl B.isinstance bt_isinstance (pa_cons (pv 0) (pa_cons (pe_bltn (v := .ty "list") rfl B.list bt_list rfl) pa_nil))) (nomark _))))) pss_never pss_nil) (pss_cons (ps_if (pt_not (pt_val (pe_callB call_isiT rfl B.isinstance bt_isinstance (pa_cons (pv 1) (pa_cons (pe_tup (pa_cons (pe_bltn (v := .ty "tuple") rfl B.tuple bt_tuple rfl) (pa_cons (pe_bltn (v := .ty "list") rfl B.list bt_list rfl) pa_nil))) pa_nil))))) pss_never pss_nil) (pss_one (ps_ret (pe_and (pe_cmpR op_eq (pe_callB call_len_seq rfl B.len bt_len (pa_cons (pv 0) pa_nil)) (pe_callB call_len_seq rfl B.len bt_len (pa_cons (pv 1) pa_nil)) (nomark _)) (pe_one (pe_callB (cr_all rfl) rfl B.all bt_all (pa_cons (pe_lc (own := [("_law_k", 2)]) (g := gName 2) (tt := tYes) rfl sc_like.nd (pi_range1 rfl B.range (pa_cons (pe_callB call_len_seq rfl B.len bt_len (pa_cons (pv 1) pa_nil)) pa_nil)) (blkOk_by (own := [("_law_k", 2)]) (N := ["_law_found", "_law_due", "_law_k"]) (sc := defScope s_like) (by decide +kernel)) (fun _ _ _ _ _ => pg_name (i := 2) sc_like.nd rfl (Or.inl rfl)) (fun _ _ _ _ _ => pts_nil) (fun _ _ _ _ _ => (pe_cal c_like hr (pa_cons (pe_ix (r := rIxT K) ix_tup (pv 0) (pv 2) (fun _ _ => rfl)) (pa_cons (pe_ix (r := rIxT K) ix_tup (pv 1) (pv 2) (fun _ _ => rfl)) pa_nil)) (Nat.le_refl _)))) pa_nil))))))))), ?_⟩
    refine ⟨_, rfl, _, _, _, _, _, rfl, .ty _, .base (TyOf.tup hq), kit_ty (by decide +kernel : kitB "tuple" "dict" = some false), _, rfl, iteF ?_⟩
    refine ⟨_, rfl, _, _, _, _, _, rfl, .ty _, .base (TyOf.tup hq), kit_ty (by decide +kernel : kitB "tuple" "tuple" = some true), _, rfl, _, _, _, _, _, rfl, .ty _, .base (TyOf.tup hp), kit_ty (by decide +kernel : kitB "tuple" "tuple" = some true), rfl, _, rfl, iteF ?_⟩
    refine ⟨_, rfl, _, _, _, _, _, rfl, .ty _, .base (TyOf.tup hq), kit_ty (by decide +kernel : kitB "tuple" "list" = some false), _, rfl, _, _, _, _, _, rfl, .ty _, .base (TyOf.tup hp), kit_ty (by decide +kernel : kitB "tuple" "list" = some false), rfl, _, rfl, iteF ?_⟩
    refine ⟨_, rfl, sz (by decide : 2 ≤ 100000), fun p1 hp1 => ?_⟩
    have g1 := same_new hp1 (.tup [.ty "tuple", .ty "list"])
    have hp' := g1 _ _ hp
    have hq' := g1 _ _ hq
    refine ⟨_, p1, _, _, _, true, rfl, upd_same, .cons (.ty _) (.cons (.ty _) .nil), .base (TyOf.tup hq'), kitAny_cons (kit_ty (by decide +kernel : kitB "tuple" "tuple" = some true)) (fun z => nomatch z) (fun _ => rfl), _, rfl, iteF ?_⟩
    refine ⟨_, rfl, p, xs, rfl, .inr (SqT.of hp'), _, rfl, q0, ys, rfl, .inr (SqT.of hq'), rfl, _, rfl, ?_⟩
    have el : V.int (xs.length : Int) = V.int (ys.length : Int) := by rw [hlen]
    refine if_pos' (decide_eq_true el) ?_
    refine ⟨_, rfl, q0, ys, rfl, .inr (SqT.of hq'), _, rfl, by omega, by omega, fun D hD => ?_⟩
    have en : ((ys.length : Int)).toNat = ys.length := by omega
    refine lc_range (lo := 0) (n := ((ys.length : Int)).toNat) (fun i H' => Same (upd H p1 (.tup [.ty "tuple", .ty "list"])) H' ∧ H' D = some (.lst ((List.replicate i true).map V.bl))) ?_ ?_ ?_
    · exact ⟨same_new hD _, upd_same⟩
    · rintro i H' hi ⟨sm, hd'⟩
      refine ⟨rfl, lc_yes ?_⟩
      have hi1 : i < xs.length := by omega
      have hi2 : i < ys.length := by omega
      refine ⟨_, rfl, _, rfl, p, xs, _, _, rfl, rfl, SqT.of (sm _ _ hp'), at_of (by omega) (List.getElem?_eq_getElem hi1), _, rfl, _, rfl, q0, ys, _, _, rfl, rfl, SqT.of (sm _ _ hq'), at_of (by omega) (List.getElem?_eq_getElem hi2), ?_⟩
      refine ⟨_, _, rfl, (hall i _ _ (List.getElem?_eq_getElem hi1) (List.getElem?_eq_getElem hi2)).same (g1.trans sm), fun H2 s2 => ?_⟩
      refine ⟨_, s2 _ _ hd', ?_, ?_, ?_⟩
      · rw [List.length_map, List.length_replicate]
        exact Nat.lt_of_lt_of_le (by omega : i < 100000) (sz (Nat.le_refl _))
      · exact fun a o e => by rw [upd_ne (ne_of_none e hD)]; exact s2 _ _ (sm _ _ e)
      · rw [upd_same, List.replicate_succ', List.map_append]
        rfl
    · rintro H' ⟨sm, hd'⟩
      refine ⟨D, _, rfl, SqL.of hd', ?_⟩
      have ea : (List.replicate ((ys.length : Int)).toNat true).all id = true := by simp
      rw [ea]
      exact q _ (g1.trans sm)
  ·
    refine ⟨_, (pss_cons (ps_if (pt_val (pe_callB call_isi rfl B.isinstance bt_isinstance (pa_cons (pv 1) (pa_cons (pe_bltn (v := .ty "dict") rfl B.dict bt_dict rfl) pa_nil)))) pss_never pss_nil) (pss_cons (ps_if (PW.pt (pw_or (pt_cmpR op_ne (pe_callB call_isi rfl B.isinstance bt_isinstance (pa_cons (pv 1) (pa_cons (pe_bltn (v := .ty "tuple") rfl B.tuple bt_tuple rfl) pa_nil))) (pe_callB call_isi rfl B.isinstance bt_isinstance (pa_cons (pv 0) (pa_cons (pe_bltn (v := .ty "tuple") rfl B.tuple bt_tuple rfl) pa_nil))) (nomark _)) (pw_or1 (pt_cmpR op_ne (pe_callB call_isi rfl B.isinstance bt_isinstance (pa_cons (pv 1) (pa_cons (pe_bltn (v := .ty "list") rfl B.list bt_list rfl) pa_nil))) (pe_callB call_isi rfl B.isinstance bt_isinstance (pa_cons (pv 0) (pa_cons (pe_bltn (v := .ty "list") rfl B.list bt_list rfl) pa_nil))) (nomark _))))) pss_never pss_nil) (pss_cons (ps_if (pt_not (pt_val (pe_callB call_isiT rfl B.isinstance bt_isinstance (pa_cons (pv 1) (pa_cons (pe_tup (pa_cons (pe_bltn (v := .ty "tuple") rfl B.tuple bt_tuple rfl) (pa_cons (pe_bltn (v := .ty "list") rfl B.list bt_list rfl) pa_nil))) pa_nil))))) pss_never pss_nil) (pss_one (ps_ret (pe_and (pe_cmpR op_eq (pe_callB call_len_seq rfl B.len bt_len (pa_cons (pv 0) pa_nil)) (pe_callB call_len_seq rfl B.len bt_len (pa_cons (pv 1) pa_nil)) (nomark _)) (pe_one (pe_callB (cr_all rfl) rfl B.all bt_all (pa_cons (pe_lc (own := [("_law_k", 2)]) (g := gName 2) (tt := tYes) rfl sc_like.nd (pi_range1 rfl B.range (pa_cons (pe_callB call_len_seq rfl B.len bt_len (pa_cons (pv 1) pa_nil)) pa_nil)) (blkOk_by (own := [("_law_k", 2)]) (N := ["_law_found", "_law_due", "_law_k"]) (sc := defScope s_like) (by decide +kernel)) (fun _ _ _ _ _ => pg_name (i := 2) sc_like.nd rfl (Or.inl rfl)) (fun _ _ _ _ _ => pts_nil) (fun _ _ _ _ _ => (pe_cal c_like hr (pa_cons (pe_ix (r := rIxL K) ix_list (pv 0) (pv 2) (fun _ _ => rfl)) (pa_cons (pe_ix (r := rIxL K) ix_list (pv 1) (pv 2) (fun _ _ => rfl)) pa_nil)) (Nat.le_refl _)))) pa_nil))))))))), ?_⟩
    refine ⟨_, rfl, _, _, _, _, _, rfl, .ty _, .base (TyOf.lst hq), kit_ty (by decide +kernel : kitB "list" "dict" = some false), _, rfl, iteF ?_⟩
    refine ⟨_, rfl, _, _, _, _, _, rfl, .ty _, .base (TyOf.lst hq), kit_ty (by decide +kernel : kitB "list" "tuple" = some false), _, rfl, _, _, _, _, _, rfl, .ty _, .base (TyOf.lst hp), kit_ty (by decide +kernel : kitB "list" "tuple" = some false), rfl, _, rfl, iteF ?_⟩
    refine ⟨_, rfl, _, _, _, _, _, rfl, .ty _, .base (TyOf.lst hq), kit_ty (by decide +kernel : kitB "list" "list" = some true), _, rfl, _, _, _, _, _, rfl, .ty _, .base (TyOf.lst hp), kit_ty (by decide +kernel : kitB "list" "list" = some true), rfl, _, rfl, iteF ?_⟩
    refine ⟨_, rfl, sz (by decide : 2 ≤ 100000), fun p1 hp1 => ?_⟩
    have g1 := same_new hp1 (.tup [.ty "tuple", .ty "list"])
    have hp' := g1 _ _ hp
    have hq' := g1 _ _ hq
    refine ⟨_, p1, _, _, _, true, rfl, upd_same, .cons (.ty _) (.cons (.ty _) .nil), .base (TyOf.lst hq'), kitAny_cons (kit_ty (by decide +kernel : kitB "list" "tuple" = some false)) (fun _ => kitAny_cons (kit_ty (by decide +kernel : kitB "list" "list" = some true)) (fun z => nomatch z) (fun _ => rfl)) (fun z => nomatch z), _, rfl, iteF ?_⟩
    refine ⟨_, rfl, p, xs, rfl, .inl (SqL.of hp'), _, rfl, q0, ys, rfl, .inl (SqL.of hq'), rfl, _, rfl, ?_⟩
    have el : V.int (xs.length : Int) = V.int (ys.length : Int) := by rw [hlen]
    refine if_pos' (decide_eq_true el) ?_
    refine ⟨_, rfl, q0, ys, rfl, .inl (SqL.of hq'), _, rfl, by omega, by omega, fun D hD => ?_⟩
    have en : ((ys.length : Int)).toNat = ys.length := by omega
    refine lc_range (lo := 0) (n := ((ys.length : Int)).toNat) (fun i H' => Same (upd H p1 (.tup [.ty "tuple", .ty "list"])) H' ∧ H' D = some (.lst ((List.replicate i true).map V.bl))) ?_ ?_ ?_
    · exact ⟨same_new hD _, upd_same⟩
    · rintro i H' hi ⟨sm, hd'⟩
      refine ⟨rfl, lc_yes ?_⟩
      have hi1 : i < xs.length := by omega
      have hi2 : i < ys.length := by omega
      refine ⟨_, rfl, _, rfl, p, xs, _, _, rfl, rfl, SqL.of (sm _ _ hp'), at_of (by omega) (List.getElem?_eq_getElem hi1), _, rfl, _, rfl, q0, ys, _, _, rfl, rfl, SqL.of (sm _ _ hq'), at_of (by omega) (List.getElem?_eq_getElem hi2), ?_⟩
      refine ⟨_, _, rfl, (hall i _ _ (List.getElem?_eq_getElem hi1) (List.getElem?_eq_getElem hi2)).same (g1.trans sm), fun H2 s2 => ?_⟩
      refine ⟨_, s2 _ _ hd', ?_, ?_, ?_⟩
      · rw [List.length_map, List.length_replicate]
        exact Nat.lt_of_lt_of_le (by omega : i < 100000) (sz (Nat.le_refl _))
      · exact fun a o e => by rw [upd_ne (ne_of_none e hD)]; exact s2 _ _ (sm _ _ e)
      · rw [upd_same, List.replicate_succ', List.map_append]
        rfl
    · rintro H' ⟨sm, hd'⟩
      refine ⟨D, _, rfl, SqL.of hd', ?_⟩
      have ea : (List.replicate ((ys.length : Int)).toNat true).all id = true := by simp
      rw [ea]
      exact q _ (g1.trans sm)

theorem ok_like (B : Blt mg) (F : Fun K "_law_like" "_law_like" s_like f fd) (b : Binds K fd ["_law_found", "_law_due"] []) (m : mg "_law_like" = some (.ref f)) : ∀ n : Nat, FnOk P w K mg base CX0 (n + 1) f fd ["_law_found", "_law_due"] (spLike n)
  | 0 => ok_like0 B F
  | n + 1 => ok_likeS B F ⟨f, fd, ok_like B F b m n, b, F.kp, m⟩
end
end DM

namespace DM
open PySem L2
def spOver : Sp := fun vs H Q _ => ∃ (b l : Addr), vs = [.ref b] ∧ BagAt H b l ∧ ∀ (r : Int) (H' : Hp), BagAt H' b l → But b H H' → -1000000000 < r → r < 1000000000 → Q (.int r) H'
section
variable {P : Program} {w : World} {K : PySem.W.Frag} {mg : Str → Option Value} {base : Heap} {f : Addr} {fd : FuncData}
abbrev s_over : Stmt := top 11
theorem sc_over : FnScope ["_law_bag_here", "_law_far"] ["_law_bag_here"] (defScope s_over) := ⟨rfl, rfl, rfl, by decide +kernel, rfl, by decide +kernel, by decide +kernel⟩
theorem ok_over (c_pull : Cal P w K mg base 1 "_law_pull" ["_law_bag_here", "_law_amount"] spPull) (c_of : Cal P w K mg base 2 "_law_of" ["_law_bag_here", "_law_things"] spOf) (F : Fun K "_law_over" "_law_over" s_over f fd) : FnOk P w K mg base CX0 3 f fd ["_law_bag_here"] spOver := by
  refine F.ok sc_over (fun vs H Q E h => ?_) (fun cdv A outer s H vs Q E hr h => ?_)
  · obtain ⟨b, l, rfl, _⟩ := h
    rfl
  obtain ⟨b, l, rfl, hB, q⟩ := h
  refine ⟨_, (pss_cons (ps_set (i := 1) sc_over.nd rfl (Or.inl rfl) (pe_cal c_of hr (pa_cons (pv 0) (pa_cons (pe_lst (pa_cons pe_int (pa_cons pe_int (pa_cons pe_int (pa_cons (pe_op op_pow pe_int pe_int) pa_nil))))) pa_nil))))
    (pss_one (ps_ret (pe_op op_add (pe_op op_sub (pe_cal c_pull hr (pa_cons (pv 0) (pa_cons (pe_op op_sub (pe_op op_mul pe_int (pv 1)) pe_int) pa_nil))) (pv 1)) pe_int)))), ?_⟩
  refine ⟨_, rfl, _, _, rfl, rfl, ⟨by decide, by decide, by decide⟩, sz (by decide : 4 ≤ 100000), fun p0 n0 => ?_⟩
  have g0 := same_new n0 (.lst [.int 3, .int 12, .int 100, .int (10 ^ (9 : Int).toNat)])
  obtain ⟨ys, eb⟩ := hB.hasB
  refine ⟨b, _, p0, _, rfl, hB.same g0, upd_same, Ne.symm (ne_of_none eb n0), by show 0 < 4; decide, by show 4 ≤ 1000; decide, fun v H1 hB1 bt1 hv => ?_⟩
  obtain ⟨m, rfl, m0, m1⟩ : ∃ m : Int, v = .int m ∧ 3 ≤ m ∧ m ≤ 1000000000 := by
    simp only [List.mem_cons, List.not_mem_nil, or_false] at hv
    rcases hv with rfl | rfl | rfl | rfl
    · exact ⟨3, rfl, by decide, by decide⟩
    · exact ⟨12, rfl, by decide, by decide⟩
    · exact ⟨100, rfl, by decide, by decide⟩
    · exact ⟨_, rfl, by decide, by decide⟩
  refine ⟨_, rfl, _, rfl, _, _, rfl, rfl, .inl ⟨by decide, by decide⟩, _, _, rfl, rfl, b, _, _, rfl, hB1, by omega, by omega, fun r H2 hB2 bt2 r0 r1 => ?_⟩
  refine ⟨_, rfl, _, _, rfl, rfl, _, _, rfl, rfl, ?_⟩
  exact q _ _ hB2 (((But.of g0).trans bt1).trans bt2) (by omega) (by omega)
end
end DM

namespace DM
open PySem L2
/-! ### the greatest measure -/
theorem gcd_step {x y : Int} (hx : 0 ≤ x) (hy : 0 < y) : Int.gcd y (x % y) = Int.gcd x y := by
  have e1 : x = (x.toNat : Int) := by omega
  have e2 : y = (y.toNat : Int) := by omega
  rw [e1, e2, ← Int.natCast_emod, Int.gcd_natCast_natCast, Int.gcd_natCast_natCast, Nat.gcd_comm x.toNat, Nat.gcd_rec y.toNat x.toNat, Nat.gcd_comm (x.toNat % y.toNat)]
theorem gcd_end {x : Int} (hx : 0 ≤ x) : ((Int.gcd x 0 : Nat) : Int) = x := by
  rw [Int.gcd_zero_right]
  omega
theorem gcd_abs (a b : Int) : Int.gcd (if a < 0 then -a else a) (if b < 0 then -b else b) = Int.gcd a b := by
  split <;> split <;> simp only [Int.neg_gcd, Int.gcd_neg]
theorem gcd_abs1 (a b : Int) : Int.gcd (if a < 0 then -a else a) b = Int.gcd a b := by
  split <;> simp only [Int.neg_gcd]
theorem gcd_pos {a b : Int} (h : b ≠ 0) : 0 < ((Int.gcd a b : Nat) : Int) := by
  have := Int.gcd_pos_of_ne_zero_right a h
  omega
def spGcd : Sp := fun vs H Q _ => ∃ a b : Int, vs = [.int a, .int b] ∧ 0 ≤ a ∧ 0 ≤ b ∧ Q (.int (Int.gcd a b)) H
def spCom : Sp := fun vs H Q _ => ∃ a b : Int, vs = [.int a, .int b] ∧ Q (.int (Int.gcd a b)) H
def lowA (a b : Int) : Int := (if b < 0 then -a else a) / (Int.gcd a b : Nat)
def lowB (a b : Int) : Int := (if b < 0 then -b else b) / (Int.gcd a b : Nat)
/-- the part of two numbers, as a new pair -/
def spLow : Sp := fun vs H Q _ => ∃ a b : Int, vs = [.int a, .int b] ∧ b ≠ 0 ∧ b.natAbs < 4611686018427387904 ∧ ∀ (p : Addr) (H' : Hp), Same H H' → H' p = some (.tup [.int (lowA a b), .int (lowB a b)]) → Q (.ref p) H'
def spLowP : Sp := fun vs H Q _ => ∃ a b : Int, vs = [.int a, .int b] ∧ 0 < b ∧ b.natAbs < 4611686018427387904 ∧ ∀ (p : Addr) (H' : Hp), Same H H' → H' p = some (.tup [.int (lowA a b), .int (lowB a b)]) → Q (.ref p) H'
theorem gcd_le {a b : Int} (h : b ≠ 0) : ((Int.gcd a b : Nat) : Int) ≤ (b.natAbs : Int) := by
  have h1 : Int.gcd a b ≤ b.natAbs := Nat.le_of_dvd (by omega) (Nat.gcd_dvd_right a.natAbs b.natAbs)
  omega
theorem gcd_wide {i a b : Int} (h : b ≠ 0) (hb : b.natAbs < 4611686018427387904) : CDivW i ((Int.gcd a b : Nat) : Int) := by
  have h1 := gcd_le (a := a) h
  exact wide_div (b := 62) (gcd_pos h) (by omega) (by decide) (by decide)
section
variable {P : Program} {w : World} {K : PySem.W.Frag} {mg : Str → Option Value} {base : Heap} {f : Addr} {fd : FuncData}
abbrev s_common : Stmt := top 9
theorem sc_common : FnScope ["_law_one", "_law_other"] ["_law_one", "_law_other"] (defScope s_common) := ⟨rfl, rfl, rfl, by decide +kernel, rfl, by decide +kernel, by decide +kernel⟩
theorem ok_common (B : Blt mg) (F : Fun K "_law_common" "_law_common" s_common f fd) : FnOk P w K mg base CX0 1 f fd ["_law_one", "_law_other"] spCom := by
  refine F.ok sc_common (fun vs H Q E h => ?_) (fun cdv A outer s H vs Q E hr h => ?_)
  · obtain ⟨a, b, rfl, _⟩ := h
    rfl
  obtain ⟨a, b, rfl, q⟩ := h
  refine ⟨_, (pss_cons (ps_par (i := 0) (j := 1) (by rfl) sc_common.nd rfl rfl (by decide) rfl rfl (pa_cons (pe_callB call_abs rfl B.abs bt_abs (pa_cons (pv 0) pa_nil)) (pa_cons (pe_callB call_abs rfl B.abs bt_abs (pa_cons (pv 1) pa_nil)) pa_nil)) (by rfl))
    (pss_cons (ps_while PassesOwn.never (pt_cmpR op_gt (pv 1) pe_int (nomark _))
    (pss_one (ps_par (i := 0) (j := 1) (by rfl) sc_common.nd rfl rfl (by decide) rfl rfl (pa_cons (pv 1) (pa_cons (pe_op op_mod (pv 0) (pv 1)) pa_nil)) (by rfl))))
    (pss_one (ps_ret (pv 0))))), ?_⟩
  refine ⟨_, rfl, _, rfl, _, rfl, _, rfl, _, _, rfl, ?_⟩
  have ha : 0 ≤ (if a < 0 then -a else a) := by split <;> omega
  have hb : 0 ≤ (if b < 0 then -b else b) := by split <;> omega
  dsimp only
  refine while_by (fun σ H' => H' = H ∧ ∃ x y : Int, σ = [some (.int x), some (.int y)] ∧ 0 ≤ x ∧ 0 ≤ y ∧ Int.gcd x y = Int.gcd a b) (fun σ _ => match σ with | [_, some (.int y)] => y.toNat | _ => 0) ⟨rfl, _, _, rfl, ha, hb, gcd_abs a b⟩ ?_ ?_
  · rintro σ H' ⟨rfl, x, y, rfl, hx, hy, hg⟩
    refine ⟨_, rfl, _, _, rfl, rfl, _, rfl, ?_⟩
    refine ite2 (fun c => ?_) (fun c => ?_)
    · have hy' : 0 < y := of_decide_eq_true c
      refine ⟨_, rfl, _, rfl, _, rfl, _, _, rfl, rfl, hy', _, _, rfl, ?_⟩
      refine ⟨⟨rfl, y, x % y, rfl, hy, Int.emod_nonneg _ (by omega), ?_⟩, ?_⟩
      · rw [gcd_step hx hy']
        exact hg
      · show (x % y).toNat < y.toNat
        have := Int.emod_lt_of_pos x hy'
        omega
    · have hy' : ¬ y > 0 := of_decide_eq_false (Bool.eq_false_iff.mpr c)
      have c' : y = 0 := by omega
      subst c'
      refine ⟨_, rfl, ?_⟩
      have e := gcd_end hx
      rw [hg] at e
      rw [e] at q
      exact q
  · rintro σ H Q Q' hq ⟨v, h1, i, j, e1, e2, k, h3, h4⟩
    exact ⟨v, h1, i, j, e1, e2, k, h3, hq _ _ h4⟩
abbrev s_low : Stmt := top 10
theorem sc_low : FnScope ["_law_over_here", "_law_under", "_law_both"] ["_law_over_here", "_law_under"] (defScope s_low) := ⟨rfl, rfl, rfl, by decide +kernel, rfl, by decide +kernel, by decide +kernel⟩
theorem ok_low (c_common : Cal P w K mg base 1 "_law_common" ["_law_one", "_law_other"] spCom) (F : Fun K "_law_low" "_law_low" s_low f fd) : FnOk P w K mg base CX0 2 f fd ["_law_over_here", "_law_under"] spLowP := by
  refine F.ok sc_low (fun vs H Q E h => ?_) (fun cdv A outer s H vs Q E hr h => ?_)
  · obtain ⟨a, b, rfl, _⟩ := h
    rfl
  obtain ⟨a, b, rfl, hb0, hb1, q⟩ := h
  refine ⟨_, (pss_cons (ps_set (i := 2) sc_low.nd rfl (Or.inl rfl) (pe_cal c_common hr (pa_cons (pv 0) (pa_cons (pv 1) pa_nil))))
    (pss_cons (ps_if (pt_cmpR op_lt (pv 1) pe_int (nomark _))
    (pss_one (ps_set (i := 2) sc_low.nd rfl (Or.inl rfl) (pe_op op_sub pe_int (pv 2))))
    pss_nil)
    (pss_one (ps_ret (pe_tup (pa_cons (pe_op op_fdivW (pv 0) (pv 2)) (pa_cons (pe_op op_fdivW (pv 1) (pv 2)) pa_nil))))))), ?_⟩
  refine ⟨_, rfl, _, rfl, a, b, rfl, ?_⟩
  refine ⟨_, rfl, _, _, rfl, rfl, _, rfl, ?_⟩
  have c : ¬ b < 0 := by omega
  refine iteDF c ?_
  refine ⟨_, rfl, _, rfl, _, _, rfl, rfl, gcd_wide (by omega) hb1, _, rfl, _, rfl, _, _, rfl, rfl, gcd_wide (by omega) hb1, sz (by decide : 2 ≤ 100000), fun p hp => ?_⟩
  unfold lowA lowB at q
  rw [if_neg c, if_neg c] at q
  exact q p _ (same_new hp _) upd_same
end
end DM

namespace DM
open PySem L2
def Part (x y : Int) : Prop := -1000000000 ≤ x ∧ x ≤ 1000000000 ∧ 0 < y ∧ y ≤ 1000000000
theorem mul_bd {b d : Int} (h1 : 0 < b) (h2 : b ≤ 1000000000) (h3 : 0 < d) (h4 : d ≤ 1000000000) : 0 < b * d ∧ b * d ≤ 1000000000 * 1000000000 :=
  ⟨Int.mul_pos h1 h3, Int.mul_le_mul h2 h4 (by omega) (by decide)⟩
theorem mul_ne {b d : Int} (h1 : 0 < b) (h2 : b ≤ 1000000000) (h3 : 0 < d) (h4 : d ≤ 1000000000) : b * d ≠ 0 ∧ (b * d).natAbs < 4611686018427387904 := by
  have := mul_bd h1 h2 h3 h4
  omega
theorem low_part {a b : Int} (h1 : -1000000000 < a) (h2 : a < 1000000000) (h3 : 0 < b) (h4 : b ≤ 1000000000) : Part (lowA a b) (lowB a b) := by
  have hg := gcd_pos (a := a) (b := b) (by omega)
  have c : ¬ b < 0 := by omega
  unfold lowA lowB Part
  rw [if_neg c, if_neg c]
  have hd : ((Int.gcd a b : Nat) : Int) ∣ b := Int.gcd_dvd_right ..
  have e1 := Int.ediv_mul_cancel hd
  generalize ((Int.gcd a b : Nat) : Int) = g at *
  refine ⟨?_, ?_, ?_, ?_⟩
  · refine (Int.le_ediv_iff_mul_le hg).mpr ?_
    have : g ≥ 1 := by omega
    have := Int.mul_le_mul_of_nonneg_left this (by decide : (0 : Int) ≤ 1000000000)
    omega
  · refine Int.le_of_lt_add_one ((Int.ediv_lt_iff_lt_mul hg).mpr ?_)
    have : g ≥ 1 := by omega
    have := Int.mul_le_mul_of_nonneg_left this (by decide : (0 : Int) ≤ 1000000000 + 1)
    omega
  · rcases Int.lt_trichotomy (b / g) 0 with z | z | z
    · have := Int.mul_neg_of_neg_of_pos z hg
      omega
    · rw [z] at e1
      omega
    · exact z
  · refine Int.le_of_lt_add_one ((Int.ediv_lt_iff_lt_mul hg).mpr ?_)
    have : g ≥ 1 := by omega
    have := Int.mul_le_mul_of_nonneg_left this (by decide : (0 : Int) ≤ 1000000000 + 1)
    omega
theorem low_sign {n b : Int} (hb : 0 < b) : (lowA n b < 0 ↔ n < 0) ∧ (0 < lowA n b ↔ 0 < n) := by
  have hg := gcd_pos (a := n) (b := b) (by omega)
  have c : ¬ b < 0 := by omega
  unfold lowA
  rw [if_neg c]
  have hd : ((Int.gcd n b : Nat) : Int) ∣ n := Int.gcd_dvd_left ..
  have e1 := Int.ediv_mul_cancel hd
  generalize ((Int.gcd n b : Nat) : Int) = g at *
  rcases Int.lt_trichotomy (n / g) 0 with z | z | z
  · have := Int.mul_neg_of_neg_of_pos z hg
    omega
  · rw [z] at e1
    omega
  · have := Int.mul_pos z hg
    omega
def spPart : Sp := fun vs H Q _ => ∃ (b l : Addr), vs = [.ref b] ∧ BagAt H b l ∧ ∀ (p : Addr) (H' : Hp) (x y : Int), BagAt H' b l → But b H H' → H' p = some (.tup [.int x, .int y]) → Part x y → Q (.ref p) H'
section
variable {P : Program} {w : World} {K : PySem.W.Frag} {mg : Str → Option Value} {base : Heap} {f : Addr} {fd : FuncData}
abbrev s_part : Stmt := top 12
theorem sc_part : FnScope ["_law_bag_here"] ["_law_bag_here"] (defScope s_part) := ⟨rfl, rfl, rfl, by decide +kernel, rfl, by decide +kernel, by decide +kernel⟩
theorem ok_part (c_pull : Cal P w K mg base 1 "_law_pull" ["_law_bag_here", "_law_amount"] spPull) (c_of : Cal P w K mg base 2 "_law_of" ["_law_bag_here", "_law_things"] spOf) (c_over : Cal P w K mg base 3 "_law_over" ["_law_bag_here"] spOver) (c_low : Cal P w K mg base 2 "_law_low" ["_law_over_here", "_law_under"] spLowP) (F : Fun K "_law_part" "_law_part" s_part f fd) : FnOk P w K mg base CX0 4 f fd ["_law_bag_here"] spPart := by
  refine F.ok sc_part (fun vs H Q E h => ?_) (fun cdv A outer s H vs Q E hr h => ?_)
  · obtain ⟨b, l, rfl, _⟩ := h
    rfl
  obtain ⟨b, l, rfl, hB, q⟩ := h
  refine ⟨_, (pss_one (ps_ret (pe_cal c_low hr (pa_cons (pe_cal c_over hr (pa_cons (pv 0) pa_nil)) (pa_cons (pe_op op_add pe_int (pe_cal c_pull hr (pa_cons (pv 0) (pa_cons (pe_cal c_of hr (pa_cons (pv 0) (pa_cons (pe_lst (pa_cons pe_int (pa_cons pe_int (pa_cons pe_int (pa_cons (pe_op op_sub (pe_op op_pow pe_int pe_int) pe_int) pa_nil))))) pa_nil))) pa_nil)))) pa_nil))))), ?_⟩
  refine ⟨_, rfl, b, _, rfl, hB, fun x H1 hB1 bt1 x0 x1 => ?_⟩
  refine ⟨_, rfl, _, rfl, _, _, rfl, rfl, ⟨by decide, by decide, by decide⟩, _, _, rfl, rfl, sz (by decide : 4 ≤ 100000), fun p0 n0 => ?_⟩
  have g0 := same_new n0 (.lst [.int 2, .int 6, .int 40, .int (10 ^ (9 : Int).toNat - 1)])
  refine ⟨b, _, p0, _, rfl, hB1.same g0, upd_same, (hB1.new n0).1, by show 0 < 4; decide, by show 4 ≤ 1000; decide, fun v H2 hB2 bt2 hv => ?_⟩
  obtain ⟨m, rfl, m0, m1⟩ : ∃ m : Int, v = .int m ∧ 2 ≤ m ∧ m ≤ 999999999 := by
    simp only [List.mem_cons, List.not_mem_nil, or_false] at hv
    rcases hv with rfl | rfl | rfl | rfl
    · exact ⟨2, rfl, by decide, by decide⟩
    · exact ⟨6, rfl, by decide, by decide⟩
    · exact ⟨40, rfl, by decide, by decide⟩
    · exact ⟨_, rfl, by decide, by decide⟩
  refine ⟨b, _, _, rfl, hB2, by omega, by omega, fun r H3 hB3 bt3 r0 r1 => ?_⟩
  refine ⟨_, _, rfl, rfl, _, _, rfl, by omega, by omega, fun p H4 sm hp => ?_⟩
  exact q p H4 _ _ (hB3.same sm) (((bt1.trans (But.of g0)).trans (bt2.trans bt3)).trans (But.of sm)) hp (low_part x0 x1 (by omega) (by omega))
end
end DM

namespace DM
open PySem L2
def nearI (a b : Int) : Int := (2 * a + b) / (2 * b)
theorem near_ok {a b : Int} (hb : 0 < b) : (2 * nearI a b - 1) * b ≤ 2 * a ∧ 2 * a < (2 * nearI a b + 1) * b := by
  unfold nearI
  have h1 := Int.mul_ediv_self_le (x := 2 * a + b) (k := 2 * b) (by omega)
  have h2 := Int.lt_mul_ediv_self_add (x := 2 * a + b) (k := 2 * b) (by omega)
  generalize (2 * a + b) / (2 * b) = n at *
  have e : 2 * b * n = 2 * (n * b) := by rw [Int.mul_assoc, Int.mul_comm b n]
  have e1 : (2 * n - 1) * b = 2 * (n * b) - b := by rw [Int.sub_mul, Int.mul_assoc, Int.one_mul]
  have e2 : (2 * n + 1) * b = 2 * (n * b) + b := by rw [Int.add_mul, Int.mul_assoc, Int.one_mul]
  rw [e] at h1 h2
  rw [e1, e2]
  omega
def spNear : Sp := fun vs H Q _ => ∃ (p : Addr) (a b : Int), vs = [.ref p] ∧ H p = some (.tup [.int a, .int b]) ∧ Part a b ∧ Q (.int (nearI a b)) H
section
variable {P : Program} {w : World} {K : PySem.W.Frag} {mg : Str → Option Value} {base : Heap} {f : Addr} {fd : FuncData}
abbrev s_nearest : Stmt := top 1
theorem sc_nearest : FnScope ["one"] ["one"] (defScope s_nearest) := ⟨rfl, rfl, rfl, by decide +kernel, rfl, by decide +kernel, by decide +kernel⟩
theorem ok_nearest (F : Fun K "nearest" "nearest" s_nearest f fd) : FnOk P w K mg base CX0 1 f fd ["one"] spNear := by
  refine F.ok sc_nearest (fun vs H Q E h => ?_) (fun cdv A outer s H vs Q E hr h => ?_)
  · obtain ⟨p, a, b, rfl, _⟩ := h
    rfl
  obtain ⟨p, a, b, rfl, hp, k, q⟩ := h
  refine ⟨_, (pss_one (ps_ret (pe_op op_fdivW (pe_op op_add (pe_op op_mul pe_int (pe_ix ix_tup (pv 0) pe_int (fun _ _ => rfl))) (pe_ix ix_tup (pv 0) pe_int (fun _ _ => rfl))) (pe_op op_mul pe_int (pe_ix ix_tup (pv 0) pe_int (fun _ _ => rfl)))))), ?_⟩
  unfold Part at k
  refine ⟨_, rfl, p, _, _, _, rfl, rfl, SqT.of hp, rfl, _, _, rfl, rfl, .inl ⟨by decide, by decide⟩, _, rfl, p, _, _, _, rfl, rfl, SqT.of hp, rfl, _, _, rfl, rfl, ?_⟩
  refine ⟨_, rfl, p, _, _, _, rfl, rfl, SqT.of hp, rfl, _, _, rfl, rfl, .inl ⟨by decide, by decide⟩, _, _, rfl, rfl, wide_div (b := 62) (by omega) (by omega) (by decide) (by decide), ?_⟩
  exact q
abbrev s_about : Stmt := top 13
theorem sc_about : FnScope ["_law_bag_here", "_law_whole", "_law_far", "_law_some"] ["_law_bag_here"] (defScope s_about) := ⟨rfl, rfl, rfl, by decide +kernel, rfl, by decide +kernel, by decide +kernel⟩
theorem ok_about (c_pull : Cal P w K mg base 1 "_law_pull" ["_law_bag_here", "_law_amount"] spPull) (c_of : Cal P w K mg base 2 "_law_of" ["_law_bag_here", "_law_things"] spOf) (c_low : Cal P w K mg base 2 "_law_low" ["_law_over_here", "_law_under"] spLowP) (c_part : Cal P w K mg base 4 "_law_part" ["_law_bag_here"] spPart) (F : Fun K "_law_about" "_law_about" s_about f fd) : FnOk P w K mg base CX0 5 f fd ["_law_bag_here"] spPart := by
  refine F.ok sc_about (fun vs H Q E h => ?_) (fun cdv A outer s H vs Q E hr h => ?_)
  · obtain ⟨b, l, rfl, _⟩ := h
    rfl
  obtain ⟨b, l, rfl, hB, q⟩ := h
  refine ⟨_, (pss_cons (ps_par (i := 1) (j := 2) (by rfl) sc_about.nd rfl rfl (by decide) rfl rfl (pa_cons (pe_op op_sub (pe_cal c_pull hr (pa_cons (pv 0) (pa_cons pe_int pa_nil))) pe_int) (pa_cons (pe_op op_add pe_int (pe_cal c_pull hr (pa_cons (pv 0) (pa_cons (pe_op op_pow pe_int pe_int) pa_nil)))) pa_nil)) (by rfl))
    (pss_cons (ps_set (i := 3) sc_about.nd rfl (Or.inl rfl) (pe_lst (pa_cons (pe_tup (pa_cons (pe_op op_add (pe_op op_mul pe_int (pv 1)) pe_int) (pa_cons pe_int pa_nil))) (pa_cons (pe_tup (pa_cons (pv 1) (pa_cons pe_int pa_nil))) (pa_cons (pe_cal c_low hr (pa_cons (pe_op op_sub (pe_op op_mul (pe_op op_add (pe_op op_mul pe_int (pv 1)) pe_int) (pv 2)) pe_int) (pa_cons (pe_op op_mul pe_int (pv 2)) pa_nil))) pa_nil)))))
    (pss_one (ps_ret (pe_cal c_of hr (pa_cons (pv 0) (pa_cons (pe_op op_cat (pv 3) (pe_lst (pa_cons (pe_cal c_low hr (pa_cons (pe_op op_add (pe_op op_mul (pe_op op_add (pe_op op_mul pe_int (pv 1)) pe_int) (pv 2)) pe_int) (pa_cons (pe_op op_mul pe_int (pv 2)) pa_nil))) (pa_cons (pe_cal c_part hr (pa_cons (pv 0) pa_nil)) pa_nil)))) pa_nil))))))), ?_⟩
  refine ⟨_, rfl, b, _, _, rfl, hB, by decide, by decide, fun r H1 hB1 bt1 r0 r1 => ?_⟩
  refine ⟨_, _, rfl, rfl, _, rfl, _, _, rfl, rfl, ⟨by decide, by decide, by decide⟩, b, _, _, rfl, hB1, by decide, by decide, fun u H2 hB2 bt2 u0 u1 => ?_⟩
  have u1' : u < 1000000 := u1
  refine ⟨_, _, rfl, rfl, _, _, rfl, ?_⟩
  have hm : -81000081 ≤ (2 * (r - 40) + 1) * (2 + u) ∧ (2 * (r - 40) + 1) * (2 + u) ≤ 81000081 := by
    constructor
    · have := Int.mul_le_mul_of_nonneg_right (c := 2 + u) (show -79 ≤ 2 * (r - 40) + 1 by omega) (by omega)
      omega
    · have := Int.mul_le_mul_of_nonneg_right (c := 2 + u) (show 2 * (r - 40) + 1 ≤ 81 by omega) (by omega)
      omega
  -- the first three
  refine ⟨_, rfl, _, _, rfl, rfl, .inl ⟨by decide, by decide⟩, _, _, rfl, rfl, sz (by decide : 2 ≤ 100000), fun p1 n1 => ?_⟩
  refine ⟨_, rfl, sz (by decide : 2 ≤ 100000), fun p2 n2 => ?_⟩
  refine ⟨_, rfl, _, _, rfl, rfl, .inl ⟨by decide, by decide⟩, _, _, rfl, rfl, _, rfl, _, _, rfl, rfl, .inr ⟨by omega, by omega⟩, _, _, rfl, rfl, ?_⟩
  refine ⟨_, rfl, _, _, rfl, rfl, .inl ⟨by decide, by decide⟩, _, _, rfl, by omega, by omega, fun p3 H3 s3 e3 => ?_⟩
  refine ⟨sz (by decide : 3 ≤ 100000), fun l1 n3 => ?_⟩
  have g1 := same_new n1 (.tup [.int (2 * (r - 40) + 1), .int 2])
  have g2 := same_new n2 (.tup [.int (r - 40), .int 1])
  have g3 := same_new n3 (.lst [.ref p1, .ref p2, .ref p3])
  have gA := g1.trans (g2.trans (s3.trans g3))
  have hB3 := hB2.same gA
  -- the others
  refine ⟨_, rfl, _, rfl, _, rfl, _, _, rfl, rfl, .inl ⟨by decide, by decide⟩, _, _, rfl, rfl, _, rfl, _, _, rfl, rfl, .inr ⟨by omega, by omega⟩, _, _, rfl, rfl, ?_⟩
  refine ⟨_, rfl, _, _, rfl, rfl, .inl ⟨by decide, by decide⟩, _, _, rfl, by omega, by omega, fun p4 H4 s4 e4 => ?_⟩
  refine ⟨_, rfl, b, _, rfl, hB3.same s4, fun p5 H5 x5 y5 hB5 bt5 e5 k5 => ?_⟩
  refine ⟨sz (by decide : 2 ≤ 100000), fun l2 n4 => ?_⟩
  have g4 := same_new n4 (.lst [.ref p4, .ref p5])
  have hl1 : l1 ≠ b := (hB2.same (g1.trans (g2.trans s3)) |>.new n3).1
  have el1 : H5 l1 = some (.lst [.ref p1, .ref p2, .ref p3]) := bt5 _ _ hl1 (s4 _ _ upd_same)
  refine ⟨l1, l2, _, _, rfl, rfl, g4 _ _ el1, upd_same, sz (by decide : 5 ≤ 100000), fun l3 n5 => ?_⟩
  have g5 := same_new n5 (.lst [.ref p1, .ref p2, .ref p3, .ref p4, .ref p5])
  have hB6 := hB5.same (g4.trans g5)
  refine ⟨b, _, l3, _, rfl, hB6, upd_same, ((hB5.same g4).new n5).1, by show 0 < 5; decide, by show 5 ≤ 1000; decide, fun z H7 hB7 bt7 hz => ?_⟩
  have fin : ∀ (p : Addr) (x y : Int), H5 p = some (.tup [.int x, .int y]) → Part x y → Q (.ref p) H7 := fun p x y e k => by
    have e' := (g4.trans g5) _ _ e
    refine q p H7 x y hB7 ?_ (bt7 _ _ (bag_tup hB6 e') e') k
    exact (bt1.trans bt2).trans (((But.of gA).trans ((But.of s4).trans bt5)).trans ((But.of (g4.trans g5)).trans bt7))
  have mid : ∀ (p : Addr) (o : List V), upd H3 l1 (.lst [.ref p1, .ref p2, .ref p3]) p = some (.tup o) → H5 p = some (.tup o) := fun p o e => bt5 _ _ (bag_tup (hB3.same s4) (s4 _ _ e)) (s4 _ _ e)
  have one : ∀ x y : Int, (x = 2 * (r - 40) + 1 ∧ y = 2) ∨ (x = (r - 40) ∧ y = 1) → Part x y := fun x y h => by
    unfold Part
    omega
  simp only [List.mem_cons, List.not_mem_nil, or_false, List.cons_append, List.nil_append] at hz
  rcases hz with rfl | rfl | rfl | rfl | rfl
  · exact fin _ _ _ (mid _ _ (g3 _ _ (s3 _ _ (g2 _ _ upd_same)))) (one _ _ (.inl ⟨rfl, rfl⟩))
  · exact fin _ _ _ (mid _ _ (g3 _ _ (s3 _ _ upd_same))) (one _ _ (.inr ⟨rfl, rfl⟩))
  · exact fin _ _ _ (mid _ _ (g3 _ _ e3)) (low_part (by omega) (by omega) (by omega) (by omega))
  · exact fin _ _ _ (bt5 _ _ (bag_tup (hB3.same s4) e4) e4) (low_part (by omega) (by omega) (by omega) (by omega))
  · exact fin _ _ _ e5 k5
end
end DM

namespace DM
open PySem L2
def spSquare : Sp := fun vs H Q _ => ∃ (p px py : Addr) (a b c d : Int), vs = [.ref p] ∧ H p = some (.tup [.ref px, .ref py]) ∧ H px = some (.tup [.int a, .int b]) ∧ H py = some (.tup [.int c, .int d]) ∧ Part a b ∧ Part c d ∧
  ∀ (r : Addr) (H' : Hp), Same H H' → H' r = some (.tup [.int (nearI a b), .int (nearI c d)]) → Q (.ref r) H'
def Fd (fl p1 p2 : Addr) (n1 n2 : Int) : Nat → Hp → Prop
  | 0, H => H fl = some (.lst [])
  | 1, H => ∃ q1, H fl = some (.lst [.ref q1]) ∧ H q1 = some (.tup [.ref p1, .int n1])
  | _, H => ∃ q1 q2, H fl = some (.lst [.ref q1, .ref q2]) ∧ H q1 = some (.tup [.ref p1, .int n1]) ∧ H q2 = some (.tup [.ref p2, .int n2])
section
variable {P : Program} {w : World} {K : PySem.W.Frag} {mg : Str → Option Value} {base : Heap} {f : Addr} {fd : FuncData}
abbrev s_square_of : Stmt := top 3
theorem sc_square_of : FnScope ["place", "x", "y"] ["place"] (defScope s_square_of) := ⟨rfl, rfl, rfl, by decide +kernel, rfl, by decide +kernel, by decide +kernel⟩
theorem ok_square_of (c_nearest : Cal P w K mg base 1 "nearest" ["one"] spNear) (F : Fun K "square_of" "square_of" s_square_of f fd) : FnOk P w K mg base CX0 2 f fd ["place"] spSquare := by
  refine F.ok sc_square_of (fun vs H Q E h => ?_) (fun cdv A outer s H vs Q E hr h => ?_)
  · obtain ⟨p, px, py, a, b, c, d, rfl, _⟩ := h
    rfl
  obtain ⟨p, px, py, a, b, c, d, rfl, hp, hx, hy, k1, k2, q⟩ := h
  refine ⟨_, (pss_cons (ps_asg (pv 0) (pg_tup rfl (pgs_cons (pg_name (i := 1) sc_square_of.nd rfl (Or.inl rfl)) (pgs_cons (pg_name (i := 2) sc_square_of.nd rfl (Or.inl rfl)) pgs_nil))))
    (pss_one (ps_ret (pe_tup (pa_cons (pe_cal c_nearest hr (pa_cons (pv 1) pa_nil)) (pa_cons (pe_cal c_nearest hr (pa_cons (pv 2) pa_nil)) pa_nil)))))), ?_⟩
  refine ⟨_, rfl, p, _, rfl, SqT.of hp, rfl, _, _, rfl, _, _, rfl, rfl, ?_⟩
  refine ⟨_, rfl, px, a, b, rfl, hx, k1, ?_⟩
  refine ⟨_, rfl, py, c, d, rfl, hy, k2, ?_⟩
  exact ⟨sz (by decide : 2 ≤ 100000), fun r hr' => q r _ (same_new hr' _) upd_same⟩
abbrev s_law : Stmt := top 14
theorem sc_law : FnScope ["_law_script", "_law_bag_here", "_law_turn", "_law_found", "_law_part_here", "_law_number", "_law_told"] ["_law_script"] (defScope s_law) := ⟨rfl, rfl, rfl, by decide +kernel, rfl, by decide +kernel, by decide +kernel⟩
theorem ok_law (B : Blt mg) (c_bag : Cal P w K mg base 1 "_law_bag" ["_law_script"] (spBag K)) (c_like : Cal P w K mg base 2 "_law_like" ["_law_found", "_law_due"] (spLike 1)) (c_about : Cal P w K mg base 5 "_law_about" ["_law_bag_here"] spPart) (c_nearest : Cal P w K mg base 1 "nearest" ["one"] spNear) (c_square_of : Cal P w K mg base 2 "square_of" ["place"] spSquare) (F : Fun K "law" "law" s_law f fd) : FnOk P w K mg base CX0 6 f fd ["_law_script"] (spLaw K) := by
  refine F.ok sc_law (fun vs H Q E h => ?_) (fun cdv A outer s H vs Q E hr h => ?_)
  · obtain ⟨a, ns, rfl, _⟩ := h
    rfl
  obtain ⟨a, ns, rfl, hS, h63, q⟩ := h
  refine ⟨_, (pss_cons (ps_set (i := 1) sc_law.nd rfl (Or.inl rfl) (pe_cal c_bag hr (pa_cons (pv 0) pa_nil)))
    (pss_cons (ps_for PassesOwn.never rfl (pi_range1 rfl B.range (pa_cons pe_int pa_nil)) (pg_name (i := 2) sc_law.nd rfl (Or.inl rfl))
    (pss_cons (ps_set (i := 3) sc_law.nd rfl (Or.inl rfl) (pe_lst pa_nil))
    (pss_cons (ps_for PassesOwn.never rfl (pi_list (pe_lst (pa_cons (pe_cal c_about hr (pa_cons (pv 1) pa_nil)) (pa_cons (pe_cal c_about hr (pa_cons (pv 1) pa_nil)) pa_nil)))) (pg_name (i := 4) sc_law.nd rfl (Or.inl rfl))
    (pss_cons (ps_set (i := 5) sc_law.nd rfl (Or.inl rfl) (pe_cal c_nearest hr (pa_cons (pv 4) pa_nil)))
    (pss_cons (ps_if (PW.pt (pw_or (pt_not (pt_val (pe_callB call_isi rfl B.isinstance bt_isinstance (pa_cons (pv 5) (pa_cons (pe_bltn (v := .ty "int") rfl B.int bt_int rfl) pa_nil))))) (pw_or1 (pt_val (pe_callB call_isi rfl B.isinstance bt_isinstance (pa_cons (pv 5) (pa_cons (pe_bltn (v := .ty "bool") rfl B.bool bt_bool rfl) pa_nil)))))))
    (pss_one (ps_ret pe_bl))
    pss_nil)
    (pss_cons (ps_if (pt_not (pt_chain op_le op_lt (pe_op op_mul (pe_op op_sub (pe_op op_mul pe_int (pv 5)) pe_int) (pe_ix ix_tup (pv 4) pe_int (fun _ _ => rfl))) (pe_op op_mul pe_int (pe_ix ix_tup (pv 4) pe_int (fun _ _ => rfl))) (pe_op op_mul (pe_op op_add (pe_op op_mul pe_int (pv 5)) pe_int) (pe_ix ix_tup (pv 4) pe_int (fun _ _ => rfl)))))
    (pss_one (ps_ret pe_bl))
    pss_nil)
    (pss_one (ps_expr (pe_bm PySem.F.plainAttrs_list PySem.F.slot_list_append PySem.F.type_list_append mt_append (pv 3) (pa_cons (pe_tup (pa_cons (pv 4) (pa_cons (pv 5) pa_nil))) pa_nil))))))))
    (pss_cons (ps_set (i := 6) sc_law.nd rfl (Or.inl rfl) (pe_cal c_square_of hr (pa_cons (pe_tup (pa_cons (pe_ix ix_tup (pe_ix ix_list (pv 3) pe_int (fun _ _ => rfl)) pe_int (fun _ _ => rfl)) (pa_cons (pe_ix ix_tup (pe_ix ix_list (pv 3) pe_int (fun _ _ => rfl)) pe_int (fun _ _ => rfl)) pa_nil))) pa_nil)))
    (pss_one (ps_if (pt_not (pt_val (pe_cal c_like hr (pa_cons (pv 6) (pa_cons (pe_tup (pa_cons (pe_ix ix_tup (pe_ix ix_list (pv 3) pe_int (fun _ _ => rfl)) pe_int (fun _ _ => rfl)) (pa_cons (pe_ix ix_tup (pe_ix ix_list (pv 3) pe_int (fun _ _ => rfl)) pe_int (fun _ _ => rfl)) pa_nil))) pa_nil)))))
    (pss_one (ps_ret pe_bl))
    pss_nil))))))
    (pss_one (ps_ret (pe_and (pe_cmpR op_eq (pe_cal c_nearest hr (pa_cons (pe_tup (pa_cons pe_int (pa_cons pe_int pa_nil))) pa_nil)) pe_int (nomark _)) (pe_one (pe_cmpR op_eq (pe_cal c_nearest hr (pa_cons (pe_tup (pa_cons (pe_un un_neg pe_int) (pa_cons pe_int pa_nil))) pa_nil)) pe_int (nomark _)))))))), ?_⟩
  refine ⟨_, rfl, a, ns, rfl, hS, h63, fun b l H1 sm1 nb nl hB => ?_⟩
  refine ⟨4, rfl, by decide, by decide, for_range (lo := 0) (n := (4 : Int).toNat) (fun _ σ H' => (∃ c2 c3 c4 c5 c6, σ = [some (.ref a), some (.ref b), c2, c3, c4, c5, c6]) ∧ BagAt H' b l) ⟨⟨_, _, _, _, _, rfl⟩, hB⟩ ?_ ?_⟩
  · rintro i σ H2 hi ⟨⟨c2, c3, c4, c5, c6, rfl⟩, hB⟩
    refine ⟨sz (by decide : 0 ≤ 100000), fun fl nf => ?_⟩
    have gf := same_new nf (.lst [])
    have hB2 := hB.same gf
    have hfn := hB.new nf
    refine ⟨_, rfl, b, _, rfl, hB2, fun p1 H3 a1 b1 hB3 bt3 h1 k1 => ?_⟩
    refine ⟨_, rfl, b, _, rfl, hB3, fun p2 H4 a2 b2 hB4 bt4 h2 k2 => ?_⟩
    refine ⟨sz (by decide : 2 ≤ 100000), fun lp np => ?_⟩
    have gl := same_new np (.lst [.ref p1, .ref p2])
    have ef4 : H4 fl = some (.lst []) := bt4 _ _ hfn.1 (bt3 _ _ hfn.1 upd_same)
    have hlf : lp ≠ fl := Ne.symm (ne_of_none ef4 np)
    refine ⟨lp, rfl, ⟨_, SqL.of upd_same⟩, ?_⟩
    refine for_list (K := K) (a := lp) (xs := [.ref p1, .ref p2]) (fun i σ H' => (∃ c2 c4 c5, σ = [some (.ref a), some (.ref b), c2, some (.ref fl), c4, c5, c6]) ∧ BagAt H' b l ∧ H' lp = some (.lst [.ref p1, .ref p2]) ∧ H' p1 = some (.tup [.int a1, .int b1]) ∧ H' p2 = some (.tup [.int a2, .int b2]) ∧ Fd fl p1 p2 (nearI a1 b1) (nearI a2 b2) i H') ?_ ?_ ?_ ?_
    · exact ⟨⟨_, _, _, rfl⟩, hB4.same gl, upd_same, gl _ _ (bt4 _ _ (bag_tup hB3 h1) h1), gl _ _ h2, gl _ _ ef4⟩
    · rintro i σ H' _ ⟨_, _, e, _⟩
      exact SqL.of e
    · rintro i x σ H' hx ⟨⟨c2, c4, c5, rfl⟩, hB5, el, e1, e2, hF⟩
      obtain ⟨px, ax, bx, rfl, ex, kx, hix⟩ : ∃ px ax bx, x = .ref px ∧ H' px = some (.tup [.int ax, .int bx]) ∧ Part ax bx ∧ ((i = 0 ∧ px = p1 ∧ ax = a1 ∧ bx = b1) ∨ (i = 1 ∧ px = p2 ∧ ax = a2 ∧ bx = b2)) := by
        match i, hx with
        | 0, hx => cases hx; exact ⟨p1, a1, b1, rfl, e1, k1, .inl ⟨rfl, rfl, rfl, rfl⟩⟩
        | 1, hx => cases hx; exact ⟨p2, a2, b2, rfl, e2, k2, .inr ⟨rfl, rfl, rfl, rfl⟩⟩
      have nr := near_ok (a := ax) kx.2.2.1
      have kx' := kx
      unfold Part at kx'
      refine ⟨_, rfl, px, ax, bx, rfl, ex, kx, ?_⟩
      refine ⟨_, rfl, _, _, _, _, _, rfl, .ty _, .base (.int _), kit_ty (by decide +kernel : kitB "int" "int" = some true), _, rfl, iteF ?_⟩
      refine ⟨_, rfl, _, _, _, _, _, rfl, .ty _, .base (.int _), kit_ty (by decide +kernel : kitB "int" "bool" = some false), _, rfl, iteF ?_⟩
      refine ⟨_, rfl, _, _, rfl, rfl, .inl ⟨by decide, by decide⟩, _, _, rfl, rfl, _, rfl, px, _, _, _, rfl, rfl, SqT.of ex, rfl, _, _, rfl, rfl, .inr ⟨by omega, by omega⟩, ?_⟩
      refine ⟨_, rfl, px, _, _, _, rfl, rfl, SqT.of ex, rfl, _, _, rfl, rfl, .inl ⟨by decide, by decide⟩, _, _, rfl, rfl, _, rfl, iteDT nr.1 ?_⟩
      refine ⟨_, rfl, _, _, rfl, rfl, .inl ⟨by decide, by decide⟩, _, _, rfl, rfl, _, rfl, px, _, _, _, rfl, rfl, SqT.of ex, rfl, _, _, rfl, rfl, .inr ⟨by omega, by omega⟩, _, _, rfl, rfl, _, rfl, ?_⟩
      refine iteNS nr.2 ?_
      -- append
      obtain ⟨qs, eqs⟩ : ∃ qs, H' fl = some (.lst qs) := by
        rcases hix with ⟨rfl, _⟩ | ⟨rfl, _⟩
        · exact ⟨_, hF⟩
        · obtain ⟨q1, z, _⟩ := hF
          exact ⟨_, z⟩
      refine ⟨_, rfl, .inl ⟨rfl, _, SqL.of eqs⟩, _, rfl, _, rfl, sz (by decide : 2 ≤ 100000), fun pq nq => ?_⟩
      have gq := same_new nq (.tup [.ref px, .int (nearI ax bx)])
      have hpf : ∀ {p : Addr} {o : List V}, H' p = some (.tup o) → p ≠ fl := fun {p o} z => ne_of z eqs (by intro y; cases y)
      have hqf : pq ≠ fl := Ne.symm (ne_of_none eqs nq)
      refine ⟨fl, qs, _, rfl, rfl, gq _ _ eqs, ?_, ?_⟩
      · rcases hix with ⟨rfl, _⟩ | ⟨rfl, _⟩
        · have z : some (HO.lst qs) = some (HO.lst []) := eqs.symm.trans hF
          cases z
          exact Nat.lt_of_lt_of_le (by decide : 0 < 100000) (sz (Nat.le_refl _))
        · obtain ⟨q1, z, _⟩ := hF
          have z := eqs.symm.trans z
          cases z
          exact Nat.lt_of_lt_of_le (by decide : 1 < 100000) (sz (Nat.le_refl _))
      · refine ⟨⟨_, _, _, rfl⟩, (hB5.same gq).put (Ne.symm hfn.1 |> Ne.symm) hfn.2, ?_, ?_, ?_, ?_⟩
        · rw [upd_ne hlf]; exact gq _ _ el
        · rw [upd_ne (hpf e1)]; exact gq _ _ e1
        · rw [upd_ne (hpf e2)]; exact gq _ _ e2
        · rcases hix with ⟨rfl, rfl, rfl, rfl⟩ | ⟨rfl, rfl, rfl, rfl⟩
          · have z : some (HO.lst qs) = some (HO.lst []) := eqs.symm.trans hF
            cases z
            exact ⟨pq, upd_same, by rw [upd_ne hqf]; exact upd_same⟩
          · obtain ⟨q1, z, z1⟩ := hF
            have z := eqs.symm.trans z
            cases z
            exact ⟨q1, pq, upd_same, by rw [upd_ne (hpf z1)]; exact gq _ _ z1, by rw [upd_ne hqf]; exact upd_same⟩
    · rintro σ H5 ⟨⟨c2, c4, c5, rfl⟩, hB5, el, e1, e2, q1, q2, ef, g1, g2⟩
      refine ⟨_, rfl, fl, _, _, _, rfl, rfl, SqL.of ef, rfl, q1, _, _, _, rfl, rfl, SqT.of g1, rfl, ?_⟩
      refine ⟨_, rfl, fl, _, _, _, rfl, rfl, SqL.of ef, rfl, q2, _, _, _, rfl, rfl, SqT.of g2, rfl, sz (by decide : 2 ≤ 100000), fun pp npp => ?_⟩
      have gp := same_new npp (.tup [.ref p1, .ref p2])
      refine ⟨pp, p1, p2, a1, b1, a2, b2, rfl, upd_same, gp _ _ e1, gp _ _ e2, k1, k2, fun r H6 s6 e6 => ?_⟩
      have s56 := gp.trans s6
      refine ⟨_, rfl, _, rfl, fl, _, _, _, rfl, rfl, SqL.of (s56 _ _ ef), rfl, q1, _, _, _, rfl, rfl, SqT.of (s56 _ _ g1), rfl, ?_⟩
      refine ⟨_, rfl, fl, _, _, _, rfl, rfl, SqL.of (s56 _ _ ef), rfl, q2, _, _, _, rfl, rfl, SqT.of (s56 _ _ g2), rfl, sz (by decide : 2 ≤ 100000), fun pd npd => ?_⟩
      have gd := same_new npd (.tup [.int (nearI a1 b1), .int (nearI a2 b2)])
      refine ⟨_, _, rfl, .inr (.inl ⟨_, _, _, _, rfl, rfl, gd _ _ e6, upd_same, rfl, by show 2 ≤ 1000; decide, alike_pair⟩), fun H7 s7 => ⟨_, rfl, iteF ?_⟩⟩
      exact ⟨⟨_, _, _, _, _, rfl⟩, hB5.same (s56.trans (gd.trans s7))⟩
  · rintro σ H2 ⟨⟨c2, c3, c4, c5, c6, rfl⟩, hB⟩
    have pt : ∀ a : Int, a = 1 ∨ a = -1 → Part a 2 := fun a h => by unfold Part; omega
    refine ⟨sz (by decide : 2 ≤ 100000), fun p1 n1 => ⟨p1, 1, 2, rfl, upd_same, pt 1 (.inl rfl), rfl, _, rfl, if_pos' (by decide) ?_⟩⟩
    refine ⟨_, rfl, sz (by decide : 2 ≤ 100000), fun p2 n2 => ⟨p2, -1, 2, rfl, upd_same, pt (-1) (.inr rfl), rfl, ?_⟩⟩
    have e : decide (V.int (nearI (-1) 2) = V.int 0) = true := by decide
    rw [e]
    exact q _
end
theorem all_mk {l : PySem.W.OpenLaw} {w : World} {K : PySem.W.Frag} {h : Heap} {mg : Str → Option Value} {fa f1 f2 f3 f4 f5 f6 f7 f8 f9 f10 f11 f12 : Addr} (X : K.In h) (G : h.Ns mainGlobals mg) (hfa : mg "law" = some (.ref fa))
    {od1 an1 od2 an2 od3 an3 od4 an4 od5 an5 od6 an6 od7 an7 od8 an8 od9 an9 od10 an10 od11 an11 od12 an12 : Option Addr} {sl1 sl2 sl3 sl4 sl5 sl6 sl7 sl8 sl9 sl10 sl11 sl12 : Array (Option Value)} {oc1 kV1 dc1 pm1 cd1 ct1 oc2 kV2 dc2 pm2 cd2 ct2 oc3 kV3 dc3 pm3 cd3 ct3 oc4 kV4 dc4 pm4 cd4 ct4 oc5 kV5 dc5 pm5 cd5 ct5 oc6 kV6 dc6 pm6 cd6 ct6 oc7 kV7 dc7 pm7 cd7 ct7 oc8 kV8 dc8 pm8 cd8 ct8 oc9 kV9 dc9 pm9 cd9 ct9 oc10 kV10 dc10 pm10 cd10 ct10 oc11 kV11 dc11 pm11 cd11 ct11 oc12 kV12 dc12 pm12 cd12 ct12 : Value} 
    (a1 : PySem.W.nsIn K mainGlobals "nearest" = some (some (.ref f1))) (l1 : K.lookup f1 = some ⟨oc1, od1, .func (PySem.W.fnOf "nearest" "nearest" (defArgs s_nearest) (defBody s_nearest) (defScope s_nearest) .none kV1 dc1 pm1 an1 cd1 ct1), sl1⟩) (c1 : PySem.W.codeIn K cd1 "nearest" = true) (k1 : PySem.W.keepIn K (.ref f1) = true)
    (a2 : PySem.W.nsIn K mainGlobals "square_of" = some (some (.ref f2))) (l2 : K.lookup f2 = some ⟨oc2, od2, .func (PySem.W.fnOf "square_of" "square_of" (defArgs s_square_of) (defBody s_square_of) (defScope s_square_of) .none kV2 dc2 pm2 an2 cd2 ct2), sl2⟩) (c2 : PySem.W.codeIn K cd2 "square_of" = true) (k2 : PySem.W.keepIn K (.ref f2) = true)
    (a3 : PySem.W.nsIn K mainGlobals "_law_bag" = some (some (.ref f3))) (l3 : K.lookup f3 = some ⟨oc3, od3, .func (PySem.W.fnOf "_law_bag" "_law_bag" (defArgs s_bag) (defBody s_bag) (defScope s_bag) .none kV3 dc3 pm3 an3 cd3 ct3), sl3⟩) (c3 : PySem.W.codeIn K cd3 "_law_bag" = true) (k3 : PySem.W.keepIn K (.ref f3) = true)
    (a4 : PySem.W.nsIn K mainGlobals "_law_pull" = some (some (.ref f4))) (l4 : K.lookup f4 = some ⟨oc4, od4, .func (PySem.W.fnOf "_law_pull" "_law_pull" (defArgs s_pull) (defBody s_pull) (defScope s_pull) .none kV4 dc4 pm4 an4 cd4 ct4), sl4⟩) (c4 : PySem.W.codeIn K cd4 "_law_pull" = true) (k4 : PySem.W.keepIn K (.ref f4) = true)
    (a5 : PySem.W.nsIn K mainGlobals "_law_of" = some (some (.ref f5))) (l5 : K.lookup f5 = some ⟨oc5, od5, .func (PySem.W.fnOf "_law_of" "_law_of" (defArgs s_of) (defBody s_of) (defScope s_of) .none kV5 dc5 pm5 an5 cd5 ct5), sl5⟩) (c5 : PySem.W.codeIn K cd5 "_law_of" = true) (k5 : PySem.W.keepIn K (.ref f5) = true)
    (a6 : PySem.W.nsIn K mainGlobals "_law_like" = some (some (.ref f6))) (l6 : K.lookup f6 = some ⟨oc6, od6, .func (PySem.W.fnOf "_law_like" "_law_like" (defArgs s_like) (defBody s_like) (defScope s_like) .none kV6 dc6 pm6 an6 cd6 ct6), sl6⟩) (c6 : PySem.W.codeIn K cd6 "_law_like" = true) (k6 : PySem.W.keepIn K (.ref f6) = true)
    (a7 : PySem.W.nsIn K mainGlobals "_law_common" = some (some (.ref f7))) (l7 : K.lookup f7 = some ⟨oc7, od7, .func (PySem.W.fnOf "_law_common" "_law_common" (defArgs s_common) (defBody s_common) (defScope s_common) .none kV7 dc7 pm7 an7 cd7 ct7), sl7⟩) (c7 : PySem.W.codeIn K cd7 "_law_common" = true) (k7 : PySem.W.keepIn K (.ref f7) = true)
    (a8 : PySem.W.nsIn K mainGlobals "_law_low" = some (some (.ref f8))) (l8 : K.lookup f8 = some ⟨oc8, od8, .func (PySem.W.fnOf "_law_low" "_law_low" (defArgs s_low) (defBody s_low) (defScope s_low) .none kV8 dc8 pm8 an8 cd8 ct8), sl8⟩) (c8 : PySem.W.codeIn K cd8 "_law_low" = true) (k8 : PySem.W.keepIn K (.ref f8) = true)
    (a9 : PySem.W.nsIn K mainGlobals "_law_over" = some (some (.ref f9))) (l9 : K.lookup f9 = some ⟨oc9, od9, .func (PySem.W.fnOf "_law_over" "_law_over" (defArgs s_over) (defBody s_over) (defScope s_over) .none kV9 dc9 pm9 an9 cd9 ct9), sl9⟩) (c9 : PySem.W.codeIn K cd9 "_law_over" = true) (k9 : PySem.W.keepIn K (.ref f9) = true)
    (a10 : PySem.W.nsIn K mainGlobals "_law_part" = some (some (.ref f10))) (l10 : K.lookup f10 = some ⟨oc10, od10, .func (PySem.W.fnOf "_law_part" "_law_part" (defArgs s_part) (defBody s_part) (defScope s_part) .none kV10 dc10 pm10 an10 cd10 ct10), sl10⟩) (c10 : PySem.W.codeIn K cd10 "_law_part" = true) (k10 : PySem.W.keepIn K (.ref f10) = true)
    (a11 : PySem.W.nsIn K mainGlobals "_law_about" = some (some (.ref f11))) (l11 : K.lookup f11 = some ⟨oc11, od11, .func (PySem.W.fnOf "_law_about" "_law_about" (defArgs s_about) (defBody s_about) (defScope s_about) .none kV11 dc11 pm11 an11 cd11 ct11), sl11⟩) (c11 : PySem.W.codeIn K cd11 "_law_about" = true) (k11 : PySem.W.keepIn K (.ref f11) = true)
    (a12 : PySem.W.nsIn K mainGlobals "law" = some (some (.ref f12))) (l12 : K.lookup f12 = some ⟨oc12, od12, .func (PySem.W.fnOf "law" "law" (defArgs s_law) (defBody s_law) (defScope s_law) .none kV12 dc12 pm12 an12 cd12 ct12), sl12⟩) (c12 : PySem.W.codeIn K cd12 "law" = true) (k12 : PySem.W.keepIn K (.ref f12) = true)
    (z_len : PySem.W.nsIn K mainGlobals "len" = some none)
    (z_isinstance : PySem.W.nsIn K mainGlobals "isinstance" = some none)
    (z_all : PySem.W.nsIn K mainGlobals "all" = some none)
    (z_list : PySem.W.nsIn K mainGlobals "list" = some none)
    (z_tuple : PySem.W.nsIn K mainGlobals "tuple" = some none)
    (z_dict : PySem.W.nsIn K mainGlobals "dict" = some none)
    (z_bool : PySem.W.nsIn K mainGlobals "bool" = some none)
    (z_range : PySem.W.nsIn K mainGlobals "range" = some none)
    (z_abs : PySem.W.nsIn K mainGlobals "abs" = some none)
    (z_any : PySem.W.nsIn K mainGlobals "any" = some none)
    (z_sorted : PySem.W.nsIn K mainGlobals "sorted" = some none)
    (z_int : PySem.W.nsIn K mainGlobals "int" = some none)
    (z_max : PySem.W.nsIn K mainGlobals "max" = some none)
    (z_min : PySem.W.nsIn K mainGlobals "min" = some none)
    : ∃ fd : FuncData, (∀ (s : Shared) (v : Value), BindsTo s fd ⟨[v], []⟩ [("_law_script", v)]) ∧ ∀ base : Heap, K.In base → base.Ns mainGlobals mg → FnOk l.prog w K mg base CX0 6 fa fd ["_law_script"] (spLaw K) := by
  have e := hfa.symm.trans (PySem.W.mg_of X G a12)
  cases e
  have F_nearest := fun_mk (st := s_nearest) l1 c1 k1
  have b_nearest := F_nearest.binds (ps := ["one"]) fun _ _ _ _ _ _ us hl => match us, hl with | [_], _ => rfl
  have m_nearest := PySem.W.mg_of X G a1
  have F_square_of := fun_mk (st := s_square_of) l2 c2 k2
  have b_square_of := F_square_of.binds (ps := ["place"]) fun _ _ _ _ _ _ us hl => match us, hl with | [_], _ => rfl
  have m_square_of := PySem.W.mg_of X G a2
  have F_bag := fun_mk (st := s_bag) l3 c3 k3
  have b_bag := F_bag.binds (ps := ["_law_script"]) fun _ _ _ _ _ _ us hl => match us, hl with | [_], _ => rfl
  have m_bag := PySem.W.mg_of X G a3
  have F_pull := fun_mk (st := s_pull) l4 c4 k4
  have b_pull := F_pull.binds (ps := ["_law_bag_here", "_law_amount"]) fun _ _ _ _ _ _ us hl => match us, hl with | [_, _], _ => rfl
  have m_pull := PySem.W.mg_of X G a4
  have F_of := fun_mk (st := s_of) l5 c5 k5
  have b_of := F_of.binds (ps := ["_law_bag_here", "_law_things"]) fun _ _ _ _ _ _ us hl => match us, hl with | [_, _], _ => rfl
  have m_of := PySem.W.mg_of X G a5
  have F_like := fun_mk (st := s_like) l6 c6 k6
  have b_like := F_like.binds (ps := ["_law_found", "_law_due"]) fun _ _ _ _ _ _ us hl => match us, hl with | [_, _], _ => rfl
  have m_like := PySem.W.mg_of X G a6
  have F_common := fun_mk (st := s_common) l7 c7 k7
  have b_common := F_common.binds (ps := ["_law_one", "_law_other"]) fun _ _ _ _ _ _ us hl => match us, hl with | [_, _], _ => rfl
  have m_common := PySem.W.mg_of X G a7
  have F_low := fun_mk (st := s_low) l8 c8 k8
  have b_low := F_low.binds (ps := ["_law_over_here", "_law_under"]) fun _ _ _ _ _ _ us hl => match us, hl with | [_, _], _ => rfl
  have m_low := PySem.W.mg_of X G a8
  have F_over := fun_mk (st := s_over) l9 c9 k9
  have b_over := F_over.binds (ps := ["_law_bag_here"]) fun _ _ _ _ _ _ us hl => match us, hl with | [_], _ => rfl
  have m_over := PySem.W.mg_of X G a9
  have F_part := fun_mk (st := s_part) l10 c10 k10
  have b_part := F_part.binds (ps := ["_law_bag_here"]) fun _ _ _ _ _ _ us hl => match us, hl with | [_], _ => rfl
  have m_part := PySem.W.mg_of X G a10
  have F_about := fun_mk (st := s_about) l11 c11 k11
  have b_about := F_about.binds (ps := ["_law_bag_here"]) fun _ _ _ _ _ _ us hl => match us, hl with | [_], _ => rfl
  have m_about := PySem.W.mg_of X G a11
  have F_law := fun_mk (st := s_law) l12 c12 k12
  have b_law := F_law.binds (ps := ["_law_script"]) fun _ _ _ _ _ _ us hl => match us, hl with | [_], _ => rfl
  have m_law := PySem.W.mg_of X G a12
  have B : Blt mg := ⟨PySem.W.mg_none_of X G z_len, PySem.W.mg_none_of X G z_isinstance, PySem.W.mg_none_of X G z_all, PySem.W.mg_none_of X G z_list, PySem.W.mg_none_of X G z_tuple, PySem.W.mg_none_of X G z_dict, PySem.W.mg_none_of X G z_bool, PySem.W.mg_none_of X G z_range, PySem.W.mg_none_of X G z_abs, PySem.W.mg_none_of X G z_any, PySem.W.mg_none_of X G z_sorted, PySem.W.mg_none_of X G z_int, PySem.W.mg_none_of X G z_max, PySem.W.mg_none_of X G z_min⟩
  refine ⟨PySem.W.fnOf "law" "law" (defArgs s_law) (defBody s_law) (defScope s_law) .none kV12 dc12 pm12 an12 cd12 ct12, fun s v => .of_eq rfl, fun base _ _ => ?_⟩
  have C_pull : Cal l.prog w K mg base 1 "_law_pull" ["_law_bag_here", "_law_amount"] spPull := ⟨_, _, ok_pull B F_pull, b_pull, F_pull.kp, m_pull⟩
  have C_bag : Cal l.prog w K mg base 1 "_law_bag" ["_law_script"] (spBag K) := ⟨_, _, ok_bag B F_bag, b_bag, F_bag.kp, m_bag⟩
  have C_of : Cal l.prog w K mg base 2 "_law_of" ["_law_bag_here", "_law_things"] spOf := ⟨_, _, ok_of B C_pull F_of, b_of, F_of.kp, m_of⟩
  have C_like : Cal l.prog w K mg base 2 "_law_like" ["_law_found", "_law_due"] (spLike 1) := ⟨_, _, ok_like B F_like b_like m_like 1, b_like, F_like.kp, m_like⟩
  have C_over : Cal l.prog w K mg base 3 "_law_over" ["_law_bag_here"] spOver := ⟨_, _, ok_over C_pull C_of F_over, b_over, F_over.kp, m_over⟩
  have C_common : Cal l.prog w K mg base 1 "_law_common" ["_law_one", "_law_other"] spCom := ⟨_, _, ok_common B F_common, b_common, F_common.kp, m_common⟩
  have C_low : Cal l.prog w K mg base 2 "_law_low" ["_law_over_here", "_law_under"] spLowP := ⟨_, _, ok_low C_common F_low, b_low, F_low.kp, m_low⟩
  have C_part : Cal l.prog w K mg base 4 "_law_part" ["_law_bag_here"] spPart := ⟨_, _, ok_part C_pull C_of C_over C_low F_part, b_part, F_part.kp, m_part⟩
  have C_about : Cal l.prog w K mg base 5 "_law_about" ["_law_bag_here"] spPart := ⟨_, _, ok_about C_pull C_of C_low C_part F_about, b_about, F_about.kp, m_about⟩
  have C_nearest : Cal l.prog w K mg base 1 "nearest" ["one"] spNear := ⟨_, _, ok_nearest F_nearest, b_nearest, F_nearest.kp, m_nearest⟩
  have C_square_of : Cal l.prog w K mg base 2 "square_of" ["place"] spSquare := ⟨_, _, ok_square_of C_nearest F_square_of, b_square_of, F_square_of.kp, m_square_of⟩
  exact ok_law B C_bag C_like C_about C_nearest C_square_of F_law
theorem walk {l : PySem.W.OpenLaw} {q : Program} {loose : List Str} {XP : (Str → Option Value) → Heap → Prop} {YP : World → Heap → Prop} {d : DefRec} {K : Params → PySem.W.Frag} (hn : l.most = some 63) (hdf : d.params.defaults = [])
    (hY : ∀ (w : World) (h : Heap), YP w h → (K w.params).In h)
    (F : ∀ (w : World) (mg : Str → Option Value) (fa : Addr) (h : Heap), (K w.params).In h → h.Ns mainGlobals mg → mg d.name = some (.ref fa) →
      ∃ fd : FuncData, (∀ (s : Shared) (u : Value), BindsTo s fd ⟨[u], []⟩ [("_law_script", u)]) ∧ ∀ base : Heap, (K w.params).In base → base.Ns mainGlobals mg → FnOk l.prog w (K w.params) mg base CX0 6 fa fd ["_law_script"] (spLaw (K w.params))) :
    PySem.W.WalkO q loose XP YP l.row.toRowW d [] (fun f vs => PySem.call f vs) :=
  L2.walk_of (n := 63) (k := 6) (x := "_law_script") (CX := fun _ => CX0) (sp := fun w => spLaw (K w.params)) hn (by decide) hdf ⟨rfl, by decide, by decide⟩ hY F (fun _ _ a ns hl _ hS => ⟨a, ns, rfl, hS, hl, fun _ => rfl⟩) fun _ _ _ _ _ z => z
end DM
open PySem PySem.W PyProof.Rows
set_option maxRecDepth 100000 in
set_option maxHeartbeats 0 in
theorem PySem.Challenge.cw_dotmoor_k03_each_part_has_one_nearest_nu_holds : PySem.Challenge.rw_dotmoor_k03_each_part_has_one_nearest_nu.Holds := by
  w_on; o_law; k_head; (case hw => w_witness2)
  k_fill
  refine DM.walk (l := PySem.Challenge.rw_dotmoor_k03_each_part_has_one_nearest_nu) rfl rfl (fun w h Y => PySem.W.kIn_of Y) ?F
  case F =>
    intro w mg fa h KX G hmg
    refine' DM.all_mk KX G hmg ?a1 ?l1 ?c1 ?k1 ?a2 ?l2 ?c2 ?k2 ?a3 ?l3 ?c3 ?k3 ?a4 ?l4 ?c4 ?k4 ?a5 ?l5 ?c5 ?k5 ?a6 ?l6 ?c6 ?k6 ?a7 ?l7 ?c7 ?k7 ?a8 ?l8 ?c8 ?k8 ?a9 ?l9 ?c9 ?k9 ?a10 ?l10 ?c10 ?k10 ?a11 ?l11 ?c11 ?k11 ?a12 ?l12 ?c12 ?k12 ?z_len ?z_isinstance ?z_all ?z_list ?z_tuple ?z_dict ?z_bool ?z_range ?z_abs ?z_any ?z_sorted ?z_int ?z_max ?z_min
    (case a1 => k_is)
    (case l1 => k_is)
    (case c1 => k_is)
    (case k1 => k_is)
    (case a2 => k_is)
    (case l2 => k_is)
    (case c2 => k_is)
    (case k2 => k_is)
    (case a3 => k_is)
    (case l3 => k_is)
    (case c3 => k_is)
    (case k3 => k_is)
    (case a4 => k_is)
    (case l4 => k_is)
    (case c4 => k_is)
    (case k4 => k_is)
    (case a5 => k_is)
    (case l5 => k_is)
    (case c5 => k_is)
    (case k5 => k_is)
    (case a6 => k_is)
    (case l6 => k_is)
    (case c6 => k_is)
    (case k6 => k_is)
    (case a7 => k_is)
    (case l7 => k_is)
    (case c7 => k_is)
    (case k7 => k_is)
    (case a8 => k_is)
    (case l8 => k_is)
    (case c8 => k_is)
    (case k8 => k_is)
    (case a9 => k_is)
    (case l9 => k_is)
    (case c9 => k_is)
    (case k9 => k_is)
    (case a10 => k_is)
    (case l10 => k_is)
    (case c10 => k_is)
    (case k10 => k_is)
    (case a11 => k_is)
    (case l11 => k_is)
    (case c11 => k_is)
    (case k11 => k_is)
    (case a12 => k_is)
    (case l12 => k_is)
    (case c12 => k_is)
    (case k12 => k_is)
    (case z_len => k_is)
    (case z_isinstance => k_is)
    (case z_all => k_is)
    (case z_list => k_is)
    (case z_tuple => k_is)
    (case z_dict => k_is)
    (case z_bool => k_is)
    (case z_range => k_is)
    (case z_abs => k_is)
    (case z_any => k_is)
    (case z_sorted => k_is)
    (case z_int => k_is)
    (case z_max => k_is)
    (case z_min => k_is)

