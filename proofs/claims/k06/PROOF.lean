import PyProof.Rows.All
import Wide.All
import OpenK.AllK
import Wide.FinOn
import HandS.ForMost
import HandS.IsInst
import HandS.Wide
import HandS.Style
import HandS.Flt
import PySem.Challenge.RW_dotmoor_k06_squares_a_stroke_goes_throug
set_option Elab.async false
set_option linter.all false
set_option maxRecDepth 100000
set_option maxHeartbeats 4000000
namespace DM
open PySem L2
/-! ### built-ins by their names -/
theorem bt_len : bootBuiltins "len" = some (.builtin "len") := by decide +kernel
theorem bt_isinstance : bootBuiltins "isinstance" = some (.builtin "isinstance") := by decide +kernel
theorem bt_all : bootBuiltins "all" = some (.builtin "all") := by decide +kernel
theorem bt_any : bootBuiltins "any" = some (.builtin "any") := by decide +kernel
theorem bt_sorted : bootBuiltins "sorted" = some (.builtin "sorted") := by decide +kernel
theorem bt_abs : bootBuiltins "abs" = some (.builtin "abs") := by decide +kernel
theorem bt_max : bootBuiltins "max" = some (.builtin "max") := by decide +kernel
theorem bt_min : bootBuiltins "min" = some (.builtin "min") := by decide +kernel
theorem bt_sum : bootBuiltins "sum" = some (.builtin "sum") := by decide +kernel
theorem bt_list : bootBuiltins "list" = some (.type "list") := by decide +kernel
theorem bt_tuple : bootBuiltins "tuple" = some (.type "tuple") := by decide +kernel
theorem bt_dict : bootBuiltins "dict" = some (.type "dict") := by decide +kernel
theorem bt_bool : bootBuiltins "bool" = some (.type "bool") := by decide +kernel
theorem bt_int : bootBuiltins "int" = some (.type "int") := by decide +kernel
structure Blt (mg : Str → Option Value) : Prop where
  len : mg "len" = none
  isinstance : mg "isinstance" = none
  all : mg "all" = none
  list : mg "list" = none
  tuple : mg "tuple" = none
  dict : mg "dict" = none
  bool : mg "bool" = none
  range : mg "range" = none
  abs : mg "abs" = none
  any : mg "any" = none
  sorted : mg "sorted" = none
  int : mg "int" = none
  max : mg "max" = none
  min : mg "min" = none
  sum : mg "sum" = none
  zip : mg "zip" = none
  enumerate : mg "enumerate" = none
/-! ### a def that may be called by its name -/
def Cal (P : Program) (w : World) (K : PySem.W.Frag) (mg : Str → Option Value) (base : Heap) (k : Nat) (x : Str) (ps : List Str) (sp : Sp) : Prop :=
  ∃ (f : Addr) (fd : FuncData), FnOk P w K mg base CX0 k f fd ps sp ∧ Binds K fd ps [] ∧ PySem.W.keepIn K (.ref f) = true ∧ mg x = some (.ref f)
section
variable {X : Cx}
theorem pe_cal {k k' : Nat} {x : Str} {ps : List Str} {sp : Sp} {e : Expr} {es : List Expr} {t : TA} {p pos : Pos} (C : Cal X.prog X.w X.K X.mg X.base k x ps sp) (hr : Room k' X.A) (ha : PA X (e :: es) t)
    (hk : k ≤ k' := by decide) (hg : Gl X x := by rfl) (hdb : (x == ("__debug__" : Str)) = false := by decide) (he : starEach (e :: es) X.env = (false, eval e X.env) :: starEach es X.env := by rfl) (hpl : (backTo pos (starEach es X.env)).any (·.1) = false := by rfl) :
    PE X (.Call (.Name x p) (e :: es) [] pos) (tCall sp [] E0 t) := by
  obtain ⟨f, fd, F, b, kp, hm⟩ := C
  exact pe_call F (hr.mono hk) hg hm kp b .nil pass0 ha hdb he hpl
end
theorem nil_binds {K : PySem.W.Frag} {fd : FuncData} {ps : List Str} {ds : List Value} (v : Vals [] ds) (b : Binds K fd ps ds) : Binds K fd ps [] := by
  cases v
  exact b
/-! ### statements -/
theorem seq_with {t u : TS} {D : Ends} {σ : St} {H : Hp} (P : St → Hp → Prop) (h1 : ∀ R : St → Hp → Prop, (∀ σ' H', P σ' H' → R σ' H') → t { D with nx := R } σ H) (h2 : ∀ σ' H', P σ' H' → u D σ' H') : tSeq t u D σ H := h1 (u D) h2
theorem iteDF {c : Prop} [Decidable c] {A B : Prop} (hc : ¬ c) (h : B) : if decide c = true then A else B := by
  rw [decide_eq_false hc]
  exact iteF h
theorem iteDT {c : Prop} [Decidable c] {A B : Prop} (hc : c) (h : A) : if decide c = true then A else B := by
  rw [decide_eq_true hc]
  exact iteT h
theorem same_new {H : Hp} {p : Addr} (h : H p = none) (o : HO) : Same H (upd H p o) := fun b u q => by rw [upd_ne (ne_of_none q h)]; exact q
theorem new_at {H : Hp} {p : Addr} {o : HO} (_ : Same H (upd H p o)) : upd H p o p = some o := upd_same
theorem sz {n : Nat} (h : n ≤ 100000) : n ≤ sizeLine := Nat.le_trans h (by decide)
/-! ### the bag -/
/-- all but what stands at b is as it was -/
def But (b : Addr) (H H' : Hp) : Prop := ∀ a o, a ≠ b → H a = some o → H' a = some o
theorem But.refl {b : Addr} {H : Hp} : But b H H := fun _ _ _ h => h
theorem But.trans {b : Addr} {H H1 H2 : Hp} (x : But b H H1) (y : But b H1 H2) : But b H H2 := fun a o h e => y a o h (x a o h e)
theorem But.of {b : Addr} {H H1 : Hp} (x : Same H H1) : But b H H1 := fun a o _ e => x a o e
theorem But.upd {b : Addr} {H : Hp} {o : HO} : But b H (upd H b o) := fun a u h e => by rw [upd_ne h]; exact e
def BagAt (H : Hp) (b l : Addr) : Prop := ∃ (ns : List Int) (i g s : Int), H b = some (.lst [.ref l, .int i, .int g, .int s]) ∧ H l = some (.lst (ns.map V.int)) ∧ ns.length ≤ 63 ∧ 0 ≤ i ∧ 0 ≤ g ∧ 0 ≤ s ∧ s < 2147483647
theorem bag_ne {H : Hp} {b l : Addr} {ns : List Int} {i g s : Int} (h : H b = some (.lst [.ref l, .int i, .int g, .int s])) (h' : H l = some (.lst (ns.map V.int))) : l ≠ b := by
  refine ne_of h' h fun e => ?_
  have e1 := HO.lst.inj e
  cases ns with
  | nil => cases e1
  | cons a r => cases e1
theorem bag_upd {H : Hp} {b l : Addr} {ns : List Int} {i g s : Int} (hl : l ≠ b) (h' : H l = some (.lst (ns.map V.int))) (h63 : ns.length ≤ 63) (hi : 0 ≤ i) (hg : 0 ≤ g) (h0 : 0 ≤ s) (h1 : s < 2147483647) : BagAt (upd H b (.lst [.ref l, .int i, .int g, .int s])) b l :=
  ⟨ns, i, g, s, upd_same, by rw [upd_ne hl]; exact h', h63, hi, hg, h0, h1⟩
theorem BagAt.same {H H' : Hp} {b l : Addr} (h : BagAt H b l) (e : Same H H') : BagAt H' b l := by
  obtain ⟨ns, i, g, s, h1, h2, r⟩ := h
  exact ⟨ns, i, g, s, e _ _ h1, e _ _ h2, r⟩
theorem BagAt.hasB {H : Hp} {b l : Addr} (h : BagAt H b l) : ∃ xs, H b = some (.lst xs) := by
  obtain ⟨ns, i, g, s, h1, _⟩ := h
  exact ⟨_, h1⟩
theorem BagAt.hasL {H : Hp} {b l : Addr} (h : BagAt H b l) : ∃ xs, H l = some (.lst xs) := by
  obtain ⟨ns, i, g, s, h1, h2, _⟩ := h
  exact ⟨_, h2⟩
/-- a store elsewhere leaves the bag -/
theorem BagAt.put {H : Hp} {b l p : Addr} {o : HO} (h : BagAt H b l) (h1 : p ≠ b) (h2 : p ≠ l) : BagAt (upd H p o) b l := by
  obtain ⟨ns, i, g, s, e1, e2, r⟩ := h
  exact ⟨ns, i, g, s, by rw [upd_ne (Ne.symm h1)]; exact e1, by rw [upd_ne (Ne.symm h2)]; exact e2, r⟩
/-- what is new is not the bag's -/
theorem BagAt.new {H : Hp} {b l p : Addr} (h : BagAt H b l) (hp : H p = none) : p ≠ b ∧ p ≠ l := by
  obtain ⟨xs, e1⟩ := h.hasB
  obtain ⟨ys, e2⟩ := h.hasL
  exact ⟨Ne.symm (ne_of_none e1 hp), Ne.symm (ne_of_none e2 hp)⟩
theorem bag_tup {H : Hp} {b l p : Addr} {xs : List V} (hB : BagAt H b l) (h : H p = some (.tup xs)) : p ≠ b := by
  obtain ⟨ys, e⟩ := hB.hasB
  exact ne_of h e (by intro z; cases z)
/-- what the bag's makers and readers promise -/
def spBag (K : PySem.W.Frag) : Sp := fun vs H Q _ => ∃ (a : Addr) (ns : List Int), vs = [.ref a] ∧ SqL K H a (ns.map V.int) ∧ ns.length ≤ 63 ∧ ∀ (b l : Addr) (H' : Hp), Same H H' → H b = none → H l = none → BagAt H' b l → Q (.ref b) H'
def spPull : Sp := fun vs H Q _ => ∃ (b l : Addr) (m : Int), vs = [.ref b, .int m] ∧ BagAt H b l ∧ 0 < m ∧ m < 4611686018427387904 ∧ ∀ (r : Int) (H' : Hp), BagAt H' b l → But b H H' → 0 ≤ r → r < m → Q (.int r) H'
def spOf : Sp := fun vs H Q _ => ∃ (b l p : Addr) (xs : List V), vs = [.ref b, .ref p] ∧ BagAt H b l ∧ H p = some (.lst xs) ∧ p ≠ b ∧ 0 < xs.length ∧ xs.length ≤ 1000 ∧ ∀ (v : V) (H' : Hp), BagAt H' b l → But b H H' → v ∈ xs → Q v H'
def spLaw (K : PySem.W.Frag) : Sp := fun vs H Q _ => ∃ (a : Addr) (ns : List Int), vs = [.ref a] ∧ SqL K H a (ns.map V.int) ∧ ns.length ≤ 63 ∧ ∀ H', Q (.bl true) H'
end DM

namespace DM
open PySem L2
def top (i : Nat) : Stmt := PySem.Challenge.pw_dotmoor_k06_squares_a_stroke_goes_throug.main.body.getD i (.Pass ⟨0, 0, 0, 0⟩)
section
variable {P : Program} {w : World} {K : PySem.W.Frag} {mg : Str → Option Value} {base : Heap} {f : Addr} {fd : FuncData}
abbrev s_bag : Stmt := top 5
theorem sc_bag : FnScope ["_law_script", "_law_salt", "_law_cell"] ["_law_script"] (defScope s_bag) := ⟨rfl, rfl, rfl, by decide +kernel, rfl, by decide +kernel, by decide +kernel⟩
theorem cut_ints (ns : List Int) : ∃ ms : List Int, cutV (ns.map V.int) none (some 63) = ms.map V.int ∧ ms.length ≤ ns.length := by
  refine ⟨(ns.drop (HT.sIx ns.length 0 none)).take (HT.sIx ns.length ns.length (some 63) - HT.sIx ns.length 0 none), ?_, ?_⟩
  · unfold cutV
    rw [List.length_map, List.map_take, List.map_drop]
  · rw [List.length_take, List.length_drop]
    omega
theorem ok_bag (B : Blt mg) (F : Fun K "_law_bag" "_law_bag" s_bag f fd) : FnOk P w K mg base CX0 1 f fd ["_law_script"] (spBag K) := by
  refine F.ok sc_bag (fun vs H Q E h => ?_) (fun cdv A outer s H vs Q E hr h => ?_)
  · obtain ⟨a, ns, rfl, _⟩ := h
    rfl
  obtain ⟨a, ns, rfl, hS, h63, q⟩ := h
  refine ⟨_, (pss_cons (ps_set (i := 1) sc_bag.nd rfl (Or.inl rfl) pe_int)
    (pss_cons (ps_for PassesOwn.never rfl (pi_list (pe_slice sl_list (pv 0) po_none (po_some pe_int))) (pg_name (i := 2) sc_bag.nd rfl (Or.inl rfl))
    (pss_one (ps_set (i := 1) sc_bag.nd rfl (Or.inl rfl) (pe_op op_mod (pe_op op_add (pe_op op_add (pe_op op_mul (pv 1) pe_int) (pe_op op_mod (pv 2) pe_int)) pe_int) pe_int))))
    (pss_one (ps_ret (pe_lst (pa_cons (pe_callTy call_list_of rfl B.list bt_list (pa_cons (pe_slice sl_list (pv 0) po_none (po_some pe_int)) pa_nil)) (pa_cons pe_int (pa_cons pe_int (pa_cons (pv 1) pa_nil))))))))), ?_⟩
  obtain ⟨ms, em, lm⟩ := cut_ints ns
  refine ⟨_, rfl, _, rfl, a, _, rfl, hS, fun p hp => ?_⟩
  refine ⟨p, rfl, ⟨_, SqL.of upd_same⟩, ?_⟩
  have g1 : Same H (upd H p (.lst (cutV (ns.map V.int) none (some 63)))) := same_new hp _
  have hp1 : upd H p (.lst (cutV (ns.map V.int) none (some 63))) p = some (.lst (ms.map V.int)) := by rw [upd_same, em]
  refine for_list (K := K) (a := p) (xs := ms.map V.int) (fun _ σ H' => H' = upd H p (.lst (cutV (ns.map V.int) none (some 63))) ∧ ∃ (s : Int) (c : Option V), σ = [some (.ref a), some (.int s), c] ∧ 0 ≤ s ∧ s < 2147483647) ?_ ?_ ?_ ?_
  · exact ⟨rfl, 9117, none, rfl, by decide, by decide⟩
  · rintro i σ H' _ ⟨rfl, _⟩
    exact SqL.of hp1
  · rintro i x σ H' hx ⟨rfl, s, c, rfl, h0, h1⟩
    obtain ⟨n, rfl⟩ : ∃ n, x = V.int n := by
      rw [List.getElem?_map] at hx
      cases e : ms[i]? with
      | none => rw [e] at hx; cases hx
      | some n => rw [e] at hx; exact ⟨n, (Option.some.inj hx).symm⟩
    refine ⟨_, rfl, _, _, rfl, rfl, .inr ⟨by decide, by decide⟩, _, rfl, _, _, rfl, rfl, (by dsimp only; decide), _, _, rfl, rfl, _, _, rfl, rfl, _, _, rfl, rfl, (by dsimp only; decide), ?_⟩
    refine ⟨rfl, _, _, rfl, ?_, ?_⟩
    · exact Int.emod_nonneg _ (by decide)
    · exact Int.emod_lt_of_pos _ (by decide)
  · rintro σ H' ⟨rfl, s, c, rfl, h0, h1⟩
    refine ⟨_, rfl, _, rfl, a, _, rfl, g1.seq hS, fun p2 hp2 => ?_⟩
    refine ⟨p2, _, rfl, .inl (SqL.of upd_same), fun p3 hp3 => ?_⟩
    refine ⟨_, rfl, sz (by decide : 4 ≤ 100000), fun p4 hp4 => ?_⟩
    refine q p4 p3 _ (g1.trans ((same_new hp2 _).trans ((same_new hp3 _).trans (same_new hp4 _)))) ?_ (g1.free ((same_new hp2 _).free hp3)) ?_
    · exact g1.free ((same_new hp2 _).free ((same_new hp3 _).free hp4))
    · refine bag_upd (ns := ms) (Ne.symm (Ne.symm (ne_of_none (H := upd _ p3 _) upd_same hp4))) ?_ (by omega) (by decide) (by decide) h0 h1
      rw [upd_same, em]
abbrev s_pull : Stmt := top 6
theorem sc_pull : FnScope ["_law_bag_here", "_law_amount", "_law_cell", "_law_got", "_law_seed"] ["_law_bag_here", "_law_amount"] (defScope s_pull) := ⟨rfl, rfl, rfl, by decide +kernel, rfl, by decide +kernel, by decide +kernel⟩
theorem ok_pull (B : Blt mg) (F : Fun K "_law_pull" "_law_pull" s_pull f fd) : FnOk P w K mg base CX0 1 f fd ["_law_bag_here", "_law_amount"] spPull := by
  refine F.ok sc_pull (fun vs H Q E h => ?_) (fun cdv A outer s H vs Q E hr h => ?_)
  · obtain ⟨b, l, m, rfl, _⟩ := h
    rfl
  obtain ⟨b, l, m, rfl, hB, hm0, hm1, q⟩ := h
  refine ⟨_, (pss_cons (ps_if (PW.pt (pw_and (pt_cmpR op_eq (pe_ix ix_list (pv 0) pe_int (fun _ _ => rfl)) pe_int (nomark _)) (pw_and1 (pt_cmpR op_lt (pe_ix ix_list (pv 0) pe_int (fun _ _ => rfl)) (pe_callB call_len_seq rfl B.len bt_len (pa_cons (pe_ix ix_list (pv 0) pe_int (fun _ _ => rfl)) pa_nil)) (nomark _)))))
    (pss_cons (ps_set (i := 2) sc_pull.nd rfl (Or.inl rfl) (pe_ix ix_list (pe_ix ix_list (pv 0) pe_int (fun _ _ => rfl)) (pe_ix ix_list (pv 0) pe_int (fun _ _ => rfl)) (fun _ _ => rfl)))
    (pss_cons (ps_asg (pe_op op_add (pe_ix ix_list (pv 0) pe_int (fun _ _ => rfl)) pe_int) (pg_sub (pv 0) pe_int set_list))
    (pss_one (ps_if (pt_cmpR op_ge (pv 2) (pe_op op_pow pe_int pe_int) (nomark _))
    (pss_one (ps_asg (pv 2) (pg_sub (pv 0) pe_int set_list)))
    (pss_one (ps_asg (pe_op op_mod (pe_op op_add (pe_op op_add (pe_op op_mul (pe_ix ix_list (pv 0) pe_int (fun _ _ => rfl)) pe_int) (pe_op op_mul (pe_op op_mod (pv 2) pe_int) pe_int)) pe_int) pe_int) (pg_sub (pv 0) pe_int set_list)))))))
    pss_nil)
    (pss_cons (ps_if (pt_cmpR op_gt (pe_ix ix_list (pv 0) pe_int (fun _ _ => rfl)) pe_int (nomark _))
    (pss_cons (ps_set (i := 3) sc_pull.nd rfl (Or.inl rfl) (pe_op op_mod (pe_ix ix_list (pv 0) pe_int (fun _ _ => rfl)) (pv 1)))
    (pss_cons (ps_asg (pe_op op_fdivW (pe_ix ix_list (pv 0) pe_int (fun _ _ => rfl)) (pv 1)) (pg_sub (pv 0) pe_int set_list))
    (pss_one (ps_ret (pv 3)))))
    pss_nil)
    (pss_cons (ps_set (i := 4) sc_pull.nd rfl (Or.inl rfl) (pe_ix ix_list (pv 0) pe_int (fun _ _ => rfl)))
    (pss_cons (ps_asg (pe_op op_mod (pe_op op_add (pe_op op_add (pe_op op_mul (pv 4) pe_int) (pe_op op_mul (pe_op op_fdiv (pv 4) pe_int) pe_int)) pe_int) pe_int) (pg_sub (pv 0) pe_int set_list))
    (pss_one (ps_ret (pe_op op_mod (pe_op op_add (pe_op op_fdiv (pe_ix ix_list (pv 0) pe_int (fun _ _ => rfl)) pe_int) (pe_op op_mul (pe_op op_mod (pe_ix ix_list (pv 0) pe_int (fun _ _ => rfl)) pe_int) pe_int)) (pv 1)))))))), ?_⟩
  obtain ⟨ns, i, g, z, hb, hl, h63, hi, hg, hz0, hz1⟩ := hB
  have hlb := bag_ne hb hl
  refine seq_with (fun σ' H' => (∃ c, σ' = [some (.ref b), some (.int m), c, none, none]) ∧ BagAt H' b l ∧ But b H H') (fun R hR => ?_) ?_
  · refine ⟨_, rfl, b, _, _, _, rfl, rfl, SqL.of hb, rfl, rfl, _, rfl, ?_⟩
    refine ite2 (fun c => ?_) (fun c => ?_)
    · refine ⟨_, rfl, b, _, _, _, rfl, rfl, SqL.of hb, rfl, _, rfl, b, _, _, _, rfl, rfl, SqL.of hb, rfl, l, _, rfl, .inl (SqL.of hl), _, _, rfl, rfl, _, rfl, ?_⟩
      refine ite2 (fun c2 => ?_) (fun c2 => ?_)
      · have c3 : i < ((ns.map V.int).length : Int) := of_decide_eq_true c2
        rw [List.length_map] at c3
        have hit : i.toNat < ns.length := by omega
        have ei : i = ((i.toNat : Nat) : Int) := by omega
        have hat : atI (ns.map V.int) i = some (.int ns[i.toNat]) := by
          exact at_of ei (by rw [List.getElem?_map, List.getElem?_eq_getElem hit] <;> rfl)
        refine ⟨_, rfl, b, _, _, _, rfl, rfl, SqL.of hb, rfl, _, rfl, b, _, _, _, rfl, rfl, SqL.of hb, rfl, l, _, _, _, rfl, rfl, SqL.of hl, hat, ?_⟩
        refine ⟨_, rfl, b, _, _, _, rfl, rfl, SqL.of hb, rfl, _, _, rfl, rfl, _, rfl, b, _, _, _, rfl, rfl, hb, rfl, ?_⟩
        refine ⟨_, rfl, _, _, rfl, rfl, ⟨by decide, by decide, by decide⟩, _, _, rfl, rfl, _, rfl, ?_⟩
        refine ite2 (fun c4 => ?_) (fun c4 => ?_)
        · have c5 : ns[i.toNat] ≥ (10 : Int) ^ (18 : Int).toNat := of_decide_eq_true c4
          have c6 : (0 : Int) ≤ (10 : Int) ^ (18 : Int).toNat := by decide
          refine ⟨_, rfl, _, rfl, b, _, _, _, rfl, rfl, upd_same, rfl, hR _ _ ⟨⟨_, rfl⟩, ?_, ?_⟩⟩
          · rw [upd_upd]
            exact bag_upd (ns := ns) hlb hl h63 (by omega) (by omega) hz0 hz1
          · rw [upd_upd]
            exact But.upd
        · refine ⟨_, rfl, b, _, _, _, rfl, rfl, SqL.of upd_same, rfl, _, _, rfl, rfl, .inr ⟨by decide, by decide⟩, _, rfl, _, _, rfl, rfl, (by dsimp only; decide), _, _, rfl, rfl, .inr ⟨by decide, by decide⟩, _, _, rfl, rfl, _, _, rfl, rfl, _, _, rfl, rfl, (by dsimp only; decide), ?_⟩
          refine ⟨_, rfl, b, _, _, _, rfl, rfl, upd_same, rfl, hR _ _ ⟨⟨_, rfl⟩, ?_, ?_⟩⟩
          · rw [upd_upd]
            exact bag_upd (ns := ns) hlb hl h63 (by omega) hg (Int.emod_nonneg _ (by decide)) (Int.emod_lt_of_pos _ (by decide))
          · rw [upd_upd]
            exact But.upd
      · refine hR _ _ ⟨⟨_, rfl⟩, ⟨ns, i, g, z, hb, hl, h63, hi, hg, hz0, hz1⟩, But.refl⟩
    · refine iteF ?_
      exact hR _ _ ⟨⟨_, rfl⟩, ⟨ns, i, g, z, hb, hl, h63, hi, hg, hz0, hz1⟩, But.refl⟩
  · rintro σ' H' ⟨⟨c, rfl⟩, hB', hBut⟩
    obtain ⟨ns, i, g, z, hb, hl, h63, hi, hg, hz0, hz1⟩ := hB'
    have hlb := bag_ne hb hl
    refine ⟨_, rfl, b, _, _, _, rfl, rfl, SqL.of hb, rfl, _, _, rfl, rfl, _, rfl, ?_⟩
    refine ite2 (fun c => ?_) (fun c => ?_)
    · refine ⟨_, rfl, b, _, _, _, rfl, rfl, SqL.of hb, rfl, _, rfl, _, _, rfl, rfl, hm0, ?_⟩
      refine ⟨_, rfl, b, _, _, _, rfl, rfl, SqL.of hb, rfl, _, rfl, _, _, rfl, rfl, wide_div (b := 62) hm0 (by omega) (by decide) (by decide), ?_⟩
      refine ⟨_, rfl, b, _, _, _, rfl, rfl, hb, rfl, _, rfl, ?_⟩
      refine q _ _ ?_ (hBut.trans But.upd) (Int.emod_nonneg _ (by omega)) (Int.emod_lt_of_pos _ hm0)
      exact bag_upd (ns := ns) hlb hl h63 hi (Int.ediv_nonneg hg (by omega)) hz0 hz1
    · refine ⟨_, rfl, b, _, _, _, rfl, rfl, SqL.of hb, rfl, ?_⟩
      refine ⟨_, rfl, _, _, rfl, rfl, .inr ⟨by decide, by decide⟩, _, rfl, _, _, rfl, rfl, ⟨by decide, by decide⟩, _, _, rfl, rfl, .inr ⟨by decide, by decide⟩, _, _, rfl, rfl, _, _, rfl, rfl, _, _, rfl, rfl, (by dsimp only; decide), ?_⟩
      refine ⟨_, rfl, b, _, _, _, rfl, rfl, hb, rfl, ?_⟩
      refine ⟨_, rfl, b, _, _, _, rfl, rfl, SqL.of upd_same, rfl, _, _, rfl, rfl, ⟨by decide, by decide⟩, _, rfl, b, _, _, _, rfl, rfl, SqL.of upd_same, rfl, _, _, rfl, rfl, (by dsimp only; decide), _, _, rfl, rfl, .inr ⟨by decide, by decide⟩, _, _, rfl, rfl, _, rfl, _, _, rfl, rfl, hm0, ?_⟩
      refine q _ _ ?_ (hBut.trans But.upd) (Int.emod_nonneg _ (by omega)) (Int.emod_lt_of_pos _ hm0)
      exact bag_upd (ns := ns) hlb hl h63 hi hg (Int.emod_nonneg _ (by decide)) (Int.emod_lt_of_pos _ (by decide))
abbrev s_of : Stmt := top 7
theorem sc_of : FnScope ["_law_bag_here", "_law_things"] ["_law_bag_here", "_law_things"] (defScope s_of) := ⟨rfl, rfl, rfl, by decide +kernel, rfl, by decide +kernel, by decide +kernel⟩
theorem ok_of (B : Blt mg) (c_pull : Cal P w K mg base 1 "_law_pull" ["_law_bag_here", "_law_amount"] spPull) (F : Fun K "_law_of" "_law_of" s_of f fd) : FnOk P w K mg base CX0 2 f fd ["_law_bag_here", "_law_things"] spOf := by
  refine F.ok sc_of (fun vs H Q E h => ?_) (fun cdv A outer s H vs Q E hr h => ?_)
  · obtain ⟨b, l, p, xs, rfl, _⟩ := h
    rfl
  obtain ⟨b, l, p, xs, rfl, hB, hp, hpb, h0, h1, q⟩ := h
  refine ⟨_, (pss_one (ps_ret (pe_ix ix_list (pv 1) (pe_cal c_pull hr (pa_cons (pv 0) (pa_cons (pe_callB call_len_seq rfl B.len bt_len (pa_cons (pv 1) pa_nil)) pa_nil))) (fun _ _ => rfl)))), ?_⟩
  refine ⟨_, rfl, _, rfl, _, rfl, p, xs, rfl, .inl (SqL.of hp), b, _, _, rfl, hB, by omega, by omega, fun r H' hB' hbut r0 r1 => ?_⟩
  have hr' : r.toNat < xs.length := by omega
  have er : r = ((r.toNat : Nat) : Int) := by omega
  have hat : atI xs r = some xs[r.toNat] := by
    exact at_of er (List.getElem?_eq_getElem hr')
  exact ⟨p, xs, r, _, rfl, rfl, SqL.of (hbut _ _ hpb hp), hat, q _ _ hB' hbut (List.getElem_mem hr')⟩
end
end DM

namespace DM
open PySem L2
/-! ### what is like what -/
def scl : V → Bool
  | .non => true | .bl _ => true | .int _ => true | .str _ => true
  | _ => false
def Alike : Nat → Hp → V → V → Prop
  | 0, _, x, y => x = y ∧ scl x = true
  | n + 1, H, x, y => (x = y ∧ scl x = true) ∨
    (∃ p q xs ys, x = .ref p ∧ y = .ref q ∧ H p = some (.tup xs) ∧ H q = some (.tup ys) ∧ xs.length = ys.length ∧ xs.length ≤ 1000 ∧ ∀ (i : Nat) (x y : V), xs[i]? = some x → ys[i]? = some y → Alike n H x y) ∨
    (∃ p q xs ys, x = .ref p ∧ y = .ref q ∧ H p = some (.lst xs) ∧ H q = some (.lst ys) ∧ xs.length = ys.length ∧ xs.length ≤ 1000 ∧ ∀ (i : Nat) (x y : V), xs[i]? = some x → ys[i]? = some y → Alike n H x y)
theorem Alike.same : ∀ {n : Nat} {H H' : Hp} {x y : V}, Alike n H x y → Same H H' → Alike n H' x y
  | 0, _, _, _, _, h, _ => h
  | n + 1, _, _, _, _, h, e => by
    rcases h with h | ⟨p, q, xs, ys, a, b, c, d, l, m, r⟩ | ⟨p, q, xs, ys, a, b, c, d, l, m, r⟩
    · exact .inl h
    · exact .inr (.inl ⟨p, q, xs, ys, a, b, e _ _ c, e _ _ d, l, m, fun i x y hx hy => (r i x y hx hy).same e⟩)
    · exact .inr (.inr ⟨p, q, xs, ys, a, b, e _ _ c, e _ _ d, l, m, fun i x y hx hy => (r i x y hx hy).same e⟩)
theorem Alike.scal {n : Nat} {H : Hp} {x : V} (h : scl x = true) : Alike n H x x := by
  cases n with
  | zero => exact ⟨rfl, h⟩
  | succ n => exact .inl ⟨rfl, h⟩
theorem Alike.of_eq {n : Nat} {H : Hp} {x y : V} (e : x = y) (h : scl x = true) : Alike n H x y := by
  subst e
  exact Alike.scal h
theorem Alike.up : ∀ {n : Nat} {H : Hp} {x y : V}, Alike n H x y → Alike (n + 1) H x y
  | 0, _, _, _, h => .inl h
  | _ + 1, _, _, _, .inl h => .inl h
  | _ + 1, _, _, _, .inr (.inl ⟨p, q, xs, ys, a, b, c, d, e, f, g⟩) => .inr (.inl ⟨p, q, xs, ys, a, b, c, d, e, f, fun i x y hx hy => (g i x y hx hy).up⟩)
  | _ + 1, _, _, _, .inr (.inr ⟨p, q, xs, ys, a, b, c, d, e, f, g⟩) => .inr (.inr ⟨p, q, xs, ys, a, b, c, d, e, f, fun i x y hx hy => (g i x y hx hy).up⟩)
theorem alike_pair {n : Nat} {H : Hp} {u v : Int} : ∀ (i : Nat) (x y : V), ([.int u, .int v] : List V)[i]? = some x → ([.int u, .int v] : List V)[i]? = some y → Alike n H x y
  | 0, _, _, hx, hy => by cases hx; cases hy; exact Alike.scal rfl
  | 1, _, _, hx, hy => by cases hx; cases hy; exact Alike.scal rfl
def spLike (n : Nat) : Sp := fun vs H Q _ => ∃ x y, vs = [x, y] ∧ Alike n H x y ∧ ∀ H', Same H H' → Q (.bl true) H'
theorem if_pos' {c A B : Prop} [Decidable c] (h : c) (a : A) : if c then A else B := by
  rw [if_pos h]
  exact a
theorem lc_yes {σ : St} {H : Hp} {A B : Hp → Prop} (h : A H) : tYes σ H (fun b H3 => if b = true then A H3 else B H3) := by
  show (if true = true then A H else B H)
  rw [if_pos rfl]
  exact h
def tyn : V → String
  | .non => "NoneType" | .bl _ => "bool" | .int _ => "int" | .str _ => "str"
  | _ => ""
theorem tyn_x {K : PySem.W.Frag} {H : Hp} : ∀ {x : V}, scl x = true → TyX K H x (.type (tyn x))
  | .non, _ => .base .non
  | .bl b, _ => .base (.bl b)
  | .int i, _ => .base (.int i)
  | .str s, _ => .base (.str s)
theorem tyn_no {K : PySem.W.Frag} : ∀ {x : V}, scl x = true → PySem.W.kitOne K (.type (tyn x)) (.type "dict") = some false ∧ PySem.W.kitOne K (.type (tyn x)) (.type "tuple") = some false ∧ PySem.W.kitOne K (.type (tyn x)) (.type "list") = some false ∧ ∃ b, PySem.W.kitOne K (.type (tyn x)) (.type "bool") = some b
  | .non, _ => ⟨kit_ty (by decide +kernel : kitB "NoneType" "dict" = some false), kit_ty (by decide +kernel : kitB "NoneType" "tuple" = some false), kit_ty (by decide +kernel : kitB "NoneType" "list" = some false), _, kit_ty (by decide +kernel : kitB "NoneType" "bool" = some false)⟩
  | .bl _, _ => ⟨kit_ty (by decide +kernel : kitB "bool" "dict" = some false), kit_ty (by decide +kernel : kitB "bool" "tuple" = some false), kit_ty (by decide +kernel : kitB "bool" "list" = some false), _, kit_ty (by decide +kernel : kitB "bool" "bool" = some true)⟩
  | .int _, _ => ⟨kit_ty (by decide +kernel : kitB "int" "dict" = some false), kit_ty (by decide +kernel : kitB "int" "tuple" = some false), kit_ty (by decide +kernel : kitB "int" "list" = some false), _, kit_ty (by decide +kernel : kitB "int" "bool" = some false)⟩
  | .str _, _ => ⟨kit_ty (by decide +kernel : kitB "str" "dict" = some false), kit_ty (by decide +kernel : kitB "str" "tuple" = some false), kit_ty (by decide +kernel : kitB "str" "list" = some false), _, kit_ty (by decide +kernel : kitB "str" "bool" = some false)⟩
theorem scl_eq : ∀ {x : V}, scl x = true → L2.scal x x = true
  | .non, _ => rfl
  | .bl _, _ => rfl
  | .int _, _ => rfl
  | .str _, _ => rfl
section
variable {P : Program} {w : World} {K : PySem.W.Frag} {mg : Str → Option Value} {base : Heap} {f : Addr} {fd : FuncData}
abbrev s_like : Stmt := top 8
theorem sc_like : FnScope ["_law_found", "_law_due", "_law_k"] ["_law_found", "_law_due"] (defScope s_like) := ⟨rfl, rfl, rfl, by decide +kernel, rfl, by decide +kernel, by decide +kernel⟩
theorem like_leaf {k n : Nat} (B : Blt mg) (F : Fun K "_law_like" "_law_like" s_like f fd) (x : V) (hx : scl x = true) (cdv : Value) (A : Around) (outer : List Env) (s : Shared) (H : Hp) (Q : VK) (E : XK) (hr : Room k (A.deeper (PyProof.Rows.envOfC "_law_like" (defScope s_like) s.heap.objs.size f cdv))) (q : ∀ H', Same H H' → Q (.bl true) H') :
    ∃ t, PSs (cxOf CX0 P w K mg base ["_law_found", "_law_due", "_law_k"] "_law_like" (defScope s_like) f cdv A outer s H E).nox (defBody s_like) t ∧ t { nx := fun _ H' => Q .non H', rt := Q } (start ["_law_found", "_law_due", "_law_k"] [x, x]) H := by
  refine ⟨_, (pss_cons (ps_if (pt_val (pe_callB call_isi rfl B.isinstance bt_isinstance (pa_cons (pv 1) (pa_cons (pe_bltn (v := .ty "dict") rfl B.dict bt_dict rfl) pa_nil)))) pss_never pss_nil) (pss_cons (ps_if (PW.pt (pw_or (pt_cmpR op_ne (pe_callB call_isi rfl B.isinstance bt_isinstance (pa_cons (pv 1) (pa_cons (pe_bltn (v := .ty "tuple") rfl B.tuple bt_tuple rfl) pa_nil))) (pe_callB call_isi rfl B.isinstance bt_isinstance (pa_cons (pv 0) (pa_cons (pe_bltn (v := .ty "tuple") rfl B.tuple bt_tuple rfl) pa_nil))) (nomark _)) (pw_or1 (pt_cmpR op_ne (pe_callB call_isi rfl B.isinstance bt_isinstance (pa_cons (pv 1) (pa_cons (pe_bltn (v := .ty "list") rfl B.list bt_list rfl) pa_nil))) (pe_callB call_isi rfl B.isinstance bt_isinstance (pa_cons (pv 0) (pa_cons (pe_bltn (v := .ty "list") rfl B.list bt_list rfl) pa_nil))) (nomark _))))) pss_never pss_nil) (pss_cons (ps_if (pt_not (pt_val (pe_callB call_isiT rfl B.isinstance bt_isinstance (pa_cons (pv 1) (pa_cons (pe_tup (pa_cons (pe_bltn (v := .ty "tuple") rfl B.tuple bt_tuple rfl) (pa_cons (pe_bltn (v := .ty "list") rfl B.list bt_list rfl) pa_nil))) pa_nil))))) (pss_one (ps_ret (pe_and (pe_cmpR op_eq (pe_callB call_isi rfl B.isinstance bt_isinstance (pa_cons (pv 0) (pa_cons (pe_bltn (v := .ty "bool") rfl B.bool bt_bool rfl) pa_nil))) (pe_callB call_isi rfl B.isinstance bt_isinstance (pa_cons (pv 1) (pa_cons (pe_bltn (v := .ty "bool") rfl B.bool bt_bool rfl) pa_nil))) (nomark _)) (pe_one (pe_cmpR op_eq (pv 0) (pv 1) (nomark _)))))) pss_nil) pss_never))), ?_⟩
  have ty : ∀ H', TyX K H' x (.type (tyn x)) := fun H' => tyn_x hx
  obtain ⟨kd, kt, kl, b, kb⟩ := tyn_no (K := K) hx
  refine ⟨_, rfl, _, _, _, _, _, rfl, .ty _, ty _, kd, _, rfl, iteF ?_⟩
  refine ⟨_, rfl, _, _, _, _, _, rfl, .ty _, ty _, kt, _, rfl, _, _, _, _, _, rfl, .ty _, ty _, kt, rfl, _, rfl, iteF ?_⟩
  refine ⟨_, rfl, _, _, _, _, _, rfl, .ty _, ty _, kl, _, rfl, _, _, _, _, _, rfl, .ty _, ty _, kl, rfl, _, rfl, iteF ?_⟩
  refine ⟨_, rfl, sz (by decide : 2 ≤ 100000), fun p1 hp1 => ?_⟩
  refine ⟨_, p1, _, _, _, false, rfl, upd_same, .cons (.ty _) (.cons (.ty _) .nil), ty _, kitAny_cons kt (fun _ => kitAny_cons kl (fun _ => kitAny_nil) (fun z => nomatch z)) (fun z => nomatch z), _, rfl, iteT ?_⟩
  refine ⟨_, rfl, _, _, _, _, _, rfl, .ty _, ty _, kb, _, rfl, _, _, _, _, _, rfl, .ty _, ty _, kb, rfl, _, rfl, ?_⟩
  refine if_pos' (decide_eq_true rfl) ?_
  refine ⟨_, rfl, _, rfl, scl_eq hx, ?_⟩
  have e : decide (x = x) = true := decide_eq_true rfl
  rw [e]
  exact q _ (same_new hp1 _)
theorem ok_like0 (B : Blt mg) (F : Fun K "_law_like" "_law_like" s_like f fd) : FnOk P w K mg base CX0 1 f fd ["_law_found", "_law_due"] (spLike 0) := by
  refine F.ok sc_like (fun vs H Q E h => ?_) (fun cdv A outer s H vs Q E hr h => ?_)
  · obtain ⟨x, y, rfl, _⟩ := h
    rfl
  obtain ⟨x, y, rfl, ⟨rfl, hx⟩, q⟩ := h
  exact like_leaf (n := 0) B F x hx cdv A outer s H Q E hr q
theorem ok_likeS {n : Nat} (B : Blt mg) (F : Fun K "_law_like" "_law_like" s_like f fd) (c_like : Cal P w K mg base (n + 1) "_law_like" ["_law_found", "_law_due"] (spLike n)) : FnOk P w K mg base CX0 (n + 2) f fd ["_law_found", "_law_due"] (spLike (n + 1)) := by
  refine F.ok sc_like (fun vs H Q E h => ?_) (fun cdv A outer s H vs Q E hr h => ?_)
  · obtain ⟨x, y, rfl, _⟩ := h
    rfl
  obtain ⟨x, y, rfl, hA, q⟩ := h
  rcases hA with ⟨rfl, hx⟩ | ⟨p, q0, xs, ys, rfl, rfl, hp, hq, hlen, h1000, hall⟩ | ⟨p, q0, xs, ys, rfl, rfl, hp, hq, hlen, h1000, hall⟩
  · exact like_leaf (n := n) B F x hx cdv A outer s H Q E hr q
  ·
    refine ⟨_, (pss_cons (ps_if (pt_val (pe_callB call_isi rfl B.isinstance bt_isinstance (pa_cons (pv 1) (pa_cons (pe_bltn (v := .ty "dict") rfl B.dict bt_dict rfl) pa_nil)))) pss_never pss_nil) (pss_cons (ps_if (PW.pt (pw_or (pt_cmpR op_ne (pe_callB call_isi rfl B.isinstance bt_isinstance (pa_cons (pv 1) (pa_cons (pe_bltn (v := .ty "tuple") rfl B.tuple bt_tuple rfl) pa_nil))) (pe_callB call_isi rfl B.isinstance bt_isinstance (pa_cons (pv 0) (pa_cons (pe_bltn (v := .ty "tuple") rfl B.tuple bt_tuple rfl) pa_nil))) (nomark _)) (pw_or1 (pt_cmpR op_ne (pe_callB call_isi rfl B.isinstance bt_isinstance (pa_cons (pv 1) (pa_cons (pe_bltn (v := .ty "list") rfl B.list bt_list rfl) pa_nil))) (pe_callB call_isi rfl B.isinstance bt_isinstance (pa_cons (pv 0) (pa_cons (pe_bltn (v := .ty "list") rfl B.list bt_list rfl) pa_nil))) (nomark _))))) pss_never pss_nil) (pss_cons (ps_if (pt_not (pt_val (pe_callB call_isiT rfl B.isinstance bt_isinstance (pa_cons (pv 1) (pa_cons (pe_tup (pa_cons (pe_bltn (v := .ty "tuple") rfl B.tuple bt_tuple rfl) (pa_cons (pe_bltn (v := .ty "list") rfl B.list bt_list rfl) pa_nil))) pa_nil))))) pss_never pss_nil) (pss_one (ps_ret (pe_and (pe_cmpR op_eq (pe_callB call_len_seq rfl B.len bt_len (pa_cons (pv 0) pa_nil)) (pe_callB call_len_seq rfl B.len bt_len (pa_cons (pv 1) pa_nil)) (nomark _)) (pe_one (pe_callB (cr_all rfl) rfl B.all bt_all (pa_cons (pe_lc (own := [("_law_k", 2)]) (g := gName 2) (tt := tYes) rfl sc_like.nd (pi_range1 rfl B.range (pa_cons (pe_callB call_len_seq rfl B.len bt_len (pa_cons (pv 1) pa_nil)) pa_nil)) (blkOk_by (own := [("_law_k", 2)]) (N := ["_law_found", "_law_due", "_law_k"]) (sc := defScope s_like) (by decide +kernel)) (fun _ _ _ _ _ => pg_name (i := 2) sc_like.nd rfl (Or.inl rfl)) (fun _ _ _ _ _ => pts_nil) (fun _ _ _ _ _ => (pe_cal c_like hr (pa_cons (pe_ix (r := rIxT K) ix_tup (pv 0) (pv 2) (fun _ _ => rfl)) (pa_cons (pe_ix (r := rIxT K) ix_tup (pv 1) (pv 2) (fun _ _ => rfl)) pa_nil)) (Nat.le_refl _)))) pa_nil))))))))), ?_⟩
    refine ⟨_, rfl, _, _, _, _, _, rfl, .ty _, .base (TyOf.tup hq), kit_ty (by decide +kernel : kitB "tuple" "dict" = some false), _, rfl, iteF ?_⟩
    refine ⟨_, rfl, _, _, _, _, _, rfl, .ty _, .base (TyOf.tup hq), kit_ty (by decide +kernel : kitB "tuple" "tuple" = some true), _, rfl, _, _, _, _, _, rfl, .ty _, .base (TyOf.tup hp), kit_ty (by decide +kernel : kitB "tuple" "tuple" = some true), rfl, _, rfl, iteF ?_⟩
    refine ⟨_, rfl, _, _, _, _, _, rfl, .ty _, .base (TyOf.tup hq), kit_ty (by decide +kernel : kitB "tuple" "list" = some false), _, rfl, _, _, _, _, _, rfl, .ty _, .base (TyOf.tup hp), kit_ty (by decide +kernel : kitB "tuple" "list" = some false), rfl, _, rfl, iteF ?_⟩
    refine ⟨_, rfl, sz (by decide : 2 ≤ 100000), fun p1 hp1 => ?_⟩
    have g1 := same_new hp1 (.tup [.ty "tuple", .ty "list"])
    have hp' := g1 _ _ hp
    have hq' := g1 _ _ hq
    refine ⟨_, p1, _, _, _, true, rfl, upd_same, .cons (.ty _) (.cons (.ty _) .nil), .base (TyOf.tup hq'), kitAny_cons (kit_ty (by decide +kernel : kitB "tuple" "tuple" = some true)) (fun z => nomatch z) (fun _ => rfl), _, rfl, iteF ?_⟩
    refine ⟨_, rfl, p, xs, rfl, .inr (SqT.of hp'), _, rfl, q0, ys, rfl, .inr (SqT.of hq'), rfl, _, rfl, ?_⟩
    have el : V.int (xs.length : Int) = V.int (ys.length : Int) := by rw [hlen]
    refine if_pos' (decide_eq_true el) ?_
    refine ⟨_, rfl, q0, ys, rfl, .inr (SqT.of hq'), _, rfl, by omega, by omega, fun D hD => ?_⟩
    have en : ((ys.length : Int)).toNat = ys.length := by omega
    refine lc_range (lo := 0) (n := ((ys.length : Int)).toNat) (fun i H' => Same (upd H p1 (.tup [.ty "tuple", .ty "list"])) H' ∧ H' D = some (.lst ((List.replicate i true).map V.bl))) ?_ ?_ ?_
    · exact ⟨same_new hD _, upd_same⟩
    · rintro i H' hi ⟨sm, hd'⟩
      refine ⟨rfl, lc_yes ?_⟩
      have hi1 : i < xs.length := by omega
      have hi2 : i < ys.length := by omega
      refine ⟨_, rfl, _, rfl, p, xs, _, _, rfl, rfl, SqT.of (sm _ _ hp'), at_of (by omega) (List.getElem?_eq_getElem hi1), _, rfl, _, rfl, q0, ys, _, _, rfl, rfl, SqT.of (sm _ _ hq'), at_of (by omega) (List.getElem?_eq_getElem hi2), ?_⟩
      refine ⟨_, _, rfl, (hall i _ _ (List.getElem?_eq_getElem hi1) (List.getElem?_eq_getElem hi2)).same (g1.trans sm), fun H2 s2 => ?_⟩
      refine ⟨_, s2 _ _ hd', ?_, ?_, ?_⟩
      · rw [List.length_map, List.length_replicate]
        exact Nat.lt_of_lt_of_le (by omega : i < 100000) (sz (Nat.le_refl _))
      · exact fun a o e => by rw [upd_ne (ne_of_none e hD)]; exact s2 _ _ (sm _ _ e)
      · rw [upd_same, List.replicate_succ', List.map_append]
        rfl
    · rintro H' ⟨sm, hd'⟩
      refine ⟨D, _, rfl, SqL.of hd', ?_⟩
      have ea : (List.replicate ((ys.length : Int)).toNat true).all id = true := by simp
      rw [ea]
      exact q _ (g1.trans sm)
  ·
    refine ⟨_, (pss_cons (ps_if (pt_val (pe_callB call_isi rfl B.isinstance bt_isinstance (pa_cons (pv 1) (pa_cons (pe_bltn (v := .ty "dict") rfl B.dict bt_dict rfl) pa_nil)))) pss_never pss_nil) (pss_cons (ps_if (PW.pt (pw_or (pt_cmpR op_ne (pe_callB call_isi rfl B.isinstance bt_isinstance (pa_cons (pv 1) (pa_cons (pe_bltn (v := .ty "tuple") rfl B.tuple bt_tuple rfl) pa_nil))) (pe_callB call_isi rfl B.isinstance bt_isinstance (pa_cons (pv 0) (pa_cons (pe_bltn (v := .ty "tuple") rfl B.tuple bt_tuple rfl) pa_nil))) (nomark _)) (pw_or1 (pt_cmpR op_ne (pe_callB call_isi rfl B.isinstance bt_isinstance (pa_cons (pv 1) (pa_cons (pe_bltn (v := .ty "list") rfl B.list bt_list rfl) pa_nil))) (pe_callB call_isi rfl B.isinstance bt_isinstance (pa_cons (pv 0) (pa_cons (pe_bltn (v := .ty "list") rfl B.list bt_list rfl) pa_nil))) (nomark _))))) pss_never pss_nil) (pss_cons (ps_if (pt_not (pt_val (pe_callB call_isiT rfl B.isinstance bt_isinstance (pa_cons (pv 1) (pa_cons (pe_tup (pa_cons (pe_bltn (v := .ty "tuple") rfl B.tuple bt_tuple rfl) (pa_cons (pe_bltn (v := .ty "list") rfl B.list bt_list rfl) pa_nil))) pa_nil))))) pss_never pss_nil) (pss_one (ps_ret (pe_and (pe_cmpR op_eq (pe_callB call_len_seq rfl B.len bt_len (pa_cons (pv 0) pa_nil)) (pe_callB call_len_seq rfl B.len bt_len (pa_cons (pv 1) pa_nil)) (nomark _)) (pe_one (pe_callB (cr_all rfl) rfl B.all bt_all (pa_cons (pe_lc (own := [("_law_k", 2)]) (g := gName 2) (tt := tYes) rfl sc_like.nd (pi_range1 rfl B.range (pa_cons (pe_callB call_len_seq rfl B.len bt_len (pa_cons (pv 1) pa_nil)) pa_nil)) (blkOk_by (own := [("_law_k", 2)]) (N := ["_law_found", "_law_due", "_law_k"]) (sc := defScope s_like) (by decide +kernel)) (fun _ _ _ _ _ => pg_name (i := 2) sc_like.nd rfl (Or.inl rfl)) (fun _ _ _ _ _ => pts_nil) (fun _ _ _ _ _ => (pe_cal c_like hr (pa_cons (pe_ix (r := rIxL K) ix_list (pv 0) (pv 2) (fun _ _ => rfl)) (pa_cons (pe_ix (r := rIxL K) ix_list (pv 1) (pv 2) (fun _ _ => rfl)) pa_nil)) (Nat.le_refl _)))) pa_nil))))))))), ?_⟩
    refine ⟨_, rfl, _, _, _, _, _, rfl, .ty _, .base (TyOf.lst hq), kit_ty (by decide +kernel : kitB "list" "dict" = some false), _, rfl, iteF ?_⟩
    refine ⟨_, rfl, _, _, _, _, _, rfl, .ty _, .base (TyOf.lst hq), kit_ty (by decide +kernel : kitB "list" "tuple" = some false), _, rfl, _, _, _, _, _, rfl, .ty _, .base (TyOf.lst hp), kit_ty (by decide +kernel : kitB "list" "tuple" = some false), rfl, _, rfl, iteF ?_⟩
    refine ⟨_, rfl, _, _, _, _, _, rfl, .ty _, .base (TyOf.lst hq), kit_ty (by decide +kernel : kitB "list" "list" = some true), _, rfl, _, _, _, _, _, rfl, .ty _, .base (TyOf.lst hp), kit_ty (by decide +kernel : kitB "list" "list" = some true), rfl, _, rfl, iteF ?_⟩
    refine ⟨_, rfl, sz (by decide : 2 ≤ 100000), fun p1 hp1 => ?_⟩
    have g1 := same_new hp1 (.tup [.ty "tuple", .ty "list"])
    have hp' := g1 _ _ hp
    have hq' := g1 _ _ hq
    refine ⟨_, p1, _, _, _, true, rfl, upd_same, .cons (.ty _) (.cons (.ty _) .nil), .base (TyOf.lst hq'), kitAny_cons (kit_ty (by decide +kernel : kitB "list" "tuple" = some false)) (fun _ => kitAny_cons (kit_ty (by decide +kernel : kitB "list" "list" = some true)) (fun z => nomatch z) (fun _ => rfl)) (fun z => nomatch z), _, rfl, iteF ?_⟩
    refine ⟨_, rfl, p, xs, rfl, .inl (SqL.of hp'), _, rfl, q0, ys, rfl, .inl (SqL.of hq'), rfl, _, rfl, ?_⟩
    have el : V.int (xs.length : Int) = V.int (ys.length : Int) := by rw [hlen]
    refine if_pos' (decide_eq_true el) ?_
    refine ⟨_, rfl, q0, ys, rfl, .inl (SqL.of hq'), _, rfl, by omega, by omega, fun D hD => ?_⟩
    have en : ((ys.length : Int)).toNat = ys.length := by omega
    refine lc_range (lo := 0) (n := ((ys.length : Int)).toNat) (fun i H' => Same (upd H p1 (.tup [.ty "tuple", .ty "list"])) H' ∧ H' D = some (.lst ((List.replicate i true).map V.bl))) ?_ ?_ ?_
    · exact ⟨same_new hD _, upd_same⟩
    · rintro i H' hi ⟨sm, hd'⟩
      refine ⟨rfl, lc_yes ?_⟩
      have hi1 : i < xs.length := by omega
      have hi2 : i < ys.length := by omega
      refine ⟨_, rfl, _, rfl, p, xs, _, _, rfl, rfl, SqL.of (sm _ _ hp'), at_of (by omega) (List.getElem?_eq_getElem hi1), _, rfl, _, rfl, q0, ys, _, _, rfl, rfl, SqL.of (sm _ _ hq'), at_of (by omega) (List.getElem?_eq_getElem hi2), ?_⟩
      refine ⟨_, _, rfl, (hall i _ _ (List.getElem?_eq_getElem hi1) (List.getElem?_eq_getElem hi2)).same (g1.trans sm), fun H2 s2 => ?_⟩
      refine ⟨_, s2 _ _ hd', ?_, ?_, ?_⟩
      · rw [List.length_map, List.length_replicate]
        exact Nat.lt_of_lt_of_le (by omega : i < 100000) (sz (Nat.le_refl _))
      · exact fun a o e => by rw [upd_ne (ne_of_none e hD)]; exact s2 _ _ (sm _ _ e)
      · rw [upd_same, List.replicate_succ', List.map_append]
        rfl
    · rintro H' ⟨sm, hd'⟩
      refine ⟨D, _, rfl, SqL.of hd', ?_⟩
      have ea : (List.replicate ((ys.length : Int)).toNat true).all id = true := by simp
      rw [ea]
      exact q _ (g1.trans sm)

theorem ok_like (B : Blt mg) (F : Fun K "_law_like" "_law_like" s_like f fd) (b : Binds K fd ["_law_found", "_law_due"] []) (m : mg "_law_like" = some (.ref f)) : ∀ n : Nat, FnOk P w K mg base CX0 (n + 1) f fd ["_law_found", "_law_due"] (spLike n)
  | 0 => ok_like0 B F
  | n + 1 => ok_likeS B F ⟨f, fd, ok_like B F b m n, b, F.kp, m⟩
end
end DM

namespace DM
open PySem L2
/-- a pair of numbers from -40 to 40 -/
def Pt (H : Hp) (p : Addr) (x y : Int) : Prop := H p = some (.tup [.int x, .int y]) ∧ -40 ≤ x ∧ x ≤ 40 ∧ -40 ≤ y ∧ y ≤ 40
theorem Pt.same {H H' : Hp} {p : Addr} {x y : Int} (h : Pt H p x y) (e : Same H H') : Pt H' p x y := ⟨e _ _ h.1, h.2⟩
theorem Pt.but {H H' : Hp} {b l p : Addr} {x y : Int} (h : Pt H p x y) (hB : BagAt H b l) (e : But b H H') : Pt H' p x y := ⟨e _ _ (bag_tup hB h.1) h.1, h.2⟩
def spClip : Sp := fun vs H Q _ => ∃ n : Int, vs = [.int n] ∧ ∀ r : Int, -40 ≤ r → r ≤ 40 → Q (.int r) H
def spSpot : Sp := fun vs H Q _ => ∃ (b l pb : Addr) (x y m : Int), vs = [.ref b, .ref pb, .int m] ∧ BagAt H b l ∧ H pb = some (.tup [.int x, .int y]) ∧ 0 < m ∧ m ≤ 1000 ∧ ∀ (p : Addr) (H' : Hp) (x' y' : Int), BagAt H' b l → But b H H' → Pt H' p x' y' → Q (.ref p) H'
def spBase : Sp := fun vs H Q _ => ∃ (b l : Addr), vs = [.ref b] ∧ BagAt H b l ∧ ∀ (p : Addr) (H' : Hp) (x y : Int), BagAt H' b l → But b H H' → H' p = some (.tup [.int x, .int y]) → Q (.ref p) H'
section
variable {P : Program} {w : World} {K : PySem.W.Frag} {mg : Str → Option Value} {base : Heap} {f : Addr} {fd : FuncData}
abbrev s_clipped : Stmt := top 9
theorem sc_clipped : FnScope ["_law_number"] ["_law_number"] (defScope s_clipped) := ⟨rfl, rfl, rfl, by decide +kernel, rfl, by decide +kernel, by decide +kernel⟩
theorem ok_clipped (B : Blt mg) (F : Fun K "_law_clipped" "_law_clipped" s_clipped f fd) : FnOk P w K mg base CX0 1 f fd ["_law_number"] spClip := by
  refine F.ok sc_clipped (fun vs H Q E h => ?_) (fun cdv A outer s H vs Q E hr h => ?_)
  · obtain ⟨n, rfl, _⟩ := h
    rfl
  obtain ⟨n, rfl, q⟩ := h
  refine ⟨_, (pss_one (ps_ret (pe_callB (call_max2 rfl) rfl B.max bt_max (pa_cons (pe_un un_neg pe_int) (pa_cons (pe_callB (call_min2 rfl) rfl B.min bt_min (pa_cons pe_int (pa_cons (pv 0) pa_nil))) pa_nil))))), ?_⟩
  refine ⟨_, rfl, _, rfl, _, _, rfl, _, _, rfl, ?_⟩
  refine q _ ?_ ?_ <;> split <;> split <;> omega
abbrev s_spot : Stmt := top 10
theorem sc_spot : FnScope ["_law_bag_here", "_law_base_here", "_law_wide", "_law_x"] ["_law_bag_here", "_law_base_here", "_law_wide"] (defScope s_spot) := ⟨rfl, rfl, rfl, by decide +kernel, rfl, by decide +kernel, by decide +kernel⟩
theorem ok_spot (c_pull : Cal P w K mg base 1 "_law_pull" ["_law_bag_here", "_law_amount"] spPull) (c_clipped : Cal P w K mg base 1 "_law_clipped" ["_law_number"] spClip) (F : Fun K "_law_spot" "_law_spot" s_spot f fd) : FnOk P w K mg base CX0 2 f fd ["_law_bag_here", "_law_base_here", "_law_wide"] spSpot := by
  refine F.ok sc_spot (fun vs H Q E h => ?_) (fun cdv A outer s H vs Q E hr h => ?_)
  · obtain ⟨b, l, pb, x, y, m, rfl, _⟩ := h
    rfl
  obtain ⟨b, l, pb, x, y, m, rfl, hB, hp, m0, m1, q⟩ := h
  refine ⟨_, (pss_cons (ps_set (i := 3) sc_spot.nd rfl (Or.inl rfl) (pe_cal c_clipped hr (pa_cons (pe_op op_sub (pe_op op_add (pe_ix ix_tup (pv 1) pe_int (fun _ _ => rfl)) (pe_cal c_pull hr (pa_cons (pv 0) (pa_cons (pe_op op_add (pe_op op_mul pe_int (pv 2)) pe_int) pa_nil)))) (pv 2)) pa_nil)))
    (pss_one (ps_ret (pe_tup (pa_cons (pv 3) (pa_cons (pe_cal c_clipped hr (pa_cons (pe_op op_sub (pe_op op_add (pe_ix ix_tup (pv 1) pe_int (fun _ _ => rfl)) (pe_cal c_pull hr (pa_cons (pv 0) (pa_cons (pe_op op_add (pe_op op_mul pe_int (pv 2)) pe_int) pa_nil)))) (pv 2)) pa_nil)) pa_nil)))))), ?_⟩
  refine ⟨_, rfl, pb, _, _, _, rfl, rfl, SqT.of hp, rfl, _, rfl, _, rfl, _, _, rfl, rfl, .inl ⟨by decide, by decide⟩, _, _, rfl, rfl, b, _, _, rfl, hB, by omega, by omega, fun r1 H1 hB1 bt1 r10 r11 => ?_⟩
  refine ⟨_, _, rfl, rfl, _, rfl, _, _, rfl, rfl, _, rfl, fun x' hx1 hx2 => ?_⟩
  have hp1 := bt1 _ _ (bag_tup hB hp) hp
  refine ⟨_, rfl, _, rfl, pb, _, _, _, rfl, rfl, SqT.of hp1, rfl, _, rfl, _, rfl, _, _, rfl, rfl, .inl ⟨by decide, by decide⟩, _, _, rfl, rfl, b, _, _, rfl, hB1, by omega, by omega, fun r2 H2 hB2 bt2 r20 r21 => ?_⟩
  refine ⟨_, _, rfl, rfl, _, rfl, _, _, rfl, rfl, _, rfl, fun y' hy1 hy2 => ?_⟩
  refine ⟨sz (by decide : 2 ≤ 100000), fun p hpn => ?_⟩
  exact q p _ x' y' (hB2.same (same_new hpn _)) ((bt1.trans bt2).trans (But.of (same_new hpn _))) ⟨upd_same, hx1, hx2, hy1, hy2⟩
abbrev s_base : Stmt := top 11
theorem sc_base : FnScope ["_law_bag_here", "_law_far"] ["_law_bag_here"] (defScope s_base) := ⟨rfl, rfl, rfl, by decide +kernel, rfl, by decide +kernel, by decide +kernel⟩
theorem ok_base (c_pull : Cal P w K mg base 1 "_law_pull" ["_law_bag_here", "_law_amount"] spPull) (c_of : Cal P w K mg base 2 "_law_of" ["_law_bag_here", "_law_things"] spOf) (F : Fun K "_law_base" "_law_base" s_base f fd) : FnOk P w K mg base CX0 3 f fd ["_law_bag_here"] spBase := by
  refine F.ok sc_base (fun vs H Q E h => ?_) (fun cdv A outer s H vs Q E hr h => ?_)
  · obtain ⟨b, l, rfl, _⟩ := h
    rfl
  obtain ⟨b, l, rfl, hB, q⟩ := h
  refine ⟨_, (pss_cons (ps_set (i := 1) sc_base.nd rfl (Or.inl rfl) (pe_tup (pa_cons (pe_op op_sub (pe_cal c_pull hr (pa_cons (pv 0) (pa_cons pe_int pa_nil))) pe_int) (pa_cons (pe_op op_sub (pe_cal c_pull hr (pa_cons (pv 0) (pa_cons pe_int pa_nil))) pe_int) pa_nil))))
    (pss_one (ps_ret (pe_cal c_of hr (pa_cons (pv 0) (pa_cons (pe_lst (pa_cons (pe_tup (pa_cons pe_int (pa_cons pe_int pa_nil))) (pa_cons (pe_tup (pa_cons pe_int (pa_cons pe_int pa_nil))) (pa_cons (pe_tup (pa_cons pe_int (pa_cons pe_int pa_nil))) (pa_cons (pe_tup (pa_cons (pe_un un_neg pe_int) (pa_cons (pe_un un_neg pe_int) pa_nil))) (pa_cons (pe_tup (pa_cons pe_int (pa_cons pe_int pa_nil))) (pa_cons (pe_tup (pa_cons pe_int (pa_cons (pe_un un_neg pe_int) pa_nil))) (pa_cons (pv 1) pa_nil)))))))) pa_nil)))))), ?_⟩
  refine ⟨_, rfl, b, _, _, rfl, hB, by decide, by decide, fun r1 H1 hB1 bt1 r10 r11 => ?_⟩
  refine ⟨_, _, rfl, rfl, _, rfl, b, _, _, rfl, hB1, by decide, by decide, fun r2 H2 hB2 bt2 r20 r21 => ?_⟩
  refine ⟨_, _, rfl, rfl, sz (by decide : 2 ≤ 100000), fun p0 n0 => ?_⟩
  refine ⟨_, rfl, sz (by decide : 2 ≤ 100000), fun p1 n1 => ⟨sz (by decide : 2 ≤ 100000), fun p2 n2 => ⟨sz (by decide : 2 ≤ 100000), fun p3 n3 => ?_⟩⟩⟩
  refine ⟨_, rfl, _, rfl, sz (by decide : 2 ≤ 100000), fun p4 n4 => ⟨sz (by decide : 2 ≤ 100000), fun p5 n5 => ?_⟩⟩
  refine ⟨_, rfl, sz (by decide : 2 ≤ 100000), fun p6 n6 => ?_⟩
  refine ⟨_, rfl, sz (by decide : 7 ≤ 100000), fun p7 n7 => ?_⟩
  have g0 := same_new n0 (.tup [.int (r1 - 40), .int (r2 - 40)])
  have g1 := same_new n1 (.tup [.int 0, .int 0])
  have g2 := same_new n2 (.tup [.int 0, .int 0])
  have g3 := same_new n3 (.tup [.int 0, .int 0])
  have g4 := same_new n4 (.tup [.int (-38), .int (-38)])
  have g5 := same_new n5 (.tup [.int 38, .int 38])
  have g6 := same_new n6 (.tup [.int 37, .int (-39)])
  have g7 := same_new n7 (.lst [.ref p1, .ref p2, .ref p3, .ref p4, .ref p5, .ref p6, .ref p0])
  have gA := g0.trans (g1.trans (g2.trans (g3.trans (g4.trans (g5.trans (g6.trans g7))))))
  have hB3 := hB2.same gA
  have e0 := (g1.trans (g2.trans (g3.trans (g4.trans (g5.trans (g6.trans g7)))))) _ _ upd_same
  have e1 := (g2.trans (g3.trans (g4.trans (g5.trans (g6.trans g7))))) _ _ upd_same
  have e2 := (g3.trans (g4.trans (g5.trans (g6.trans g7)))) _ _ upd_same
  have e3 := (g4.trans (g5.trans (g6.trans g7))) _ _ upd_same
  have e4 := (g5.trans (g6.trans g7)) _ _ upd_same
  have e5 := (g6.trans g7) _ _ upd_same
  have e6 := g7 _ _ upd_same
  obtain ⟨ys, eb⟩ := (hB2.same (g0.trans (g1.trans (g2.trans (g3.trans (g4.trans (g5.trans g6))))))).hasB
  refine ⟨b, _, p7, _, rfl, hB3, upd_same, Ne.symm (ne_of_none eb n7), by show 0 < 7; decide, by show 7 ≤ 1000; decide, fun v H' hB' bt' hv => ?_⟩
  have btA := (bt1.trans bt2).trans ((But.of gA).trans bt')
  have fin : ∀ (p : Addr) (x y : Int), upd _ p7 _ p = some (.tup [.int x, .int y]) → Q (.ref p) H' := fun p x y e => q p H' x y hB' btA (bt' _ _ (bag_tup hB3 e) e)
  simp only [List.mem_cons, List.not_mem_nil, or_false] at hv
  rcases hv with rfl | rfl | rfl | rfl | rfl | rfl | rfl
  · exact fin _ _ _ e1
  · exact fin _ _ _ e2
  · exact fin _ _ _ e3
  · exact fin _ _ _ e4
  · exact fin _ _ _ e5
  · exact fin _ _ _ e6
  · exact fin _ _ _ e0
end
end DM

namespace DM
open PySem L2
/-- a pair of numbers as data -/
theorem dp_pair {K : PySem.W.Frag} {H : Hp} {p : Addr} {x y : Int} (h : H p = some (.tup [.int x, .int y])) : Dp K H (.ref p) (.tuple [.int x, .int y]) := .tup (SqT.of h) (.cons (.int x) (.cons (.int y) .nil))
theorem dp_four {K : PySem.W.Frag} {H : Hp} {p : Addr} {x y z w : Int} (h : H p = some (.tup [.int x, .int y, .int z, .int w])) : Dp K H (.ref p) (.tuple [.int x, .int y, .int z, .int w]) := .tup (SqT.of h) (.cons (.int x) (.cons (.int y) (.cons (.int z) (.cons (.int w) .nil))))
theorem eqv_pair (a b c d : Int) : PyData.eqv (.tuple [.int a, .int b]) (.tuple [.int c, .int d]) = decide (a = c ∧ b = d) := by
  simp only [PyData.eqv, PyData.eqvAll, Bool.and_true, Bool.decide_and]
  rfl
theorem shaped_pair (a b : Int) : SeqAt.shaped (.tuple [.int a, .int b]) = true := by
  first | rfl | simp [SeqAt.shaped, PyData.canLay0, PyData.depth]
end DM

namespace DM
open PySem L2
/-! ### a stroke as a tuple -/
def Stk (H : Hp) (p : Addr) (x1 y1 x2 y2 : Int) : Prop := H p = some (.tup [.int x1, .int y1, .int x2, .int y2]) ∧ (-40 ≤ x1 ∧ x1 ≤ 40 ∧ -40 ≤ y1 ∧ y1 ≤ 40 ∧ -40 ≤ x2 ∧ x2 ≤ 40 ∧ -40 ≤ y2 ∧ y2 ≤ 40) ∧ ¬ (x1 = x2 ∧ y1 = y2)
theorem Stk.same {H H' : Hp} {p : Addr} {x1 y1 x2 y2 : Int} (h : Stk H p x1 y1 x2 y2) (e : Same H H') : Stk H' p x1 y1 x2 y2 := ⟨e _ _ h.1, h.2⟩
theorem Stk.but {H H' : Hp} {b l p : Addr} {x1 y1 x2 y2 : Int} (h : Stk H p x1 y1 x2 y2) (hB : BagAt H b l) (e : But b H H') : Stk H' p x1 y1 x2 y2 := ⟨e _ _ (bag_tup hB h.1) h.1, h.2⟩
def spStroke : Sp := fun vs H Q _ => ∃ (b l pb : Addr) (x y m : Int), vs = [.ref b, .ref pb, .int m] ∧ BagAt H b l ∧ H pb = some (.tup [.int x, .int y]) ∧ 0 < m ∧ m ≤ 1000 ∧ ∀ (p : Addr) (H' : Hp) (x1 y1 x2 y2 : Int), BagAt H' b l → But b H H' → Stk H' p x1 y1 x2 y2 → Q (.ref p) H'
section
variable {P : Program} {w : World} {K : PySem.W.Frag} {mg : Str → Option Value} {base : Heap} {f : Addr} {fd : FuncData}
abbrev s_stroke : Stmt := top 12
theorem sc_stroke : FnScope ["_law_bag_here", "_law_base_here", "_law_wide", "_law_one", "_law_other"] ["_law_bag_here", "_law_base_here", "_law_wide"] (defScope s_stroke) := ⟨rfl, rfl, rfl, by decide +kernel, rfl, by decide +kernel, by decide +kernel⟩
theorem ok_stroke (c_spot : Cal P w K mg base 2 "_law_spot" ["_law_bag_here", "_law_base_here", "_law_wide"] spSpot) (F : Fun K "_law_stroke" "_law_stroke" s_stroke f fd) : FnOk P w K mg base CX0 3 f fd ["_law_bag_here", "_law_base_here", "_law_wide"] spStroke := by
  refine F.ok sc_stroke (fun vs H Q E h => ?_) (fun cdv A outer s H vs Q E hr h => ?_)
  · obtain ⟨b, l, pb, x, y, m, rfl, _⟩ := h
    rfl
  obtain ⟨b, l, pb, x, y, m, rfl, hB, hp, m0, m1, q⟩ := h
  refine ⟨_, (pss_cons (ps_par (i := 3) (j := 4) (by rfl) sc_stroke.nd rfl rfl (by decide) rfl rfl (pa_cons (pe_cal c_spot hr (pa_cons (pv 0) (pa_cons (pv 1) (pa_cons (pv 2) pa_nil)))) (pa_cons (pe_cal c_spot hr (pa_cons (pv 0) (pa_cons (pv 1) (pa_cons (pv 2) pa_nil)))) pa_nil)) (by rfl))
    (pss_cons (ps_if (pt_cmpR (op_eqD hr.units) (pv 3) (pv 4) (nomark _))
    (pss_one (ps_set (i := 4) sc_stroke.nd rfl (Or.inl rfl) (pe_tup (pa_cons (pe_op op_add (pe_ix ix_tup (pv 4) pe_int (fun _ _ => rfl)) (pe_ifExp (pt_cmpR op_lt (pe_ix ix_tup (pv 4) pe_int (fun _ _ => rfl)) pe_int (nomark _)) pe_int (pe_un un_neg pe_int))) (pa_cons (pe_ix ix_tup (pv 4) pe_int (fun _ _ => rfl)) pa_nil)))))
    pss_nil)
    (pss_one (ps_ret (pe_op op_catT (pv 3) (pv 4)))))), ?_⟩
  refine ⟨_, rfl, _, rfl, _, rfl, b, _, pb, x, y, m, rfl, hB, hp, m0, m1, fun p1 H1 x1 y1 hB1 bt1 h1 => ?_⟩
  have hp1 := bt1 _ _ (bag_tup hB hp) hp
  refine ⟨_, rfl, _, rfl, _, rfl, b, _, pb, x, y, m, rfl, hB1, hp1, m0, m1, fun p2 H2 x2 y2 hB2 bt2 h2 => ?_⟩
  have h1' := h1.but hB1 bt2
  refine ⟨_, _, rfl, ?_⟩
  dsimp only
  have bt := bt1.trans bt2
  refine seq_with (fun σ' H' => ∃ (p : Addr) (u v : Int), σ' = [some (.ref b), some (.ref pb), some (.int m), some (.ref p1), some (.ref p)] ∧ BagAt H' b l ∧ But b H H' ∧ Pt H' p1 x1 y1 ∧ Pt H' p u v ∧ ¬ (x1 = u ∧ y1 = v)) (fun R hR => ?_) ?_
  · refine ⟨_, rfl, _, rfl, _, _, dp_pair h1'.1, dp_pair h2.1, shaped_pair _ _, shaped_pair _ _, _, rfl, ?_⟩
    rw [eqv_pair]
    by_cases c : x1 = x2 ∧ y1 = y2
    · refine iteDT c ?_
      have b2 := h2.2
      refine ⟨_, rfl, p2, _, _, _, rfl, rfl, SqT.of h2.1, rfl, _, rfl, p2, _, _, _, rfl, rfl, SqT.of h2.1, rfl, _, _, rfl, rfl, _, rfl, ?_⟩
      by_cases d : x2 < 40
      · refine iteDT d ?_
        refine ⟨_, _, rfl, rfl, _, rfl, p2, _, _, _, rfl, rfl, SqT.of h2.1, rfl, sz (by decide : 2 ≤ 100000), fun p3 n3 => ?_⟩
        have g := same_new n3 (.tup [.int (x2 + 1), .int y2])
        exact hR _ _ ⟨p3, x2 + 1, y2, rfl, hB2.same g, bt.trans (But.of g), h1'.same g, ⟨upd_same, by omega⟩, by omega⟩
      · refine iteDF d ?_
        refine ⟨_, rfl, _, _, rfl, rfl, _, rfl, p2, _, _, _, rfl, rfl, SqT.of h2.1, rfl, sz (by decide : 2 ≤ 100000), fun p3 n3 => ?_⟩
        have g := same_new n3 (.tup [.int (x2 + -1), .int y2])
        exact hR _ _ ⟨p3, x2 + -1, y2, rfl, hB2.same g, bt.trans (But.of g), h1'.same g, ⟨upd_same, by omega⟩, by omega⟩
    · refine iteDF c ?_
      exact hR _ _ ⟨p2, x2, y2, rfl, hB2, bt, h1', h2, c⟩
  · rintro σ' H' ⟨p, u, v, rfl, hB', bt', k1, k2, hne⟩
    refine ⟨_, rfl, _, rfl, p1, p, _, _, rfl, rfl, SqT.of k1.1, SqT.of k2.1, (by intro z; cases z), sz (by decide : 4 ≤ 100000), (fun z => by cases z), fun _ p4 n4 => ?_⟩
    have g := same_new n4 (.tup [.int x1, .int y1, .int u, .int v])
    obtain ⟨_, c1⟩ := k1
    obtain ⟨_, c2⟩ := k2
    exact q p4 _ x1 y1 u v (hB'.same g) (bt'.trans (But.of g)) ⟨upd_same, by omega, hne⟩
end
end DM

namespace DM
/-! ### fractions as pairs, by products -/
theorem fr_trans {a A b B c C : Int} (hB : 0 < B) (hA : 0 ≤ A) (hC : 0 ≤ C) (h1 : a * B ≤ b * A) (h2 : b * C ≤ c * B) : a * C ≤ c * A := by
  have e1 := Int.mul_le_mul_of_nonneg_right h1 hC
  have e2 := Int.mul_le_mul_of_nonneg_right h2 hA
  have e3 : b * A * C = b * C * A := by simp only [Int.mul_comm, Int.mul_left_comm]
  have e4 : a * B * C = B * (a * C) := by simp only [Int.mul_comm, Int.mul_left_comm]
  have e5 : c * B * A = B * (c * A) := by simp only [Int.mul_comm, Int.mul_left_comm]
  rw [e3] at e1
  exact Int.le_of_mul_le_mul_left (by omega : B * (a * C) ≤ B * (c * A)) hB
def later (p q : Int × Int) : Int × Int := if p.1 * q.2 > q.1 * p.2 then p else q
def sooner (p q : Int × Int) : Int × Int := if p.1 * q.2 < q.1 * p.2 then p else q
theorem later_pos {p q : Int × Int} (h1 : 0 < p.2) (h2 : 0 < q.2) : 0 < (later p q).2 := by
  unfold later
  split
  · exact h1
  · exact h2
theorem sooner_pos {p q : Int × Int} (h1 : 0 < p.2) (h2 : 0 < q.2) : 0 < (sooner p q).2 := by
  unfold sooner
  split
  · exact h1
  · exact h2
/-- no later than n / m: both are -/
theorem later_le {p q : Int × Int} {n m : Int} (h1 : 0 < p.2) (h2 : 0 < q.2) (hm : 0 ≤ m) : (later p q).1 * m ≤ n * (later p q).2 ↔ p.1 * m ≤ n * p.2 ∧ q.1 * m ≤ n * q.2 := by
  unfold later
  split
  · rename_i c
    refine ⟨fun h => ⟨h, ?_⟩, fun h => h.1⟩
    exact fr_trans h1 (by omega) hm (show q.1 * p.2 ≤ p.1 * q.2 by omega) h
  · rename_i c
    refine ⟨fun h => ⟨?_, h⟩, fun h => h.2⟩
    exact fr_trans h2 (by omega) hm (show p.1 * q.2 ≤ q.1 * p.2 by omega) h
theorem sooner_ge {p q : Int × Int} {n m : Int} (h1 : 0 < p.2) (h2 : 0 < q.2) (hm : 0 ≤ m) : n * (sooner p q).2 ≤ (sooner p q).1 * m ↔ n * p.2 ≤ p.1 * m ∧ n * q.2 ≤ q.1 * m := by
  unfold sooner
  split
  · rename_i c
    refine ⟨fun h => ⟨h, ?_⟩, fun h => h.1⟩
    exact fr_trans h1 hm (by omega) h (show p.1 * q.2 ≤ q.1 * p.2 by omega)
  · rename_i c
    refine ⟨fun h => ⟨?_, h⟩, fun h => h.2⟩
    exact fr_trans h2 hm (by omega) h (show q.1 * p.2 ≤ p.1 * q.2 by omega)
/-! ### one axis: begin + step * t from low to high -/
def clip (b s lo hi : Int) : Option ((Int × Int) × (Int × Int)) :=
  if s = 0 then (if lo ≤ b ∧ b ≤ hi then some ((0, 1), (1, 1)) else none) else if s < 0 then some ((b - hi, 0 - s), (b - lo, 0 - s)) else some ((lo - b, s), (hi - b, s))
/-- at n / m within, both rims counted -/
def Clo (b s lo hi n m : Int) : Prop := 0 ≤ (b - lo) * m + s * n ∧ 0 ≤ (hi - b) * m - s * n
theorem clip_none {b s lo hi : Int} (h : clip b s lo hi = none) {n m : Int} (hm : 0 < m) : ¬ Clo b s lo hi n m := by
  unfold clip at h
  split at h
  · rename_i hs
    split at h
    · cases h
    · rename_i c
      subst hs
      unfold Clo
      rw [Int.zero_mul]
      intro ⟨h1, h2⟩
      apply c
      have a1 : 0 ≤ (b - lo) * m := by omega
      have a2 : 0 ≤ (hi - b) * m := by omega
      constructor
      · rcases Int.lt_or_le b lo with z | z
        · have := Int.mul_neg_of_neg_of_pos (show b - lo < 0 by omega) hm
          omega
        · exact z
      · rcases Int.lt_or_le hi b with z | z
        · have := Int.mul_neg_of_neg_of_pos (show hi - b < 0 by omega) hm
          omega
        · exact z
  · split at h <;> cases h
theorem clip_some {b s lo hi : Int} {p q : Int × Int} (h : clip b s lo hi = some (p, q)) : 0 < p.2 ∧ 0 < q.2 ∧ ∀ n m : Int, 0 < m → 0 ≤ n → n ≤ m → (Clo b s lo hi n m ↔ p.1 * m ≤ n * p.2 ∧ n * q.2 ≤ q.1 * m) := by
  unfold clip at h
  split at h
  · rename_i hs
    split at h
    · rename_i c
      cases h
      refine ⟨by decide, by decide, fun n m hm h0 h1 => ?_⟩
      subst hs
      unfold Clo
      rw [Int.zero_mul, Int.zero_mul, Int.mul_one, Int.one_mul]
      refine ⟨fun _ => ⟨h0, h1⟩, fun _ => ?_⟩
      have a1 := Int.mul_nonneg (show 0 ≤ b - lo by omega) (show 0 ≤ m by omega)
      have a2 := Int.mul_nonneg (show 0 ≤ hi - b by omega) (show 0 ≤ m by omega)
      omega
    · cases h
  · split at h
    · rename_i hs
      cases h
      refine ⟨by show 0 < 0 - s; omega, by show 0 < 0 - s; omega, fun n m hm h0 h1 => ?_⟩
      unfold Clo
      have e1 : (b - hi) * m = - ((hi - b) * m) := by rw [← Int.neg_mul]; congr 1; omega
      have e2 : n * (0 - s) = - (s * n) := by rw [Int.zero_sub, Int.mul_neg, Int.mul_comm]
      show _ ↔ (b - hi) * m ≤ n * (0 - s) ∧ n * (0 - s) ≤ (b - lo) * m
      rw [e1, e2]
      omega
    · rename_i hs
      cases h
      refine ⟨by show 0 < s; omega, by show 0 < s; omega, fun n m hm h0 h1 => ?_⟩
      unfold Clo
      have e1 : (lo - b) * m = - ((b - lo) * m) := by rw [← Int.neg_mul]; congr 1; omega
      have e2 : n * s = s * n := Int.mul_comm ..
      show _ ↔ (lo - b) * m ≤ n * s ∧ n * s ≤ (hi - b) * m
      rw [e1, e2]
      omega
/-! ### a stroke and a square -/
/-- at n / m on the stroke, in the square (left and lower rim with it) -/
def Ins (x1 y1 x2 y2 sx sy n m : Int) : Prop :=
  (2 * sx - 1) * m ≤ 2 * x1 * m + 2 * (x2 - x1) * n ∧ 2 * x1 * m + 2 * (x2 - x1) * n < (2 * sx + 1) * m ∧ (2 * sy - 1) * m ≤ 2 * y1 * m + 2 * (y2 - y1) * n ∧ 2 * y1 * m + 2 * (y2 - y1) * n < (2 * sy + 1) * m
instance {x1 y1 x2 y2 sx sy n m : Int} : Decidable (Ins x1 y1 x2 y2 sx sy n m) := by unfold Ins; exact inferInstance
/-- the square of (sx, sy) holds a place of the stroke -/
def Thr (x1 y1 x2 y2 sx sy : Int) : Prop := ∃ n m : Int, 0 < m ∧ 0 ≤ n ∧ n ≤ m ∧ Ins x1 y1 x2 y2 sx sy n m
def goesL (x1 y1 x2 y2 sx sy : Int) : Bool :=
  match clip (2 * x1) (2 * (x2 - x1)) (2 * sx - 1) (2 * sx + 1), clip (2 * y1) (2 * (y2 - y1)) (2 * sy - 1) (2 * sy + 1) with
  | some (px, qx), some (py, qy) =>
    let c := later (0, 1) (later px py)
    let e := sooner (1, 1) (sooner qx qy)
    if e.1 * c.2 < c.1 * e.2 then false else decide (Ins x1 y1 x2 y2 sx sy c.1 c.2) || (decide (Ins x1 y1 x2 y2 sx sy e.1 e.2) || decide (Ins x1 y1 x2 y2 sx sy (c.1 * e.2 + e.1 * c.2) (2 * c.2 * e.2)))
  | _, _ => false
/-- a form in (n, m) -/
def lin (u v n m : Int) : Int := u * m + v * n
theorem lin_add (u v n m n' m' k k' : Int) : lin u v (k * n + k' * n') (k * m + k' * m') = k * lin u v n m + k' * lin u v n' m' := by
  unfold lin
  simp only [Int.mul_add, Int.mul_left_comm]
  omega
theorem ins_lin {x1 y1 x2 y2 sx sy n m : Int} : Ins x1 y1 x2 y2 sx sy n m ↔ 0 ≤ lin (2 * x1 - (2 * sx - 1)) (2 * (x2 - x1)) n m ∧ 0 < lin (2 * sx + 1 - 2 * x1) (-(2 * (x2 - x1))) n m ∧ 0 ≤ lin (2 * y1 - (2 * sy - 1)) (2 * (y2 - y1)) n m ∧ 0 < lin (2 * sy + 1 - 2 * y1) (-(2 * (y2 - y1))) n m := by
  unfold Ins lin
  rw [Int.sub_mul (2 * x1), Int.sub_mul (2 * sx + 1), Int.sub_mul (2 * y1), Int.sub_mul (2 * sy + 1), Int.neg_mul, Int.neg_mul]
  omega
theorem clo_lin {b s lo hi n m : Int} : Clo b s lo hi n m ↔ 0 ≤ lin (b - lo) s n m ∧ 0 ≤ lin (hi - b) (-s) n m := by
  unfold Clo lin
  rw [Int.neg_mul]
  omega
theorem mid_ge {u v c C e E : Int} (hC : 0 < C) (hE : 0 < E) (h1 : 0 ≤ lin u v c C) (h2 : 0 ≤ lin u v e E) : 0 ≤ lin u v (c * E + e * C) (2 * C * E) := by
  have e1 : c * E + e * C = E * c + C * e := by rw [Int.mul_comm c, Int.mul_comm e]
  have e2 : 2 * C * E = E * C + C * E := by rw [Int.mul_assoc, Int.mul_comm E C]; omega
  rw [e1, e2, lin_add]
  have a1 := Int.mul_nonneg (show 0 ≤ E by omega) h1
  have a2 := Int.mul_nonneg (show 0 ≤ C by omega) h2
  omega
/-- the middle of two unlike times is strictly within a form that is nowhere below nought and not nought at all -/
theorem mid_gt {u v c C e E n m : Int} (hC : 0 < C) (hE : 0 < E) (hne : c * E ≠ e * C) (h1 : 0 ≤ lin u v c C) (h2 : 0 ≤ lin u v e E) (h3 : 0 < lin u v n m) : 0 < lin u v (c * E + e * C) (2 * C * E) := by
  have e1 : c * E + e * C = E * c + C * e := by rw [Int.mul_comm c, Int.mul_comm e]
  have e2 : 2 * C * E = E * C + C * E := by rw [Int.mul_assoc, Int.mul_comm E C]; omega
  rw [e1, e2, lin_add]
  have a1 := Int.mul_nonneg (show 0 ≤ E by omega) h1
  have a2 := Int.mul_nonneg (show 0 ≤ C by omega) h2
  rcases Int.lt_or_eq_of_le h1 with z1 | z1
  · have := Int.mul_pos hE z1
    omega
  rcases Int.lt_or_eq_of_le h2 with z2 | z2
  · have := Int.mul_pos hC z2
    omega
  exfalso
  unfold lin at z1 z2 h3
  -- u C + v c = 0, u E + v e = 0
  have k1 : (u * C + v * c) * E = 0 := by rw [← z1]; exact Int.zero_mul _
  have k2 : (u * E + v * e) * C = 0 := by rw [← z2]; exact Int.zero_mul _
  have k3 : v * (c * E - e * C) = 0 := by
    rw [Int.mul_sub]
    rw [Int.add_mul] at k1 k2
    have f1 : u * C * E = u * E * C := by simp only [Int.mul_comm, Int.mul_left_comm]
    rw [f1] at k1
    have f2 : v * c * E = v * (c * E) := Int.mul_assoc ..
    have f3 : v * e * C = v * (e * C) := Int.mul_assoc ..
    rw [f2] at k1
    rw [f3] at k2
    omega
  have k4 : v = 0 := by
    rcases Int.mul_eq_zero.mp k3 with z | z
    · exact z
    · omega
  subst k4
  have k5 : u * C = 0 := by rw [Int.zero_mul] at z1; omega
  have k6 : u = 0 := by
    rcases Int.mul_eq_zero.mp k5 with z | z
    · exact z
    · omega
  subst k6
  rw [Int.zero_mul, Int.zero_mul] at h3
  omega
theorem lin_same {u v c C n m : Int} (h : n * C = c * m) : lin u v c C * m = lin u v n m * C := by
  unfold lin
  rw [Int.add_mul, Int.add_mul]
  have f1 : u * C * m = u * m * C := by simp only [Int.mul_comm, Int.mul_left_comm]
  have f2 : v * c * m = v * (c * m) := Int.mul_assoc ..
  have f3 : v * n * C = v * (n * C) := Int.mul_assoc ..
  rw [f1, f2, f3, h]
theorem same_ge {u v c C n m : Int} (hm : 0 < m) (hC : 0 < C) (h : n * C = c * m) (h1 : 0 ≤ lin u v n m) : 0 ≤ lin u v c C := by
  have e := lin_same (u := u) (v := v) h
  have a := Int.mul_nonneg h1 (show 0 ≤ C by omega)
  rcases Int.lt_or_le (lin u v c C) 0 with z | z
  · have := Int.mul_neg_of_neg_of_pos z hm
    omega
  · exact z
theorem same_gt {u v c C n m : Int} (hm : 0 < m) (hC : 0 < C) (h : n * C = c * m) (h1 : 0 < lin u v n m) : 0 < lin u v c C := by
  have e := lin_same (u := u) (v := v) h
  have a := Int.mul_pos h1 hC
  rcases Int.lt_or_le 0 (lin u v c C) with z | z
  · exact z
  · have := Int.mul_le_mul_of_nonneg_right z (show 0 ≤ m by omega)
    omega
theorem goesL_iff (x1 y1 x2 y2 sx sy : Int) : goesL x1 y1 x2 y2 sx sy = true ↔ Thr x1 y1 x2 y2 sx sy := by
  have cx : ∀ {n m : Int}, Ins x1 y1 x2 y2 sx sy n m → Clo (2 * x1) (2 * (x2 - x1)) (2 * sx - 1) (2 * sx + 1) n m ∧ Clo (2 * y1) (2 * (y2 - y1)) (2 * sy - 1) (2 * sy + 1) n m := fun {n m} h => by
    rw [ins_lin] at h
    rw [clo_lin, clo_lin]
    omega
  unfold goesL
  cases ex : clip (2 * x1) (2 * (x2 - x1)) (2 * sx - 1) (2 * sx + 1) with
  | none =>
    refine ⟨fun h => absurd h Bool.false_ne_true, fun ⟨n, m, hm, h0, h1, hi⟩ => ?_⟩
    exact absurd (cx hi).1 (clip_none ex hm)
  | some pq =>
    obtain ⟨px, qx⟩ := pq
    cases ey : clip (2 * y1) (2 * (y2 - y1)) (2 * sy - 1) (2 * sy + 1) with
    | none =>
      refine ⟨fun h => absurd h Bool.false_ne_true, fun ⟨n, m, hm, h0, h1, hi⟩ => ?_⟩
      exact absurd (cx hi).2 (clip_none ey hm)
    | some pq =>
      obtain ⟨py, qy⟩ := pq
      obtain ⟨ax, bx, hx⟩ := clip_some ex
      obtain ⟨ay, bay, hy⟩ := clip_some ey
      dsimp only
      have pc : 0 < (later (0, 1) (later px py)).2 := later_pos (by decide) (later_pos ax ay)
      have pe : 0 < (sooner (1, 1) (sooner qx qy)).2 := sooner_pos (by decide) (sooner_pos bx bay)
      have lc : ∀ {n m : Int}, 0 ≤ m → ((later (0, 1) (later px py)).1 * m ≤ n * (later (0, 1) (later px py)).2 ↔ 0 ≤ n ∧ px.1 * m ≤ n * px.2 ∧ py.1 * m ≤ n * py.2) := fun {n m} h => by
        rw [later_le (by decide) (later_pos ax ay) h, later_le ax ay h]
        show (0 * m ≤ n * 1 ∧ _) ↔ _
        rw [Int.zero_mul, Int.mul_one]
      have le : ∀ {n m : Int}, 0 ≤ m → (n * (sooner (1, 1) (sooner qx qy)).2 ≤ (sooner (1, 1) (sooner qx qy)).1 * m ↔ n ≤ m ∧ n * qx.2 ≤ qx.1 * m ∧ n * qy.2 ≤ qy.1 * m) := fun {n m} h => by
        rw [sooner_ge (by decide) (sooner_pos bx bay) h, sooner_ge bx bay h]
        show (n * 1 ≤ 1 * m ∧ _) ↔ _
        rw [Int.mul_one, Int.one_mul]
      generalize later (0, 1) (later px py) = c at *
      generalize sooner (1, 1) (sooner qx qy) = e at *
      obtain ⟨c, C⟩ := c
      obtain ⟨e, E⟩ := e
      dsimp only at *
      split
      · rename_i hlt
        refine ⟨fun h => absurd h Bool.false_ne_true, fun ⟨n, m, hm, h0, h1, hi⟩ => ?_⟩
        obtain ⟨k1, k2⟩ := cx hi
        have a := (hx n m hm h0 h1).mp k1
        have b := (hy n m hm h0 h1).mp k2
        have r1 := (lc (n := n) (m := m) (by omega)).mpr ⟨h0, a.1, b.1⟩
        have r2 := (le (n := n) (m := m) (by omega)).mpr ⟨h1, a.2, b.2⟩
        have := fr_trans hm (by omega) (by omega) r1 r2
        omega
      · rename_i hle
        have hce : c * E ≤ e * C := by omega
        -- both lie within, closed
        have lcc := (lc (n := c) (m := C) (by omega)).mp (Int.le_refl _)
        have lec := (le (n := c) (m := C) (by omega)).mp hce
        have lee := (le (n := e) (m := E) (by omega)).mp (Int.le_refl _)
        have lce := (lc (n := e) (m := E) (by omega)).mp hce
        have vc1 := (hx c C pc lcc.1 lec.1).mpr ⟨lcc.2.1, lec.2.1⟩
        have vc2 := (hy c C pc lcc.1 lec.1).mpr ⟨lcc.2.2, lec.2.2⟩
        have ve1 := (hx e E pe lce.1 lee.1).mpr ⟨lce.2.1, lee.2.1⟩
        have ve2 := (hy e E pe lce.1 lee.1).mpr ⟨lce.2.2, lee.2.2⟩
        rw [clo_lin] at vc1 vc2 ve1 ve2
        simp only [Bool.or_eq_true, decide_eq_true_eq]
        constructor
        · rintro (h | h | h)
          · exact ⟨c, C, pc, lcc.1, lec.1, h⟩
          · exact ⟨e, E, pe, lce.1, lee.1, h⟩
          · have z1 := Int.mul_nonneg lcc.1 (show 0 ≤ E by omega)
            have z2 := Int.mul_nonneg lce.1 (show 0 ≤ C by omega)
            have z3 := Int.mul_le_mul_of_nonneg_right lec.1 (show 0 ≤ E by omega)
            have z4 := Int.mul_le_mul_of_nonneg_right lee.1 (show 0 ≤ C by omega)
            have z5 : 2 * C * E = C * E + E * C := by rw [Int.mul_assoc, Int.mul_comm E C]; omega
            have z6 := Int.mul_pos pc pe
            have z7 : E * C = C * E := Int.mul_comm ..
            exact ⟨_, _, by omega, by omega, by omega, h⟩
        · rintro ⟨n, m, hm, h0, h1, hi⟩
          obtain ⟨k1, k2⟩ := cx hi
          have a := (hx n m hm h0 h1).mp k1
          have b := (hy n m hm h0 h1).mp k2
          have r1 := (lc (n := n) (m := m) (by omega)).mpr ⟨h0, a.1, b.1⟩
          have r2 := (le (n := n) (m := m) (by omega)).mpr ⟨h1, a.2, b.2⟩
          rw [ins_lin] at hi
          by_cases hne : c * E = e * C
          · left
            have r3 : n * C ≤ c * m := by
              have := fr_trans (a := n) (A := m) (b := e) (B := E) (c := c) (C := C) pe (by omega) (by omega) r2 (by omega)
              exact this
            have r4 : n * C = c * m := by omega
            rw [ins_lin]
            exact ⟨same_ge hm pc r4 hi.1, same_gt hm pc r4 hi.2.1, same_ge hm pc r4 hi.2.2.1, same_gt hm pc r4 hi.2.2.2⟩
          · right; right
            rw [ins_lin]
            exact ⟨mid_ge pc pe vc1.1 ve1.1, mid_gt pc pe hne vc1.2 ve1.2 hi.2.1, mid_ge pc pe vc2.1 ve2.1, mid_gt pc pe hne vc2.2 ve2.2 hi.2.2.2⟩
end DM

namespace DM
open PySem L2
/-! ### the law's own going through a square -/
def fr (H : Hp) (p : Addr) (a : Int × Int) : Prop := H p = some (.tup [.int a.1, .int a.2])
/-- numbers that stay small -/
def sm (k : Int) (a : Int × Int) : Prop := -k ≤ a.1 ∧ a.1 ≤ k ∧ -k ≤ a.2 ∧ a.2 ≤ k
def spClp : Sp := fun vs H Q _ => ∃ b s lo hi : Int, vs = [.int b, .int s, .int lo, .int hi] ∧
  (clip b s lo hi = none → ∀ (r : Addr) (H' : Hp), Same H H' → H' r = some (.lst []) → Q (.ref r) H') ∧
  (∀ p q : Int × Int, clip b s lo hi = some (p, q) → ∀ (r p1 p2 : Addr) (H' : Hp), Same H H' → H' r = some (.lst [.ref p1, .ref p2]) → fr H' p1 p → fr H' p2 q → Q (.ref r) H')
def spLater : Sp := fun vs H Q _ => ∃ (p1 p2 : Addr) (a b : Int × Int), vs = [.ref p1, .ref p2] ∧ fr H p1 a ∧ fr H p2 b ∧ sm 1000000000 a ∧ ∀ r : Addr, fr H r (later a b) → Q (.ref r) H
def spSooner : Sp := fun vs H Q _ => ∃ (p1 p2 : Addr) (a b : Int × Int), vs = [.ref p1, .ref p2] ∧ fr H p1 a ∧ fr H p2 b ∧ sm 1000000000 a ∧ ∀ r : Addr, fr H r (sooner a b) → Q (.ref r) H
def spInside : Sp := fun vs H Q _ => ∃ (ps pt pw : Addr) (x1 y1 x2 y2 sx sy n m : Int), vs = [.ref ps, .ref pw, .ref pt] ∧ Stk H ps x1 y1 x2 y2 ∧ H pw = some (.tup [.int n, .int m]) ∧ H pt = some (.tup [.int sx, .int sy]) ∧ (-1000 ≤ sx ∧ sx ≤ 1000 ∧ -1000 ≤ sy ∧ sy ≤ 1000) ∧ Q (.bl (decide (Ins x1 y1 x2 y2 sx sy n m))) H
def spGoes : Sp := fun vs H Q _ => ∃ (ps pt : Addr) (x1 y1 x2 y2 sx sy : Int), vs = [.ref ps, .ref pt] ∧ Stk H ps x1 y1 x2 y2 ∧ H pt = some (.tup [.int sx, .int sy]) ∧ (-1000 ≤ sx ∧ sx ≤ 1000 ∧ -1000 ≤ sy ∧ sy ≤ 1000) ∧ ∀ H', Same H H' → Q (.bl (goesL x1 y1 x2 y2 sx sy)) H'
theorem sm_later {a b : Int × Int} {k : Int} (h1 : sm k a) (h2 : sm k b) : sm k (later a b) := by
  unfold later
  split
  · exact h1
  · exact h2
theorem sm_sooner {a b : Int × Int} {k : Int} (h1 : sm k a) (h2 : sm k b) : sm k (sooner a b) := by
  unfold sooner
  split
  · exact h1
  · exact h2
theorem sm_clip {b s lo hi : Int} {p q : Int × Int} (h : clip b s lo hi = some (p, q)) (hb : -80 ≤ b ∧ b ≤ 80) (hs : -160 ≤ s ∧ s ≤ 160) (hl : -3000 ≤ lo ∧ lo ≤ 3000) (hh : -3000 ≤ hi ∧ hi ≤ 3000) : sm 10000 p ∧ sm 10000 q := by
  unfold clip at h
  split at h
  · split at h
    · cases h
      exact ⟨⟨by decide, by decide, by decide, by decide⟩, ⟨by decide, by decide, by decide, by decide⟩⟩
    · cases h
  · split at h
    · cases h
      exact ⟨⟨by show -10000 ≤ b - hi; omega, by show b - hi ≤ 10000; omega, by show -10000 ≤ 0 - s; omega, by show 0 - s ≤ 10000; omega⟩, ⟨by show -10000 ≤ b - lo; omega, by show b - lo ≤ 10000; omega, by show -10000 ≤ 0 - s; omega, by show 0 - s ≤ 10000; omega⟩⟩
    · cases h
      exact ⟨⟨by show -10000 ≤ lo - b; omega, by show lo - b ≤ 10000; omega, by show -10000 ≤ s; omega, by show s ≤ 10000; omega⟩, ⟨by show -10000 ≤ hi - b; omega, by show hi - b ≤ 10000; omega, by show -10000 ≤ s; omega, by show s ≤ 10000; omega⟩⟩
section
variable {P : Program} {w : World} {K : PySem.W.Frag} {mg : Str → Option Value} {base : Heap} {f : Addr} {fd : FuncData}
abbrev s_clip : Stmt := top 13
theorem sc_clip : FnScope ["_law_begin", "_law_step", "_law_low", "_law_high"] ["_law_begin", "_law_step", "_law_low", "_law_high"] (defScope s_clip) := ⟨rfl, rfl, rfl, by decide +kernel, rfl, by decide +kernel, by decide +kernel⟩
theorem ok_clip (F : Fun K "_law_clip" "_law_clip" s_clip f fd) : FnOk P w K mg base CX0 1 f fd ["_law_begin", "_law_step", "_law_low", "_law_high"] spClp := by
  refine F.ok sc_clip (fun vs H Q E h => ?_) (fun cdv A outer s H vs Q E hr h => ?_)
  · obtain ⟨b, s, lo, hi, rfl, _⟩ := h
    rfl
  obtain ⟨b, s', lo, hi, rfl, qn, qs⟩ := h
  refine ⟨_, (pss_cons (ps_if (pt_cmpR op_eq (pv 1) pe_int (nomark _))
    (pss_one (ps_ret (pe_ifExp (pt_chain op_le op_le (pv 2) (pv 0) (pv 3)) (pe_lst (pa_cons (pe_tup (pa_cons pe_int (pa_cons pe_int pa_nil))) (pa_cons (pe_tup (pa_cons pe_int (pa_cons pe_int pa_nil))) pa_nil))) (pe_lst pa_nil))))
    pss_nil)
    (pss_cons (ps_if (pt_cmpR op_lt (pv 1) pe_int (nomark _))
    (pss_one (ps_ret (pe_lst (pa_cons (pe_tup (pa_cons (pe_op op_sub (pv 0) (pv 3)) (pa_cons (pe_op op_sub pe_int (pv 1)) pa_nil))) (pa_cons (pe_tup (pa_cons (pe_op op_sub (pv 0) (pv 2)) (pa_cons (pe_op op_sub pe_int (pv 1)) pa_nil))) pa_nil)))))
    pss_nil)
    (pss_one (ps_ret (pe_lst (pa_cons (pe_tup (pa_cons (pe_op op_sub (pv 2) (pv 0)) (pa_cons (pv 1) pa_nil))) (pa_cons (pe_tup (pa_cons (pe_op op_sub (pv 3) (pv 0)) (pa_cons (pv 1) pa_nil))) pa_nil))))))), ?_⟩
  refine ⟨_, rfl, rfl, _, rfl, ?_⟩
  by_cases c : s' = 0
  · refine iteDT (congrArg V.int c) ?_
    refine ⟨_, rfl, _, rfl, _, _, rfl, rfl, _, rfl, ?_⟩
    by_cases d1 : lo ≤ b
    · refine iteDT d1 ?_
      refine ⟨_, rfl, _, _, rfl, rfl, _, rfl, ?_⟩
      by_cases d2 : b ≤ hi
      · refine iteDT d2 ?_
        refine ⟨sz (by decide : 2 ≤ 100000), fun p1 n1 => ⟨sz (by decide : 2 ≤ 100000), fun p2 n2 => ⟨sz (by decide : 2 ≤ 100000), fun p3 n3 => ?_⟩⟩⟩
        refine qs (0, 1) (1, 1) (by unfold clip; rw [if_pos c, if_pos ⟨d1, d2⟩]) p3 p1 p2 _ ((same_new n1 _).trans ((same_new n2 _).trans (same_new n3 _))) upd_same ?_ ?_
        · exact same_new n3 _ _ _ (same_new n2 _ _ _ upd_same)
        · exact same_new n3 _ _ _ upd_same
      · refine iteDF d2 ?_
        refine ⟨sz (by decide : 0 ≤ 100000), fun p1 n1 => ?_⟩
        exact qn (by unfold clip; rw [if_pos c, if_neg (fun z => d2 z.2)]) p1 _ (same_new n1 _) upd_same
    · refine iteDF d1 ?_
      refine ⟨_, rfl, iteF ?_⟩
      refine ⟨sz (by decide : 0 ≤ 100000), fun p1 n1 => ?_⟩
      exact qn (by unfold clip; rw [if_pos c, if_neg (fun z => d1 z.1)]) p1 _ (same_new n1 _) upd_same
  · refine iteDF (fun z => c (V.int.inj z)) ?_
    refine ⟨_, rfl, _, _, rfl, rfl, _, rfl, ?_⟩
    by_cases d : s' < 0
    · refine iteDT d ?_
      refine ⟨_, rfl, _, rfl, _, _, rfl, rfl, _, rfl, _, _, rfl, rfl, sz (by decide : 2 ≤ 100000), fun p1 n1 => ?_⟩
      refine ⟨_, rfl, _, rfl, _, _, rfl, rfl, _, rfl, _, _, rfl, rfl, sz (by decide : 2 ≤ 100000), fun p2 n2 => ⟨sz (by decide : 2 ≤ 100000), fun p3 n3 => ?_⟩⟩
      refine qs (b - hi, 0 - s') (b - lo, 0 - s') (by unfold clip; rw [if_neg c, if_pos d]) p3 p1 p2 _ ((same_new n1 _).trans ((same_new n2 _).trans (same_new n3 _))) upd_same ?_ ?_
      · exact same_new n3 _ _ _ (same_new n2 _ _ _ upd_same)
      · exact same_new n3 _ _ _ upd_same
    · refine iteDF d ?_
      refine ⟨_, rfl, _, rfl, _, _, rfl, rfl, _, rfl, sz (by decide : 2 ≤ 100000), fun p1 n1 => ?_⟩
      refine ⟨_, rfl, _, rfl, _, _, rfl, rfl, _, rfl, sz (by decide : 2 ≤ 100000), fun p2 n2 => ⟨sz (by decide : 2 ≤ 100000), fun p3 n3 => ?_⟩⟩
      refine qs (lo - b, s') (hi - b, s') (by unfold clip; rw [if_neg c, if_neg d]) p3 p1 p2 _ ((same_new n1 _).trans ((same_new n2 _).trans (same_new n3 _))) upd_same ?_ ?_
      · exact same_new n3 _ _ _ (same_new n2 _ _ _ upd_same)
      · exact same_new n3 _ _ _ upd_same
abbrev s_later : Stmt := top 14
theorem sc_later : FnScope ["_law_one", "_law_other"] ["_law_one", "_law_other"] (defScope s_later) := ⟨rfl, rfl, rfl, by decide +kernel, rfl, by decide +kernel, by decide +kernel⟩
theorem ok_later (F : Fun K "_law_later" "_law_later" s_later f fd) : FnOk P w K mg base CX0 1 f fd ["_law_one", "_law_other"] spLater := by
  refine F.ok sc_later (fun vs H Q E h => ?_) (fun cdv A outer s H vs Q E hr h => ?_)
  · obtain ⟨p1, p2, a, b, rfl, _⟩ := h
    rfl
  obtain ⟨p1, p2, a, b, rfl, h1, h2, hs, q⟩ := h
  refine ⟨_, (pss_one (ps_ret (pe_ifExp (pt_cmpR op_gt (pe_op op_mul (pe_ix ix_tup (pv 0) pe_int (fun _ _ => rfl)) (pe_ix ix_tup (pv 1) pe_int (fun _ _ => rfl))) (pe_op op_mul (pe_ix ix_tup (pv 1) pe_int (fun _ _ => rfl)) (pe_ix ix_tup (pv 0) pe_int (fun _ _ => rfl))) (nomark _)) (pv 0) (pv 1)))), ?_⟩
  unfold sm at hs
  refine ⟨_, rfl, p1, _, _, _, rfl, rfl, SqT.of h1, rfl, _, rfl, p2, _, _, _, rfl, rfl, SqT.of h2, rfl, _, _, rfl, rfl, .inl ⟨by omega, by omega⟩, ?_⟩
  refine ⟨_, rfl, p2, _, _, _, rfl, rfl, SqT.of h2, rfl, _, rfl, p1, _, _, _, rfl, rfl, SqT.of h1, rfl, _, _, rfl, rfl, .inr ⟨by omega, by omega⟩, _, _, rfl, rfl, _, rfl, ?_⟩
  unfold later at q
  by_cases c : a.1 * b.2 > b.1 * a.2
  · refine iteDT c ?_
    rw [if_pos c] at q
    exact ⟨_, rfl, q p1 h1⟩
  · refine iteDF c ?_
    rw [if_neg c] at q
    exact ⟨_, rfl, q p2 h2⟩
abbrev s_sooner : Stmt := top 15
theorem sc_sooner : FnScope ["_law_one", "_law_other"] ["_law_one", "_law_other"] (defScope s_sooner) := ⟨rfl, rfl, rfl, by decide +kernel, rfl, by decide +kernel, by decide +kernel⟩
theorem ok_sooner (F : Fun K "_law_sooner" "_law_sooner" s_sooner f fd) : FnOk P w K mg base CX0 1 f fd ["_law_one", "_law_other"] spSooner := by
  refine F.ok sc_sooner (fun vs H Q E h => ?_) (fun cdv A outer s H vs Q E hr h => ?_)
  · obtain ⟨p1, p2, a, b, rfl, _⟩ := h
    rfl
  obtain ⟨p1, p2, a, b, rfl, h1, h2, hs, q⟩ := h
  refine ⟨_, (pss_one (ps_ret (pe_ifExp (pt_cmpR op_lt (pe_op op_mul (pe_ix ix_tup (pv 0) pe_int (fun _ _ => rfl)) (pe_ix ix_tup (pv 1) pe_int (fun _ _ => rfl))) (pe_op op_mul (pe_ix ix_tup (pv 1) pe_int (fun _ _ => rfl)) (pe_ix ix_tup (pv 0) pe_int (fun _ _ => rfl))) (nomark _)) (pv 0) (pv 1)))), ?_⟩
  unfold sm at hs
  refine ⟨_, rfl, p1, _, _, _, rfl, rfl, SqT.of h1, rfl, _, rfl, p2, _, _, _, rfl, rfl, SqT.of h2, rfl, _, _, rfl, rfl, .inl ⟨by omega, by omega⟩, ?_⟩
  refine ⟨_, rfl, p2, _, _, _, rfl, rfl, SqT.of h2, rfl, _, rfl, p1, _, _, _, rfl, rfl, SqT.of h1, rfl, _, _, rfl, rfl, .inr ⟨by omega, by omega⟩, _, _, rfl, rfl, _, rfl, ?_⟩
  unfold sooner at q
  by_cases c : a.1 * b.2 < b.1 * a.2
  · refine iteDT c ?_
    rw [if_pos c] at q
    exact ⟨_, rfl, q p1 h1⟩
  · refine iteDF c ?_
    rw [if_neg c] at q
    exact ⟨_, rfl, q p2 h2⟩
abbrev s_inside : Stmt := top 16
theorem sc_inside : FnScope ["_law_stroke_here", "_law_when", "_law_spot_here", "_law_over", "_law_under", "_law_x", "_law_y", "_law_right"] ["_law_stroke_here", "_law_when", "_law_spot_here"] (defScope s_inside) := ⟨rfl, rfl, rfl, by decide +kernel, rfl, by decide +kernel, by decide +kernel⟩
theorem ok_inside (F : Fun K "_law_inside" "_law_inside" s_inside f fd) : FnOk P w K mg base CX0 1 f fd ["_law_stroke_here", "_law_when", "_law_spot_here"] spInside := by
  refine F.ok sc_inside (fun vs H Q E h => ?_) (fun cdv A outer s H vs Q E hr h => ?_)
  · obtain ⟨ps, pt, pw, x1, y1, x2, y2, sx, sy, n, m, rfl, _⟩ := h
    rfl
  obtain ⟨ps, pt, pw, x1, y1, x2, y2, sx, sy, n, m, rfl, ⟨hs, bs, _⟩, hw, ht, bt, q⟩ := h
  refine ⟨_, (pss_cons (ps_asg (pv 1) (pg_tup rfl (pgs_cons (pg_name (i := 3) sc_inside.nd rfl (Or.inl rfl)) (pgs_cons (pg_name (i := 4) sc_inside.nd rfl (Or.inl rfl)) pgs_nil))))
    (pss_cons (ps_set (i := 5) sc_inside.nd rfl (Or.inl rfl) (pe_op op_add (pe_op op_mul (pe_op op_mul pe_int (pe_ix ix_tup (pv 0) pe_int (fun _ _ => rfl))) (pv 4)) (pe_op op_mul (pe_op op_mul pe_int (pe_op op_sub (pe_ix ix_tup (pv 0) pe_int (fun _ _ => rfl)) (pe_ix ix_tup (pv 0) pe_int (fun _ _ => rfl)))) (pv 3))))
    (pss_cons (ps_set (i := 6) sc_inside.nd rfl (Or.inl rfl) (pe_op op_add (pe_op op_mul (pe_op op_mul pe_int (pe_ix ix_tup (pv 0) pe_int (fun _ _ => rfl))) (pv 4)) (pe_op op_mul (pe_op op_mul pe_int (pe_op op_sub (pe_ix ix_tup (pv 0) pe_int (fun _ _ => rfl)) (pe_ix ix_tup (pv 0) pe_int (fun _ _ => rfl)))) (pv 3))))
    (pss_cons (ps_set (i := 7) sc_inside.nd rfl (Or.inl rfl) (pe_chain op_le op_lt (pe_op op_mul (pe_op op_sub (pe_op op_mul pe_int (pe_ix ix_tup (pv 2) pe_int (fun _ _ => rfl))) pe_int) (pv 4)) (pv 5) (pe_op op_mul (pe_op op_add (pe_op op_mul pe_int (pe_ix ix_tup (pv 2) pe_int (fun _ _ => rfl))) pe_int) (pv 4))))
    (pss_one (ps_ret (pe_and (pv 7) (pe_one (pe_chain op_le op_lt (pe_op op_mul (pe_op op_sub (pe_op op_mul pe_int (pe_ix ix_tup (pv 2) pe_int (fun _ _ => rfl))) pe_int) (pv 4)) (pv 6) (pe_op op_mul (pe_op op_add (pe_op op_mul pe_int (pe_ix ix_tup (pv 2) pe_int (fun _ _ => rfl))) pe_int) (pv 4))))))))))), ?_⟩
  refine ⟨_, rfl, pw, _, rfl, SqT.of hw, rfl, _, _, rfl, _, _, rfl, rfl, ?_⟩
  refine ⟨_, rfl, ps, _, _, _, rfl, rfl, SqT.of hs, rfl, _, _, rfl, rfl, .inl ⟨by decide, by decide⟩, _, rfl, _, _, rfl, rfl, .inl ⟨by omega, by omega⟩, _, rfl, ps, _, _, _, rfl, rfl, SqT.of hs, rfl, _, rfl, ps, _, _, _, rfl, rfl, SqT.of hs, rfl, _, _, rfl, rfl, _, _, rfl, rfl, .inl ⟨by decide, by decide⟩, _, rfl, _, _, rfl, rfl, .inl ⟨by omega, by omega⟩, _, _, rfl, rfl, ?_⟩
  refine ⟨_, rfl, ps, _, _, _, rfl, rfl, SqT.of hs, rfl, _, _, rfl, rfl, .inl ⟨by decide, by decide⟩, _, rfl, _, _, rfl, rfl, .inl ⟨by omega, by omega⟩, _, rfl, ps, _, _, _, rfl, rfl, SqT.of hs, rfl, _, rfl, ps, _, _, _, rfl, rfl, SqT.of hs, rfl, _, _, rfl, rfl, _, _, rfl, rfl, .inl ⟨by decide, by decide⟩, _, rfl, _, _, rfl, rfl, .inl ⟨by omega, by omega⟩, _, _, rfl, rfl, ?_⟩
  have key : decide (Ins x1 y1 x2 y2 sx sy n m) = (decide ((2 * sx - 1) * m ≤ 2 * x1 * m + 2 * (x2 - x1) * n) && (decide (2 * x1 * m + 2 * (x2 - x1) * n < (2 * sx + 1) * m) && (decide ((2 * sy - 1) * m ≤ 2 * y1 * m + 2 * (y2 - y1) * n) && decide (2 * y1 * m + 2 * (y2 - y1) * n < (2 * sy + 1) * m)))) := by
    rw [← Bool.decide_and, ← Bool.decide_and, ← Bool.decide_and]
    rfl
  rw [key] at q
  refine ⟨_, rfl, pt, _, _, _, rfl, rfl, SqT.of ht, rfl, _, _, rfl, rfl, .inl ⟨by decide, by decide⟩, _, _, rfl, rfl, _, rfl, _, _, rfl, rfl, .inl ⟨by omega, by omega⟩, _, rfl, _, _, rfl, rfl, _, rfl, ?_⟩
  by_cases d1 : (2 * sx - 1) * m ≤ 2 * x1 * m + 2 * (x2 - x1) * n
  · refine iteDT d1 ?_
    rw [decide_eq_true d1, Bool.true_and] at q
    refine ⟨_, rfl, pt, _, _, _, rfl, rfl, SqT.of ht, rfl, _, _, rfl, rfl, .inl ⟨by decide, by decide⟩, _, _, rfl, rfl, _, rfl, _, _, rfl, rfl, .inl ⟨by omega, by omega⟩, _, _, rfl, rfl, ?_⟩
    refine ⟨_, rfl, _, rfl, ?_⟩
    by_cases d2 : 2 * x1 * m + 2 * (x2 - x1) * n < (2 * sx + 1) * m
    · refine iteDT d2 ?_
      rw [decide_eq_true d2, Bool.true_and] at q
      refine ⟨_, rfl, pt, _, _, _, rfl, rfl, SqT.of ht, rfl, _, _, rfl, rfl, .inl ⟨by decide, by decide⟩, _, _, rfl, rfl, _, rfl, _, _, rfl, rfl, .inl ⟨by omega, by omega⟩, _, rfl, _, _, rfl, rfl, _, rfl, ?_⟩
      by_cases d3 : (2 * sy - 1) * m ≤ 2 * y1 * m + 2 * (y2 - y1) * n
      · refine iteDT d3 ?_
        rw [decide_eq_true d3, Bool.true_and] at q
        exact ⟨_, rfl, pt, _, _, _, rfl, rfl, SqT.of ht, rfl, _, _, rfl, rfl, .inl ⟨by decide, by decide⟩, _, _, rfl, rfl, _, rfl, _, _, rfl, rfl, .inl ⟨by omega, by omega⟩, _, _, rfl, rfl, q⟩
      · refine iteDF d3 ?_
        rw [decide_eq_false d3, Bool.false_and] at q
        exact q
    · refine iteDF d2 ?_
      rw [decide_eq_false d2, Bool.false_and] at q
      exact q
  · refine iteDF d1 ?_
    rw [decide_eq_false d1, Bool.false_and] at q
    exact ⟨_, rfl, _, rfl, iteF q⟩
end
end DM

namespace DM
open PySem L2
/-- what a clipping left at r -/
def CR (H : Hp) (r : Addr) : Option ((Int × Int) × (Int × Int)) → Prop
  | none => H r = some (.lst [])
  | some (p, q) => ∃ p1 p2 : Addr, H r = some (.lst [.ref p1, .ref p2]) ∧ fr H p1 p ∧ fr H p2 q
theorem CR.same {H H' : Hp} {r : Addr} : ∀ {o : Option ((Int × Int) × (Int × Int))}, CR H r o → Same H H' → CR H' r o
  | none, h, e => e _ _ h
  | some (p, q), ⟨p1, p2, a, b, c⟩, e => ⟨p1, p2, e _ _ a, e _ _ b, e _ _ c⟩
theorem shaped_two (a b c d : Int) : SeqAt.shaped (.list [.tuple [.int a, .int b], .tuple [.int c, .int d]]) = true := by
  first | rfl | simp [SeqAt.shaped, PyData.canLay0, PyData.depth]
theorem dp_cr {K : PySem.W.Frag} {H : Hp} {r : Addr} : ∀ {o : Option ((Int × Int) × (Int × Int))}, CR H r o → ∃ d, Dp K H (.ref r) d ∧ SeqAt.shaped d = true ∧ PyData.eqv d (.list []) = o.isNone
  | none, h => ⟨.list [], .lst (SqL.of h) .nil, rfl, rfl⟩
  | some (p, q), ⟨p1, p2, a, b, c⟩ => ⟨.list [.tuple [.int p.1, .int p.2], .tuple [.int q.1, .int q.2]], .lst (SqL.of a) (.cons (dp_pair b) (.cons (dp_pair c) .nil)), shaped_two _ _ _ _, rfl⟩
section
variable {P : Program} {w : World} {K : PySem.W.Frag} {mg : Str → Option Value} {base : Heap} {f : Addr} {fd : FuncData}
abbrev s_goes : Stmt := top 17
theorem sc_goes : FnScope ["_law_stroke_here", "_law_spot_here", "_law_one", "_law_other", "_law_comes", "_law_leaves", "_law_middle", "_law_when"] ["_law_stroke_here", "_law_spot_here"] (defScope s_goes) := ⟨rfl, rfl, rfl, by decide +kernel, rfl, by decide +kernel, by decide +kernel⟩
theorem ok_goes (B : Blt mg) (c_clip : Cal P w K mg base 1 "_law_clip" ["_law_begin", "_law_step", "_law_low", "_law_high"] spClp) (c_later : Cal P w K mg base 1 "_law_later" ["_law_one", "_law_other"] spLater) (c_sooner : Cal P w K mg base 1 "_law_sooner" ["_law_one", "_law_other"] spSooner) (c_inside : Cal P w K mg base 1 "_law_inside" ["_law_stroke_here", "_law_when", "_law_spot_here"] spInside) (F : Fun K "_law_goes" "_law_goes" s_goes f fd) : FnOk P w K mg base CX0 2 f fd ["_law_stroke_here", "_law_spot_here"] spGoes := by
  refine F.ok sc_goes (fun vs H Q E h => ?_) (fun cdv A outer s H vs Q E hr h => ?_)
  · obtain ⟨ps, pt, x1, y1, x2, y2, sx, sy, rfl, _⟩ := h
    rfl
  obtain ⟨ps, pt, x1, y1, x2, y2, sx, sy, rfl, hS, ht, bt, q⟩ := h
  have hs := hS.1
  have bs := hS.2.1
  refine ⟨_, (pss_cons (ps_set (i := 2) sc_goes.nd rfl (Or.inl rfl) (pe_cal c_clip hr (pa_cons (pe_op op_mul pe_int (pe_ix ix_tup (pv 0) pe_int (fun _ _ => rfl))) (pa_cons (pe_op op_mul pe_int (pe_op op_sub (pe_ix ix_tup (pv 0) pe_int (fun _ _ => rfl)) (pe_ix ix_tup (pv 0) pe_int (fun _ _ => rfl)))) (pa_cons (pe_op op_sub (pe_op op_mul pe_int (pe_ix ix_tup (pv 1) pe_int (fun _ _ => rfl))) pe_int) (pa_cons (pe_op op_add (pe_op op_mul pe_int (pe_ix ix_tup (pv 1) pe_int (fun _ _ => rfl))) pe_int) pa_nil))))))
    (pss_cons (ps_set (i := 3) sc_goes.nd rfl (Or.inl rfl) (pe_cal c_clip hr (pa_cons (pe_op op_mul pe_int (pe_ix ix_tup (pv 0) pe_int (fun _ _ => rfl))) (pa_cons (pe_op op_mul pe_int (pe_op op_sub (pe_ix ix_tup (pv 0) pe_int (fun _ _ => rfl)) (pe_ix ix_tup (pv 0) pe_int (fun _ _ => rfl)))) (pa_cons (pe_op op_sub (pe_op op_mul pe_int (pe_ix ix_tup (pv 1) pe_int (fun _ _ => rfl))) pe_int) (pa_cons (pe_op op_add (pe_op op_mul pe_int (pe_ix ix_tup (pv 1) pe_int (fun _ _ => rfl))) pe_int) pa_nil))))))
    (pss_cons (ps_if (PW.pt (pw_or (pt_cmpR (op_eqD hr.units) (pv 2) (pe_lst pa_nil) (nomark _)) (pw_or1 (pt_cmpR (op_eqD hr.units) (pv 3) (pe_lst pa_nil) (nomark _)))))
    (pss_one (ps_ret pe_bl))
    pss_nil)
    (pss_cons (ps_set (i := 4) sc_goes.nd rfl (Or.inl rfl) (pe_cal c_later hr (pa_cons (pe_tup (pa_cons pe_int (pa_cons pe_int pa_nil))) (pa_cons (pe_cal c_later hr (pa_cons (pe_ix ix_list (pv 2) pe_int (fun _ _ => rfl)) (pa_cons (pe_ix ix_list (pv 3) pe_int (fun _ _ => rfl)) pa_nil))) pa_nil))))
    (pss_cons (ps_set (i := 5) sc_goes.nd rfl (Or.inl rfl) (pe_cal c_sooner hr (pa_cons (pe_tup (pa_cons pe_int (pa_cons pe_int pa_nil))) (pa_cons (pe_cal c_sooner hr (pa_cons (pe_ix ix_list (pv 2) pe_int (fun _ _ => rfl)) (pa_cons (pe_ix ix_list (pv 3) pe_int (fun _ _ => rfl)) pa_nil))) pa_nil))))
    (pss_cons (ps_if (pt_cmpR op_lt (pe_op op_mul (pe_ix ix_tup (pv 5) pe_int (fun _ _ => rfl)) (pe_ix ix_tup (pv 4) pe_int (fun _ _ => rfl))) (pe_op op_mul (pe_ix ix_tup (pv 4) pe_int (fun _ _ => rfl)) (pe_ix ix_tup (pv 5) pe_int (fun _ _ => rfl))) (nomark _))
    (pss_one (ps_ret pe_bl))
    pss_nil)
    (pss_cons (ps_set (i := 6) sc_goes.nd rfl (Or.inl rfl) (pe_tup (pa_cons (pe_op op_add (pe_op op_mul (pe_ix ix_tup (pv 4) pe_int (fun _ _ => rfl)) (pe_ix ix_tup (pv 5) pe_int (fun _ _ => rfl))) (pe_op op_mul (pe_ix ix_tup (pv 5) pe_int (fun _ _ => rfl)) (pe_ix ix_tup (pv 4) pe_int (fun _ _ => rfl)))) (pa_cons (pe_op op_mul (pe_op op_mul pe_int (pe_ix ix_tup (pv 4) pe_int (fun _ _ => rfl))) (pe_ix ix_tup (pv 5) pe_int (fun _ _ => rfl))) pa_nil))))
    (pss_one (ps_ret (pe_callB (cr_any rfl) rfl B.any bt_any (pa_cons (pe_lc (own := [("_law_when", 7)]) (g := gName 7) (tt := tYes) rfl sc_goes.nd (pi_list (pe_lst (pa_cons (pv 4) (pa_cons (pv 5) (pa_cons (pv 6) pa_nil))))) (blkOk_by (own := [("_law_when", 7)]) (N := ["_law_stroke_here", "_law_spot_here", "_law_one", "_law_other", "_law_comes", "_law_leaves", "_law_middle", "_law_when"]) (sc := defScope s_goes) (by decide +kernel)) (fun _ _ _ _ _ => pg_name (i := 7) sc_goes.nd rfl (Or.inl rfl)) (fun _ _ _ _ _ => pts_nil) (fun _ _ _ _ _ => (pe_cal c_inside hr (pa_cons (pv 0) (pa_cons (pv 7) (pa_cons (pv 1) pa_nil)))))) pa_nil))))))))))), ?_⟩
  refine seq_with (fun σ' H' => ∃ r1, σ' = [some (.ref ps), some (.ref pt), some (.ref r1), none, none, none, none, none] ∧ Same H H' ∧ CR H' r1 (clip (2 * x1) (2 * (x2 - x1)) (2 * sx - 1) (2 * sx + 1))) (fun R hR => ?_) ?_
  · refine ⟨_, rfl, ps, _, _, _, rfl, rfl, SqT.of hs, rfl, _, _, rfl, rfl, .inl ⟨by decide, by decide⟩, _, rfl, ps, _, _, _, rfl, rfl, SqT.of hs, rfl, _, rfl, ps, _, _, _, rfl, rfl, SqT.of hs, rfl, _, _, rfl, rfl, _, _, rfl, rfl, .inl ⟨by decide, by decide⟩, ?_⟩
    refine ⟨_, rfl, pt, _, _, _, rfl, rfl, SqT.of ht, rfl, _, _, rfl, rfl, .inl ⟨by decide, by decide⟩, _, _, rfl, rfl, _, rfl, pt, _, _, _, rfl, rfl, SqT.of ht, rfl, _, _, rfl, rfl, .inl ⟨by decide, by decide⟩, _, _, rfl, rfl, ?_⟩
    refine ⟨_, _, _, _, rfl, fun hn r H1 s1 e1 => ?_, fun p q' hp r p1 p2 H1 s1 e1 f1 f2 => ?_⟩
    · exact hR _ _ ⟨r, rfl, s1, by rw [hn]; exact e1⟩
    · exact hR _ _ ⟨r, rfl, s1, by rw [hp]; exact ⟨p1, p2, e1, f1, f2⟩⟩
  rintro σ1 H1 ⟨r1, rfl, s1, hc1⟩
  have hs1 := s1 _ _ hs
  have ht1 := s1 _ _ ht
  refine seq_with (fun σ' H' => ∃ r2, σ' = [some (.ref ps), some (.ref pt), some (.ref r1), some (.ref r2), none, none, none, none] ∧ Same H1 H' ∧ CR H' r2 (clip (2 * y1) (2 * (y2 - y1)) (2 * sy - 1) (2 * sy + 1))) (fun R hR => ?_) ?_
  · refine ⟨_, rfl, ps, _, _, _, rfl, rfl, SqT.of hs1, rfl, _, _, rfl, rfl, .inl ⟨by decide, by decide⟩, _, rfl, ps, _, _, _, rfl, rfl, SqT.of hs1, rfl, _, rfl, ps, _, _, _, rfl, rfl, SqT.of hs1, rfl, _, _, rfl, rfl, _, _, rfl, rfl, .inl ⟨by decide, by decide⟩, ?_⟩
    refine ⟨_, rfl, pt, _, _, _, rfl, rfl, SqT.of ht1, rfl, _, _, rfl, rfl, .inl ⟨by decide, by decide⟩, _, _, rfl, rfl, _, rfl, pt, _, _, _, rfl, rfl, SqT.of ht1, rfl, _, _, rfl, rfl, .inl ⟨by decide, by decide⟩, _, _, rfl, rfl, ?_⟩
    refine ⟨_, _, _, _, rfl, fun hn r H1 s1 e1 => ?_, fun p q' hp r p1 p2 H1 s1 e1 f1 f2 => ?_⟩
    · exact hR _ _ ⟨r, rfl, s1, by rw [hn]; exact e1⟩
    · exact hR _ _ ⟨r, rfl, s1, by rw [hp]; exact ⟨p1, p2, e1, f1, f2⟩⟩
  rintro σ2 H2 ⟨r2, rfl, s2, hc2⟩
  have hc1 := hc1.same s2
  have s02 := s1.trans s2
  obtain ⟨d1, dp1, sh1, ev1⟩ := dp_cr (K := K) hc1
  refine ⟨_, rfl, sz (by decide : 0 ≤ 100000), fun e1 ne1 => ?_⟩
  have ge1 := same_new ne1 (.lst [])
  obtain ⟨d1', dp1', sh1', ev1'⟩ := dp_cr (K := K) (hc1.same ge1)
  refine ⟨_, _, dp1', .lst (SqL.of upd_same) .nil, sh1', rfl, _, rfl, ?_⟩
  rw [ev1']
  cases ex : clip (2 * x1) (2 * (x2 - x1)) (2 * sx - 1) (2 * sx + 1) with
  | none =>
    refine iteT (iteT ?_)
    have e : goesL x1 y1 x2 y2 sx sy = false := by unfold goesL; rw [ex]
    rw [e] at q
    exact q _ (s02.trans ge1)
  | some pq =>
    obtain ⟨px, qx⟩ := pq
    rw [ex] at hc1
    refine iteF ?_
    refine ⟨_, rfl, sz (by decide : 0 ≤ 100000), fun e2 ne2 => ?_⟩
    have ge2 := same_new ne2 (.lst [])
    have s24 := ge1.trans ge2
    obtain ⟨d2, dp2, sh2, ev2⟩ := dp_cr (K := K) (hc2.same s24)
    refine ⟨_, _, dp2, .lst (SqL.of upd_same) .nil, sh2, rfl, _, rfl, ?_⟩
    rw [ev2]
    cases ey : clip (2 * y1) (2 * (y2 - y1)) (2 * sy - 1) (2 * sy + 1) with
    | none =>
      refine iteT ?_
      have e : goesL x1 y1 x2 y2 sx sy = false := by unfold goesL; rw [ex, ey]
      rw [e] at q
      exact q _ (s02.trans s24)
    | some pq =>
      obtain ⟨py, qy⟩ := pq
      rw [ey] at hc2
      refine iteF ?_
      obtain ⟨a1, a2, k1, f1, f2⟩ := hc1
      obtain ⟨b1, b2, k2, g1, g2⟩ := hc2
      have smx := sm_clip ex (by omega) (by omega) (by omega) (by omega)
      have smy := sm_clip ey (by omega) (by omega) (by omega) (by omega)
      have sm0 : sm 10000 (0, 1) := ⟨by decide, by decide, by decide, by decide⟩
      have sm1 : sm 10000 (1, 1) := ⟨by decide, by decide, by decide, by decide⟩
      have up : ∀ {z : Int × Int}, sm 10000 z → sm 1000000000 z := fun {z} h => by unfold sm at *; omega
      -- comes
      refine ⟨sz (by decide : 2 ≤ 100000), fun z1 nz1 => ?_⟩
      have gz1 := same_new nz1 (.tup [.int 0, .int 1])
      have s25 := s24.trans gz1
      refine ⟨_, rfl, r1, _, _, _, rfl, rfl, SqL.of (s25 _ _ k1), rfl, _, rfl, r2, _, _, _, rfl, rfl, SqL.of (s25 _ _ k2), rfl, a1, b1, px, py, rfl, s25 _ _ f1, s25 _ _ g1, up smx.1, fun l1 hl1 => ?_⟩
      refine ⟨z1, l1, (0, 1), later px py, rfl, upd_same, hl1, up sm0, fun pc hpc => ?_⟩
      -- leaves
      refine ⟨sz (by decide : 2 ≤ 100000), fun z2 nz2 => ?_⟩
      have gz2 := same_new nz2 (.tup [.int 1, .int 1])
      have s26 := s25.trans gz2
      refine ⟨_, rfl, r1, _, _, _, rfl, rfl, SqL.of (s26 _ _ k1), rfl, _, rfl, r2, _, _, _, rfl, rfl, SqL.of (s26 _ _ k2), rfl, a2, b2, qx, qy, rfl, s26 _ _ f2, s26 _ _ g2, up smx.2, fun l2 hl2 => ?_⟩
      refine ⟨z2, l2, (1, 1), sooner qx qy, rfl, upd_same, hl2, up sm1, fun pe hpe => ?_⟩
      have smc : sm 10000 (later (0, 1) (later px py)) := sm_later sm0 (sm_later smx.1 smy.1)
      have sme : sm 10000 (sooner (1, 1) (sooner qx qy)) := sm_sooner sm1 (sm_sooner smx.2 smy.2)
      have hpc := gz2 _ _ hpc
      have eg : goesL x1 y1 x2 y2 sx sy = (if (sooner (1, 1) (sooner qx qy)).1 * (later (0, 1) (later px py)).2 < (later (0, 1) (later px py)).1 * (sooner (1, 1) (sooner qx qy)).2 then false else decide (Ins x1 y1 x2 y2 sx sy (later (0, 1) (later px py)).1 (later (0, 1) (later px py)).2) || (decide (Ins x1 y1 x2 y2 sx sy (sooner (1, 1) (sooner qx qy)).1 (sooner (1, 1) (sooner qx qy)).2) || decide (Ins x1 y1 x2 y2 sx sy ((later (0, 1) (later px py)).1 * (sooner (1, 1) (sooner qx qy)).2 + (sooner (1, 1) (sooner qx qy)).1 * (later (0, 1) (later px py)).2) (2 * (later (0, 1) (later px py)).2 * (sooner (1, 1) (sooner qx qy)).2)))) := by
        unfold goesL
        rw [ex, ey]
      rw [eg] at q
      unfold fr at hpe
      unfold sm at smc sme
      generalize later (0, 1) (later px py) = c at *
      generalize sooner (1, 1) (sooner qx qy) = e at *
      refine ⟨_, rfl, pe, _, _, _, rfl, rfl, SqT.of hpe, rfl, _, rfl, pc, _, _, _, rfl, rfl, SqT.of hpc, rfl, _, _, rfl, rfl, .inl ⟨by omega, by omega⟩, ?_⟩
      refine ⟨_, rfl, pc, _, _, _, rfl, rfl, SqT.of hpc, rfl, _, rfl, pe, _, _, _, rfl, rfl, SqT.of hpe, rfl, _, _, rfl, rfl, .inl ⟨by omega, by omega⟩, _, _, rfl, rfl, _, rfl, ?_⟩
      by_cases hlt : e.1 * c.2 < c.1 * e.2
      · refine iteDT hlt ?_
        rw [if_pos hlt] at q
        exact q _ (s02.trans s26)
      · refine iteDF hlt ?_
        rw [if_neg hlt] at q
        refine ⟨_, rfl, pc, _, _, _, rfl, rfl, SqT.of hpc, rfl, _, rfl, pe, _, _, _, rfl, rfl, SqT.of hpe, rfl, _, _, rfl, rfl, .inl ⟨by omega, by omega⟩, ?_⟩
        refine ⟨_, rfl, pe, _, _, _, rfl, rfl, SqT.of hpe, rfl, _, rfl, pc, _, _, _, rfl, rfl, SqT.of hpc, rfl, _, _, rfl, rfl, .inl ⟨by omega, by omega⟩, _, _, rfl, rfl, ?_⟩
        refine ⟨_, rfl, pc, _, _, _, rfl, rfl, SqT.of hpc, rfl, _, _, rfl, rfl, .inl ⟨by decide, by decide⟩, _, rfl, pe, _, _, _, rfl, rfl, SqT.of hpe, rfl, _, _, rfl, rfl, .inl ⟨by omega, by omega⟩, sz (by decide : 2 ≤ 100000), fun pm nm => ?_⟩
        have gm := same_new nm (.tup [.int (c.1 * e.2 + e.1 * c.2), .int (2 * c.2 * e.2)])
        have hpc := gm _ _ hpc
        have hpe := gm _ _ hpe
        refine ⟨_, rfl, _, rfl, _, rfl, sz (by decide : 3 ≤ 100000), fun pl nl => ?_⟩
        have gl := same_new nl (.lst [.ref pc, .ref pe, .ref pm])
        have s28 := s26.trans (gm.trans gl)
        refine ⟨pl, rfl, ⟨_, SqL.of upd_same⟩, fun D hD => ?_⟩
        have gD := same_new hD (.lst [])
        obtain ⟨bsl, hbs⟩ : ∃ bsl : List Bool, bsl = [decide (Ins x1 y1 x2 y2 sx sy c.1 c.2), decide (Ins x1 y1 x2 y2 sx sy e.1 e.2), decide (Ins x1 y1 x2 y2 sx sy (c.1 * e.2 + e.1 * c.2) (2 * c.2 * e.2))] := ⟨_, rfl⟩
        have hpc := gl _ _ hpc
        have hpe := gl _ _ hpe
        have hpm := gl _ _ (upd_same (H := _) (a := pm) (o := .tup [.int (c.1 * e.2 + e.1 * c.2), .int (2 * c.2 * e.2)]))
        have s08 := s02.trans s28
        have dl : pl ≠ D := ne_of_none upd_same hD
        have dc : pc ≠ D := ne_of_none hpc hD
        have de : pe ≠ D := ne_of_none hpe hD
        have dm : pm ≠ D := ne_of_none hpm hD
        refine lc_list (K := K) (a := pl) (xs := [.ref pc, .ref pe, .ref pm]) (fun i H' => Same H H' ∧ H' pl = some (.lst [.ref pc, .ref pe, .ref pm]) ∧ H' pc = some (.tup [.int c.1, .int c.2]) ∧ H' pe = some (.tup [.int e.1, .int e.2]) ∧ H' pm = some (.tup [.int (c.1 * e.2 + e.1 * c.2), .int (2 * c.2 * e.2)]) ∧ H' D = some (.lst ((bsl.take i).map V.bl))) ?_ ?_ ?_ ?_
        · exact ⟨s08.trans gD, gD _ _ upd_same, gD _ _ hpc, gD _ _ hpe, gD _ _ hpm, upd_same⟩
        · rintro i H' _ ⟨_, hl, _⟩
          exact SqL.of hl
        · rintro i x H' hx ⟨sm', hl', hc', he', hm', hd'⟩
          refine ⟨rfl, lc_yes ?_⟩
          have small : ((bsl.take i).map V.bl).length < sizeLine := by
            rw [List.length_map, List.length_take]
            exact Nat.lt_of_le_of_lt (Nat.min_le_right _ _) (by rw [hbs]; exact Nat.lt_of_lt_of_le (by decide : 3 < 100000) (sz (Nat.le_refl _)))
          have again : ∀ b : Bool, bsl[i]? = some b → Same H (upd H' D (.lst ((bsl.take i).map V.bl ++ [.bl b]))) ∧ upd H' D (.lst ((bsl.take i).map V.bl ++ [.bl b])) pl = some (.lst [.ref pc, .ref pe, .ref pm]) ∧ upd H' D (.lst ((bsl.take i).map V.bl ++ [.bl b])) pc = some (.tup [.int c.1, .int c.2]) ∧ upd H' D (.lst ((bsl.take i).map V.bl ++ [.bl b])) pe = some (.tup [.int e.1, .int e.2]) ∧ upd H' D (.lst ((bsl.take i).map V.bl ++ [.bl b])) pm = some (.tup [.int (c.1 * e.2 + e.1 * c.2), .int (2 * c.2 * e.2)]) ∧ upd H' D (.lst ((bsl.take i).map V.bl ++ [.bl b])) D = some (.lst ((bsl.take (i + 1)).map V.bl)) := fun b hb =>
            ⟨fun a o ea => by rw [upd_ne (ne_of_none (s08 _ _ ea) hD)]; exact sm' _ _ ea, by rw [upd_ne dl]; exact hl', by rw [upd_ne dc]; exact hc', by rw [upd_ne de]; exact he', by rw [upd_ne dm]; exact hm', by rw [upd_same, List.take_succ, hb, List.map_append]; rfl⟩
          match i, hx, hd', small, again with
          | 0, hx, hd', small, again => cases hx; exact ⟨_, rfl, _, rfl, _, rfl, ps, pt, pc, x1, y1, x2, y2, sx, sy, _, _, rfl, hS.same sm', hc', sm' _ _ ht, bt, _, hd', small, again _ (by rw [hbs]; rfl)⟩
          | 1, hx, hd', small, again => cases hx; exact ⟨_, rfl, _, rfl, _, rfl, ps, pt, pe, x1, y1, x2, y2, sx, sy, _, _, rfl, hS.same sm', he', sm' _ _ ht, bt, _, hd', small, again _ (by rw [hbs]; rfl)⟩
          | 2, hx, hd', small, again => cases hx; exact ⟨_, rfl, _, rfl, _, rfl, ps, pt, pm, x1, y1, x2, y2, sx, sy, _, _, rfl, hS.same sm', hm', sm' _ _ ht, bt, _, hd', small, again _ (by rw [hbs]; rfl)⟩
        · rintro H' ⟨sm', hl', hc', he', hm', hd'⟩
          refine ⟨D, bsl, rfl, SqL.of (by rw [hd', hbs]; rfl), ?_⟩
          have ea : bsl.any id = (decide (Ins x1 y1 x2 y2 sx sy c.1 c.2) || (decide (Ins x1 y1 x2 y2 sx sy e.1 e.2) || decide (Ins x1 y1 x2 y2 sx sy (c.1 * e.2 + e.1 * c.2) (2 * c.2 * e.2)))) := by
            rw [hbs]
            simp only [List.any_cons, List.any_nil, id, Bool.or_false]
          rw [ea]
          exact q _ sm'
end
end DM

namespace DM
open PySem L2
theorem Cal.up {P : Program} {w : World} {K : PySem.W.Frag} {mg : Str → Option Value} {base : Heap} {j k : Nat} {x : Str} {ps : List Str} {sp : Sp} (C : Cal P w K mg base j x ps sp) (h : j ≤ k) : Cal P w K mg base k x ps sp := by
  obtain ⟨f, fd, F, r⟩ := C
  exact ⟨f, fd, F.mono h, r⟩
theorem ins_rev (x1 y1 x2 y2 sx sy n m : Int) : Ins x2 y2 x1 y1 sx sy n m ↔ Ins x1 y1 x2 y2 sx sy (m - n) m := by
  have e : ∀ a b : Int, 2 * b * m + 2 * (a - b) * n = 2 * a * m + 2 * (b - a) * (m - n) := fun a b => by
    rw [Int.mul_sub (2 * (b - a)), show 2 * (a - b) * n = - (2 * (b - a) * n) by rw [← Int.neg_mul]; congr 1; omega]
    have f : 2 * (b - a) * m = 2 * b * m - 2 * a * m := by rw [Int.mul_sub, Int.sub_mul]
    omega
  unfold Ins
  rw [e x1 x2, e y1 y2]
theorem thr_rev (x1 y1 x2 y2 sx sy : Int) : Thr x2 y2 x1 y1 sx sy ↔ Thr x1 y1 x2 y2 sx sy := by
  constructor
  · rintro ⟨n, m, hm, h0, h1, hi⟩
    exact ⟨m - n, m, hm, by omega, by omega, (ins_rev ..).mp hi⟩
  · rintro ⟨n, m, hm, h0, h1, hi⟩
    refine ⟨m - n, m, hm, by omega, by omega, (ins_rev ..).mpr ?_⟩
    rw [show m - (m - n) = n by omega]
    exact hi
theorem goesL_rev (x1 y1 x2 y2 sx sy : Int) : goesL x2 y2 x1 y1 sx sy = goesL x1 y1 x2 y2 sx sy := by
  rw [Bool.eq_iff_iff, goesL_iff, goesL_iff]
  exact thr_rev ..
def spNearSpot : Sp := fun vs H Q _ => ∃ (b l ps : Addr) (x1 y1 x2 y2 : Int), vs = [.ref b, .ref ps] ∧ BagAt H b l ∧ Stk H ps x1 y1 x2 y2 ∧ ∀ (p : Addr) (H' : Hp) (x y : Int), BagAt H' b l → But b H H' → Pt H' p x y → Q (.ref p) H'
def spSlanted : Sp := fun vs H Q _ => ∃ (b l : Addr), vs = [.ref b] ∧ BagAt H b l ∧ ∀ (p : Addr) (H' : Hp) (x1 y1 x2 y2 : Int), BagAt H' b l → But b H H' → Stk H' p x1 y1 x2 y2 → Q (.ref p) H'
section
variable {P : Program} {w : World} {K : PySem.W.Frag} {mg : Str → Option Value} {base : Heap} {f : Addr} {fd : FuncData}
abbrev s_near_spot : Stmt := top 18
theorem sc_near_spot : FnScope ["_law_bag_here", "_law_stroke_here", "_law_k", "_law_x", "_law_y"] ["_law_bag_here", "_law_stroke_here"] (defScope s_near_spot) := ⟨rfl, rfl, rfl, by decide +kernel, rfl, by decide +kernel, by decide +kernel⟩
theorem ok_near_spot (c_pull : Cal P w K mg base 1 "_law_pull" ["_law_bag_here", "_law_amount"] spPull) (c_clipped : Cal P w K mg base 1 "_law_clipped" ["_law_number"] spClip) (F : Fun K "_law_near_spot" "_law_near_spot" s_near_spot f fd) : FnOk P w K mg base CX0 2 f fd ["_law_bag_here", "_law_stroke_here"] spNearSpot := by
  refine F.ok sc_near_spot (fun vs H Q E h => ?_) (fun cdv A outer s H vs Q E hr h => ?_)
  · obtain ⟨b, l, ps, x1, y1, x2, y2, rfl, _⟩ := h
    rfl
  obtain ⟨b, l, ps, x1, y1, x2, y2, rfl, hB, hS, q⟩ := h
  refine ⟨_, (pss_cons (ps_set (i := 2) sc_near_spot.nd rfl (Or.inl rfl) (pe_cal c_pull hr (pa_cons (pv 0) (pa_cons pe_int pa_nil))))
    (pss_cons (ps_set (i := 3) sc_near_spot.nd rfl (Or.inl rfl) (pe_op op_add (pe_ix ix_tup (pv 1) pe_int (fun _ _ => rfl)) (pe_op op_fdiv (pe_op op_mul (pe_op op_sub (pe_ix ix_tup (pv 1) pe_int (fun _ _ => rfl)) (pe_ix ix_tup (pv 1) pe_int (fun _ _ => rfl))) (pv 2)) pe_int)))
    (pss_cons (ps_set (i := 4) sc_near_spot.nd rfl (Or.inl rfl) (pe_op op_add (pe_ix ix_tup (pv 1) pe_int (fun _ _ => rfl)) (pe_op op_fdiv (pe_op op_mul (pe_op op_sub (pe_ix ix_tup (pv 1) pe_int (fun _ _ => rfl)) (pe_ix ix_tup (pv 1) pe_int (fun _ _ => rfl))) (pv 2)) pe_int)))
    (pss_one (ps_ret (pe_tup (pa_cons (pe_cal c_clipped hr (pa_cons (pe_op op_sub (pe_op op_add (pv 3) (pe_cal c_pull hr (pa_cons (pv 0) (pa_cons pe_int pa_nil)))) pe_int) pa_nil)) (pa_cons (pe_cal c_clipped hr (pa_cons (pe_op op_sub (pe_op op_add (pv 4) (pe_cal c_pull hr (pa_cons (pv 0) (pa_cons pe_int pa_nil)))) pe_int) pa_nil)) pa_nil)))))))), ?_⟩
  refine ⟨_, rfl, b, _, _, rfl, hB, by decide, by decide, fun k H1 hB1 bt1 k0 k1 => ?_⟩
  have hS1 := hS.but hB bt1
  have hs := hS1.1
  have bs := hS1.2.1
  refine ⟨_, rfl, ps, _, _, _, rfl, rfl, SqT.of hs, rfl, _, rfl, ps, _, _, _, rfl, rfl, SqT.of hs, rfl, _, rfl, ps, _, _, _, rfl, rfl, SqT.of hs, rfl, _, _, rfl, rfl, _, rfl, _, _, rfl, rfl, .inl ⟨by omega, by omega⟩, _, _, rfl, rfl, ⟨by decide, by decide⟩, _, _, rfl, rfl, ?_⟩
  refine ⟨_, rfl, ps, _, _, _, rfl, rfl, SqT.of hs, rfl, _, rfl, ps, _, _, _, rfl, rfl, SqT.of hs, rfl, _, rfl, ps, _, _, _, rfl, rfl, SqT.of hs, rfl, _, _, rfl, rfl, _, rfl, _, _, rfl, rfl, .inl ⟨by omega, by omega⟩, _, _, rfl, rfl, ⟨by decide, by decide⟩, _, _, rfl, rfl, ?_⟩
  refine ⟨_, rfl, _, rfl, b, _, _, rfl, hB1, by decide, by decide, fun r2 H2 hB2 bt2 r20 r21 => ?_⟩
  refine ⟨_, _, rfl, rfl, _, _, rfl, rfl, _, rfl, fun x hx0 hx1 => ?_⟩
  refine ⟨_, rfl, _, rfl, b, _, _, rfl, hB2, by decide, by decide, fun r3 H3 hB3 bt3 r30 r31 => ?_⟩
  refine ⟨_, _, rfl, rfl, _, _, rfl, rfl, _, rfl, fun y hy0 hy1 => ?_⟩
  refine ⟨sz (by decide : 2 ≤ 100000), fun p np => ?_⟩
  exact q p _ x y (hB3.same (same_new np _)) ((bt1.trans (bt2.trans bt3)).trans (But.of (same_new np _))) ⟨upd_same, hx0, hx1, hy0, hy1⟩
abbrev s_slanted : Stmt := top 19
theorem sc_slanted : FnScope ["_law_bag_here", "_law_base_here", "_law_some", "_law_many", "_law_one", "_law_other"] ["_law_bag_here"] (defScope s_slanted) := ⟨rfl, rfl, rfl, by decide +kernel, rfl, by decide +kernel, by decide +kernel⟩
theorem ok_slanted (c_pull : Cal P w K mg base 1 "_law_pull" ["_law_bag_here", "_law_amount"] spPull) (c_clipped : Cal P w K mg base 1 "_law_clipped" ["_law_number"] spClip) (c_of : Cal P w K mg base 2 "_law_of" ["_law_bag_here", "_law_things"] spOf) (c_base : Cal P w K mg base 3 "_law_base" ["_law_bag_here"] spBase) (F : Fun K "_law_slanted" "_law_slanted" s_slanted f fd) : FnOk P w K mg base CX0 4 f fd ["_law_bag_here"] spSlanted := by
  refine F.ok sc_slanted (fun vs H Q E h => ?_) (fun cdv A outer s H vs Q E hr h => ?_)
  · obtain ⟨b, l, rfl, _⟩ := h
    rfl
  obtain ⟨b, l, rfl, hB, q⟩ := h
  refine ⟨_, (pss_cons (ps_set (i := 1) sc_slanted.nd rfl (Or.inl rfl) (pe_cal c_base hr (pa_cons (pv 0) pa_nil)))
    (pss_cons (ps_set (i := 2) sc_slanted.nd rfl (Or.inl rfl) (pe_cal c_of hr (pa_cons (pv 0) (pa_cons (pe_lst (pa_cons (pe_tup (pa_cons pe_int (pa_cons pe_int pa_nil))) (pa_cons (pe_tup (pa_cons pe_int (pa_cons (pe_un un_neg pe_int) pa_nil))) (pa_cons (pe_tup (pa_cons pe_int (pa_cons pe_int pa_nil))) (pa_cons (pe_tup (pa_cons pe_int (pa_cons pe_int pa_nil))) (pa_cons (pe_tup (pa_cons (pe_un un_neg pe_int) (pa_cons pe_int pa_nil))) (pa_cons (pe_tup (pa_cons (pe_un un_neg pe_int) (pa_cons (pe_un un_neg pe_int) pa_nil))) (pa_cons (pe_tup (pa_cons pe_int (pa_cons pe_int pa_nil))) (pa_cons (pe_tup (pa_cons (pe_un un_neg pe_int) (pa_cons pe_int pa_nil))) pa_nil))))))))) pa_nil))))
    (pss_cons (ps_set (i := 3) sc_slanted.nd rfl (Or.inl rfl) (pe_op op_add pe_int (pe_cal c_pull hr (pa_cons (pv 0) (pa_cons pe_int pa_nil)))))
    (pss_cons (ps_set (i := 4) sc_slanted.nd rfl (Or.inl rfl) (pe_tup (pa_cons (pe_cal c_clipped hr (pa_cons (pe_op op_add (pe_ix ix_tup (pv 1) pe_int (fun _ _ => rfl)) (pe_cal c_pull hr (pa_cons (pv 0) (pa_cons pe_int pa_nil)))) pa_nil)) (pa_cons (pe_cal c_clipped hr (pa_cons (pe_op op_add (pe_ix ix_tup (pv 1) pe_int (fun _ _ => rfl)) (pe_cal c_pull hr (pa_cons (pv 0) (pa_cons pe_int pa_nil)))) pa_nil)) pa_nil))))
    (pss_cons (ps_set (i := 5) sc_slanted.nd rfl (Or.inl rfl) (pe_tup (pa_cons (pe_cal c_clipped hr (pa_cons (pe_op op_add (pe_ix ix_tup (pv 4) pe_int (fun _ _ => rfl)) (pe_op op_mul (pe_ix ix_tup (pv 2) pe_int (fun _ _ => rfl)) (pv 3))) pa_nil)) (pa_cons (pe_cal c_clipped hr (pa_cons (pe_op op_add (pe_ix ix_tup (pv 4) pe_int (fun _ _ => rfl)) (pe_op op_mul (pe_ix ix_tup (pv 2) pe_int (fun _ _ => rfl)) (pv 3))) pa_nil)) pa_nil))))
    (pss_one (ps_ret (pe_ifExp (pt_cmpR (op_neD hr.units) (pv 4) (pv 5) (nomark _)) (pe_op op_catT (pv 4) (pv 5)) (pe_tup (pa_cons pe_int (pa_cons pe_int (pa_cons pe_int (pa_cons pe_int pa_nil))))))))))))), ?_⟩
  refine ⟨_, rfl, b, _, rfl, hB, fun pb H1 bx by' hB1 bt1 hb => ?_⟩
  -- the eight slants
  refine ⟨_, rfl, sz (by decide : 2 ≤ 100000), fun p1 n1 => ?_⟩
  refine ⟨_, rfl, sz (by decide : 2 ≤ 100000), fun p2 n2 => ?_⟩
  refine ⟨sz (by decide : 2 ≤ 100000), fun p3 n3 => ⟨sz (by decide : 2 ≤ 100000), fun p4 n4 => ?_⟩⟩
  refine ⟨_, rfl, sz (by decide : 2 ≤ 100000), fun p5 n5 => ?_⟩
  refine ⟨_, rfl, _, rfl, sz (by decide : 2 ≤ 100000), fun p6 n6 => ?_⟩
  refine ⟨sz (by decide : 2 ≤ 100000), fun p7 n7 => ?_⟩
  refine ⟨_, rfl, sz (by decide : 2 ≤ 100000), fun p8 n8 => ?_⟩
  refine ⟨sz (by decide : 8 ≤ 100000), fun pl nl => ?_⟩
  have g1 := same_new n1 (.tup [.int 1, .int 1])
  have g2 := same_new n2 (.tup [.int 1, .int (-1)])
  have g3 := same_new n3 (.tup [.int 3, .int 1])
  have g4 := same_new n4 (.tup [.int 1, .int 3])
  have g5 := same_new n5 (.tup [.int (-5), .int 3])
  have g6 := same_new n6 (.tup [.int (-1), .int (-3)])
  have g7 := same_new n7 (.tup [.int 0, .int 1])
  have g8 := same_new n8 (.tup [.int (-1), .int 0])
  have gl := same_new nl (.lst [.ref p1, .ref p2, .ref p3, .ref p4, .ref p5, .ref p6, .ref p7, .ref p8])
  have c8 := gl
  have c7 := g8.trans c8
  have c6 := g7.trans c7
  have c5 := g6.trans c6
  have c4 := g5.trans c5
  have c3 := g4.trans c4
  have c2 := g3.trans c3
  have c1 := g2.trans c2
  have c0 := g1.trans c1
  have hB2 := hB1.same c0
  have hpre := hB1.same (g1.trans (g2.trans (g3.trans (g4.trans (g5.trans (g6.trans (g7.trans g8)))))))
  refine ⟨b, _, pl, _, rfl, hB2, upd_same, (hpre.new nl).1, by show 0 < 8; decide, by show 8 ≤ 1000; decide, fun v H2 hB3 bt2 hv => ?_⟩
  obtain ⟨pv', dx, dy, rfl, hd, bd⟩ : ∃ (pv' : Addr) (dx dy : Int), v = .ref pv' ∧ H2 pv' = some (.tup [.int dx, .int dy]) ∧ (-5 ≤ dx ∧ dx ≤ 5 ∧ -5 ≤ dy ∧ dy ≤ 5) := by
    have fin : ∀ (p : Addr) (x y : Int), upd _ pl _ p = some (.tup [.int x, .int y]) → (-5 ≤ x ∧ x ≤ 5 ∧ -5 ≤ y ∧ y ≤ 5) → ∃ (pv' : Addr) (dx dy : Int), V.ref p = .ref pv' ∧ H2 pv' = some (.tup [.int dx, .int dy]) ∧ (-5 ≤ dx ∧ dx ≤ 5 ∧ -5 ≤ dy ∧ dy ≤ 5) := fun p x y e k => ⟨p, x, y, rfl, bt2 _ _ (bag_tup hB2 e) e, k⟩
    simp only [List.mem_cons, List.not_mem_nil, or_false] at hv
    rcases hv with rfl | rfl | rfl | rfl | rfl | rfl | rfl | rfl
    · exact fin _ _ _ (c1 _ _ upd_same) (by decide)
    · exact fin _ _ _ (c2 _ _ upd_same) (by decide)
    · exact fin _ _ _ (c3 _ _ upd_same) (by decide)
    · exact fin _ _ _ (c4 _ _ upd_same) (by decide)
    · exact fin _ _ _ (c5 _ _ upd_same) (by decide)
    · exact fin _ _ _ (c6 _ _ upd_same) (by decide)
    · exact fin _ _ _ (c7 _ _ upd_same) (by decide)
    · exact fin _ _ _ (c8 _ _ upd_same) (by decide)
  have hb1 := bt2 _ _ (bag_tup hB2 (c0 _ _ hb)) (c0 _ _ hb)
  have btA := bt1.trans ((But.of c0).trans bt2)
  refine ⟨_, rfl, b, _, _, rfl, hB3, by decide, by decide, fun mm H3 hB4 bt3 m0 m1 => ?_⟩
  have hb2 := bt3 _ _ (bag_tup hB3 hb1) hb1
  have hd2 := bt3 _ _ (bag_tup hB3 hd) hd
  refine ⟨_, _, rfl, rfl, ?_⟩
  refine ⟨_, rfl, pb, _, _, _, rfl, rfl, SqT.of hb2, rfl, _, rfl, b, _, _, rfl, hB4, by decide, by decide, fun r4 H4 hB5 bt4 r40 r41 => ?_⟩
  have hb3 := bt4 _ _ (bag_tup hB4 hb2) hb2
  have hd3 := bt4 _ _ (bag_tup hB4 hd2) hd2
  refine ⟨_, _, rfl, rfl, _, rfl, fun x1 hx0 hx1 => ?_⟩
  refine ⟨_, rfl, pb, _, _, _, rfl, rfl, SqT.of hb3, rfl, _, rfl, b, _, _, rfl, hB5, by decide, by decide, fun r5 H5 hB6 bt5 r50 r51 => ?_⟩
  have hd4 := bt5 _ _ (bag_tup hB5 hd3) hd3
  refine ⟨_, _, rfl, rfl, _, rfl, fun y1 hy0 hy1 => ?_⟩
  refine ⟨sz (by decide : 2 ≤ 100000), fun po no => ?_⟩
  have go := same_new no (.tup [.int x1, .int y1])
  have hd5 := go _ _ hd4
  have btB := btA.trans (bt3.trans (bt4.trans (bt5.trans (But.of go))))
  refine ⟨_, rfl, po, _, _, _, rfl, rfl, SqT.of upd_same, rfl, _, rfl, pv', _, _, _, rfl, rfl, SqT.of hd5, rfl, _, rfl, _, _, rfl, rfl, .inl ⟨by omega, by omega⟩, _, _, rfl, rfl, _, rfl, fun x2 hu0 hu1 => ?_⟩
  refine ⟨_, rfl, po, _, _, _, rfl, rfl, SqT.of upd_same, rfl, _, rfl, pv', _, _, _, rfl, rfl, SqT.of hd5, rfl, _, rfl, _, _, rfl, rfl, .inl ⟨by omega, by omega⟩, _, _, rfl, rfl, _, rfl, fun y2 hv0 hv1 => ?_⟩
  refine ⟨sz (by decide : 2 ≤ 100000), fun pt nt => ?_⟩
  have gt := same_new nt (.tup [.int x2, .int y2])
  have ho := gt _ _ (upd_same (H := H5) (a := po) (o := .tup [.int x1, .int y1]))
  have hB7 := hB6.same (go.trans gt)
  have btC := btB.trans (But.of gt)
  refine ⟨_, rfl, _, rfl, _, _, dp_pair ho, dp_pair upd_same, shaped_pair _ _, shaped_pair _ _, _, rfl, ?_⟩
  rw [eqv_pair]
  by_cases c : x1 = x2 ∧ y1 = y2
  · refine iteNS c ?_
    refine ⟨sz (by decide : 4 ≤ 100000), fun pr nr => ?_⟩
    have gr := same_new nr (.tup [.int 0, .int 0, .int 3, .int 1])
    exact q pr _ 0 0 3 1 (hB7.same gr) (btC.trans (But.of gr)) ⟨upd_same, by decide, by decide⟩
  · refine if_pos' (by rw [decide_eq_false c]; rfl) ?_
    refine ⟨_, rfl, _, rfl, po, pt, _, _, rfl, rfl, SqT.of ho, SqT.of upd_same, (by intro z; cases z), sz (by decide : 4 ≤ 100000), (fun z => by cases z), fun _ pr nr => ?_⟩
    have gr := same_new nr (.tup [.int x1, .int y1, .int x2, .int y2])
    exact q pr _ x1 y1 x2 y2 (hB7.same gr) (btC.trans (But.of gr)) ⟨upd_same, by omega, c⟩
end
end DM

namespace DM
/-! ### a stroke goes through a box of squares -/
def InBox (x1 y1 x2 y2 lx ly gx gy n m : Int) : Prop :=
  (2 * lx - 1) * m ≤ 2 * x1 * m + 2 * (x2 - x1) * n ∧ 2 * x1 * m + 2 * (x2 - x1) * n < (2 * gx + 1) * m ∧ (2 * ly - 1) * m ≤ 2 * y1 * m + 2 * (y2 - y1) * n ∧ 2 * y1 * m + 2 * (y2 - y1) * n < (2 * gy + 1) * m
def Box (x1 y1 x2 y2 lx ly gx gy : Int) : Prop := ∃ n m : Int, 0 < m ∧ 0 ≤ n ∧ n ≤ m ∧ InBox x1 y1 x2 y2 lx ly gx gy n m
theorem box_thr {x1 y1 x2 y2 sx sy : Int} : Box x1 y1 x2 y2 sx sy sx sy ↔ Thr x1 y1 x2 y2 sx sy := Iff.rfl
theorem box_of_thr {x1 y1 x2 y2 lx ly gx gy sx sy : Int} (h : Thr x1 y1 x2 y2 sx sy) (h1 : lx ≤ sx) (h2 : sx ≤ gx) (h3 : ly ≤ sy) (h4 : sy ≤ gy) : Box x1 y1 x2 y2 lx ly gx gy := by
  obtain ⟨n, m, hm, h0, h1', a, b, c, d⟩ := h
  have e1 := Int.mul_le_mul_of_nonneg_right (show 2 * lx - 1 ≤ 2 * sx - 1 by omega) (show 0 ≤ m by omega)
  have e2 := Int.mul_le_mul_of_nonneg_right (show 2 * sx + 1 ≤ 2 * gx + 1 by omega) (show 0 ≤ m by omega)
  have e3 := Int.mul_le_mul_of_nonneg_right (show 2 * ly - 1 ≤ 2 * sy - 1 by omega) (show 0 ≤ m by omega)
  have e4 := Int.mul_le_mul_of_nonneg_right (show 2 * sy + 1 ≤ 2 * gy + 1 by omega) (show 0 ≤ m by omega)
  exact ⟨n, m, hm, h0, h1', by omega, by omega, by omega, by omega⟩
theorem conv_le {a b c n m : Int} (hn : 0 ≤ n) (hnm : n ≤ m) (h1 : a ≤ c) (h2 : b ≤ c) : 2 * a * m + 2 * (b - a) * n ≤ 2 * c * m := by
  have e1 := Int.mul_nonneg (show 0 ≤ c - a by omega) (show 0 ≤ m - n by omega)
  have e2 := Int.mul_nonneg (show 0 ≤ c - b by omega) hn
  simp only [Int.sub_mul, Int.mul_sub, Int.mul_assoc] at *
  omega
theorem conv_ge {a b c n m : Int} (hn : 0 ≤ n) (hnm : n ≤ m) (h1 : c ≤ a) (h2 : c ≤ b) : 2 * c * m ≤ 2 * a * m + 2 * (b - a) * n := by
  have e1 := Int.mul_nonneg (show 0 ≤ a - c by omega) (show 0 ≤ m - n by omega)
  have e2 := Int.mul_nonneg (show 0 ≤ b - c by omega) hn
  simp only [Int.sub_mul, Int.mul_sub, Int.mul_assoc] at *
  omega
theorem out_low {a b l n m : Int} (hm : 0 < m) (hn : 0 ≤ n) (hnm : n ≤ m) (h1 : a < l) (h2 : b < l) (h : (2 * l - 1) * m ≤ 2 * a * m + 2 * (b - a) * n) : False := by
  have e := conv_le hn hnm (show a ≤ l - 1 by omega) (show b ≤ l - 1 by omega)
  have f : 2 * (l - 1) * m = (2 * l - 1) * m - m := by simp only [Int.sub_mul, Int.mul_sub]; omega
  omega
theorem out_high {a b g n m : Int} (hm : 0 < m) (hn : 0 ≤ n) (hnm : n ≤ m) (h1 : g < a) (h2 : g < b) (h : 2 * a * m + 2 * (b - a) * n < (2 * g + 1) * m) : False := by
  have e := conv_ge hn hnm (show g + 1 ≤ a by omega) (show g + 1 ≤ b by omega)
  have f : 2 * (g + 1) * m = (2 * g + 1) * m + m := by simp only [Int.add_mul, Int.mul_add]; omega
  omega
/-- one number between both ends and within the bounds -/
theorem mid_some {a b l g : Int} (h1 : ¬ (a < l ∧ b < l)) (h2 : ¬ (g < a ∧ g < b)) (hlg : l ≤ g) : ∃ c n m : Int, 0 < m ∧ 0 ≤ n ∧ n ≤ m ∧ 2 * a * m + 2 * (b - a) * n = 2 * c * m ∧ l ≤ c ∧ c ≤ g := by
  by_cases e : l ≤ a ∧ a ≤ g
  · exact ⟨a, 0, 1, by decide, by decide, by decide, by omega, by omega, by omega⟩
  · by_cases c : a < l
    · refine ⟨l, l - a, b - a, by omega, by omega, by omega, ?_, by omega, by omega⟩
      have : 2 * (b - a) * (l - a) = 2 * (l - a) * (b - a) := by rw [Int.mul_assoc, Int.mul_assoc, Int.mul_comm (b - a)]
      rw [this, ← Int.add_mul]
      congr 1
      omega
    · refine ⟨g, a - g, a - b, by omega, by omega, by omega, ?_, by omega, by omega⟩
      have : 2 * (b - a) * (a - g) = 2 * (g - a) * (a - b) := by
        have z : (b - a) * (a - g) = (g - a) * (a - b) := by rw [← Int.neg_mul_neg (b - a), Int.mul_comm]; congr 1 <;> omega
        rw [Int.mul_assoc, z, Int.mul_assoc]
      rw [this, ← Int.add_mul]
      congr 1
      omega
theorem half_in {c l g m V : Int} (hm : 0 < m) (e : V = 2 * c * m) (h1 : l ≤ c) (h2 : c ≤ g) : (2 * l - 1) * m ≤ V ∧ V < (2 * g + 1) * m := by
  have e1 := Int.mul_le_mul_of_nonneg_right (show 2 * l - 1 ≤ 2 * c - 1 by omega) (show 0 ≤ m by omega)
  have e2 := Int.mul_le_mul_of_nonneg_right (show 2 * c + 1 ≤ 2 * g + 1 by omega) (show 0 ≤ m by omega)
  rw [Int.sub_mul (2 * c)] at e1
  rw [Int.add_mul (2 * c)] at e2
  omega
/-- a bound from below, from above, by moments -/
def LoOk (v W m : Int) : Prop := (∃ k : Int, v = 2 * k ∧ 2 * k * m ≤ W) ∨ (∃ k : Int, v = 2 * k + 1 ∧ 2 * k * m < W)
def HiOk (v W m : Int) : Prop := (∃ k : Int, v = 2 * k ∧ W ≤ 2 * k * m) ∨ (∃ k : Int, v = 2 * k - 1 ∧ W < 2 * k * m)
theorem lo_hi {v v' W m : Int} (hm : 0 < m) (h : LoOk v W m) (h' : HiOk v' W m) : v ≤ v' := by
  have lt : ∀ a b : Int, a * m < b * m → a < b := fun a b z => Int.lt_of_mul_lt_mul_right z (by omega)
  have le : ∀ a b : Int, a * m ≤ b * m → a ≤ b := fun a b z => Int.le_of_mul_le_mul_right z hm
  rcases h with ⟨k, rfl, h⟩ | ⟨k, rfl, h⟩ <;> rcases h' with ⟨j, rfl, h'⟩ | ⟨j, rfl, h'⟩
  · have := le _ _ (Int.le_trans h h'); omega
  · have := lt _ _ (Int.lt_of_le_of_lt h h'); omega
  · have := lt _ _ (Int.lt_of_lt_of_le h h'); omega
  · have := lt _ _ (Int.lt_trans h h'); omega
def inM (a b t l g : Int) : Int := if a < b then 2 * t * (2 * (l - a) - 1) else 1 - 2 * t * (2 * (g - a) + 1)
def outM (a b t l g : Int) : Int := if a < b then 2 * t * (2 * (g - a) + 1) - 1 else -2 * t * (2 * (l - a) - 1)
theorem axis_up {a b t l g n m : Int} (hm : 0 < m) (ht : 0 < t) (hab : a < b) : ((2 * l - 1) * m ≤ 2 * a * m + 2 * (b - a) * n ↔ 2 * (t * (2 * (l - a) - 1)) * m ≤ 4 * (b - a) * t * n) ∧ (2 * a * m + 2 * (b - a) * n < (2 * g + 1) * m ↔ 4 * (b - a) * t * n < 2 * (t * (2 * (g - a) + 1)) * m) := by
  have e1 : 2 * (t * (2 * (l - a) - 1)) * m = (2 * t) * ((2 * l - 1) * m - 2 * a * m) := by
    rw [← Int.sub_mul, ← Int.mul_assoc, ← Int.mul_assoc]; congr 2; omega
  have e2 : 4 * (b - a) * t * n = (2 * t) * (2 * (b - a) * n) := by
    rw [show 4 * (b - a) * t = 2 * t * (2 * (b - a)) by rw [Int.mul_assoc, Int.mul_assoc, Int.mul_left_comm t, ← Int.mul_assoc 2 2, Int.mul_comm t]; rfl]
    rw [Int.mul_assoc]
  have e3 : 2 * (t * (2 * (g - a) + 1)) * m = (2 * t) * ((2 * g + 1) * m - 2 * a * m) := by
    rw [← Int.sub_mul, ← Int.mul_assoc, ← Int.mul_assoc]; congr 2; omega
  rw [e1, e2, e3]
  have le : ∀ x y : Int, (2 * t) * x ≤ (2 * t) * y ↔ x ≤ y := fun x y => ⟨fun z => Int.le_of_mul_le_mul_left z (by omega), fun z => Int.mul_le_mul_of_nonneg_left z (by omega)⟩
  have lt : ∀ x y : Int, (2 * t) * x < (2 * t) * y ↔ x < y := fun x y => ⟨fun z => Int.lt_of_mul_lt_mul_left z (by omega), fun z => Int.mul_lt_mul_of_pos_left z (by omega)⟩
  rw [le, lt]
  omega
theorem axis_down {a b t l g n m : Int} (hm : 0 < m) (ht : 0 < t) (hab : b < a) : ((2 * l - 1) * m ≤ 2 * a * m + 2 * (b - a) * n ↔ 4 * (a - b) * t * n ≤ 2 * (-(t * (2 * (l - a) - 1))) * m) ∧ (2 * a * m + 2 * (b - a) * n < (2 * g + 1) * m ↔ 2 * (-(t * (2 * (g - a) + 1))) * m < 4 * (a - b) * t * n) := by
  have e1 : 2 * (-(t * (2 * (l - a) - 1))) * m = (2 * t) * (2 * a * m - (2 * l - 1) * m) := by
    rw [← Int.sub_mul, ← Int.mul_assoc]; congr 1; rw [← Int.mul_neg, ← Int.mul_assoc]; congr 1; omega
  have e2 : 4 * (a - b) * t * n = (2 * t) * (-(2 * (b - a) * n)) := by
    rw [show 4 * (a - b) * t = 2 * t * (2 * (a - b)) by rw [Int.mul_assoc, Int.mul_assoc, Int.mul_left_comm t, ← Int.mul_assoc 2 2, Int.mul_comm t]; rfl]
    rw [Int.mul_assoc]; congr 1; rw [← Int.neg_mul]; congr 1; omega
  have e3 : 2 * (-(t * (2 * (g - a) + 1))) * m = (2 * t) * (2 * a * m - (2 * g + 1) * m) := by
    rw [← Int.sub_mul, ← Int.mul_assoc]; congr 1; rw [← Int.mul_neg, ← Int.mul_assoc]; congr 1; omega
  rw [e1, e2, e3]
  have le : ∀ x y : Int, (2 * t) * x ≤ (2 * t) * y ↔ x ≤ y := fun x y => ⟨fun z => Int.le_of_mul_le_mul_left z (by omega), fun z => Int.mul_le_mul_of_nonneg_left z (by omega)⟩
  have lt : ∀ x y : Int, (2 * t) * x < (2 * t) * y ↔ x < y := fun x y => ⟨fun z => Int.lt_of_mul_lt_mul_left z (by omega), fun z => Int.mul_lt_mul_of_pos_left z (by omega)⟩
  rw [le, lt]
  omega
def aw (a b : Int) : Int := if b - a < 0 then -(b - a) else b - a
theorem aw_up {a b : Int} (h : a < b) : aw a b = b - a := by unfold aw; rw [if_neg (by omega)]
theorem aw_down {a b : Int} (h : b < a) : aw a b = a - b := by unfold aw; rw [if_pos (by omega)]; omega
theorem axis_bounds {a b t l g n m : Int} (hm : 0 < m) (ht : 0 < t) (hab : a ≠ b) (h1 : (2 * l - 1) * m ≤ 2 * a * m + 2 * (b - a) * n) (h2 : 2 * a * m + 2 * (b - a) * n < (2 * g + 1) * m) : LoOk (inM a b t l g) (4 * aw a b * t * n) m ∧ HiOk (outM a b t l g) (4 * aw a b * t * n) m := by
  unfold inM outM
  rcases Int.lt_or_lt_of_ne hab with c | c
  · rw [if_pos c, if_pos c, aw_up c]
    have e := axis_up (t := t) (l := l) (g := g) (n := n) hm ht c
    exact ⟨.inl ⟨t * (2 * (l - a) - 1), by rw [Int.mul_assoc], e.1.mp h1⟩, .inr ⟨t * (2 * (g - a) + 1), by rw [Int.mul_assoc], e.2.mp h2⟩⟩
  · rw [if_neg (by omega), if_neg (by omega), aw_down c]
    have e := axis_down (t := t) (l := l) (g := g) (n := n) hm ht c
    exact ⟨.inr ⟨-(t * (2 * (g - a) + 1)), by rw [Int.mul_assoc 2 t]; omega, e.2.mp h2⟩, .inl ⟨-(t * (2 * (l - a) - 1)), by rw [Int.mul_assoc, Int.neg_mul]; omega, e.1.mp h1⟩⟩
theorem axis_of {a b t l g n m : Int} (ht : 0 < t) (hab : a ≠ b) (em : m = 4 * aw a b * t) (h1 : inM a b t l g ≤ n) (h2 : n ≤ outM a b t l g) : (2 * l - 1) * m ≤ 2 * a * m + 2 * (b - a) * n ∧ 2 * a * m + 2 * (b - a) * n < (2 * g + 1) * m := by
  unfold inM at h1
  unfold outM at h2
  have hm : 0 < m := by
    rw [em]
    refine Int.mul_pos (Int.mul_pos (by decide) ?_) ht
    unfold aw
    split <;> omega
  have le : ∀ x y : Int, x * m ≤ m * y ↔ x ≤ y := fun x y => by rw [Int.mul_comm x]; exact ⟨fun z => Int.le_of_mul_le_mul_left z hm, fun z => Int.mul_le_mul_of_nonneg_left z (by omega)⟩
  have ge : ∀ x y : Int, m * y ≤ x * m ↔ y ≤ x := fun x y => by rw [Int.mul_comm x]; exact ⟨fun z => Int.le_of_mul_le_mul_left z hm, fun z => Int.mul_le_mul_of_nonneg_left z (by omega)⟩
  have lt : ∀ x y : Int, m * y < x * m ↔ y < x := fun x y => by rw [Int.mul_comm x]; exact ⟨fun z => Int.lt_of_mul_lt_mul_left z (by omega), fun z => Int.mul_lt_mul_of_pos_left z hm⟩
  have gt : ∀ x y : Int, x * m < m * y ↔ x < y := fun x y => by rw [Int.mul_comm x]; exact ⟨fun z => Int.lt_of_mul_lt_mul_left z (by omega), fun z => Int.mul_lt_mul_of_pos_left z hm⟩
  rcases Int.lt_or_lt_of_ne hab with c | c
  · rw [if_pos c, Int.mul_assoc] at h1 h2
    rw [aw_up c] at em
    have e := axis_up (t := t) (l := l) (g := g) (n := n) hm ht c
    rw [e.1, e.2, ← em, le, lt]
    omega
  · rw [if_neg (by omega), Int.mul_assoc] at h1 h2
    rw [aw_down c] at em
    have e := axis_down (t := t) (l := l) (g := g) (n := n) hm ht c
    rw [e.1, e.2, ← em, ge, gt]
    omega
def mx2 (i j : Int) : Int := if j > i then j else i
def mn2 (i j : Int) : Int := if j < i then j else i
theorem mx2_lt {i j k : Int} : mx2 i j < k ↔ i < k ∧ j < k := by unfold mx2; split <;> omega
theorem lt_mn2 {i j k : Int} : k < mn2 i j ↔ k < i ∧ k < j := by unfold mn2; split <;> omega
def mx3 (i j k : Int) : Int := mx2 (mx2 i j) k
def mn3 (i j k : Int) : Int := mn2 (mn2 i j) k
theorem le_mx3 (i j k : Int) : i ≤ mx3 i j k ∧ j ≤ mx3 i j k ∧ k ≤ mx3 i j k := by unfold mx3 mx2; split <;> split <;> omega
theorem mn3_le (i j k : Int) : mn3 i j k ≤ i ∧ mn3 i j k ≤ j ∧ mn3 i j k ≤ k := by unfold mn3 mn2; split <;> split <;> omega
theorem mx3_le_mn3 {a b c d e f : Int} (h1 : a ≤ d ∧ a ≤ e ∧ a ≤ f) (h2 : b ≤ d ∧ b ≤ e ∧ b ≤ f) (h3 : c ≤ d ∧ c ≤ e ∧ c ≤ f) : mx3 a b c ≤ mn3 d e f := by unfold mx3 mx2 mn3 mn2; split <;> split <;> split <;> split <;> omega
/-- the program's own passing of a box -/
def passL (x1 y1 x2 y2 lx ly gx gy : Int) : Bool :=
  if mx2 x1 x2 < lx ∨ gx < mn2 x1 x2 then false else if mx2 y1 y2 < ly ∨ gy < mn2 y1 y2 then false else
  if aw x1 x2 = 0 ∨ aw y1 y2 = 0 then true else
  decide (mx3 0 (inM x1 x2 (aw y1 y2) lx gx) (inM y1 y2 (aw x1 x2) ly gy) ≤ mn3 (4 * aw x1 x2 * aw y1 y2) (outM x1 x2 (aw y1 y2) lx gx) (outM y1 y2 (aw x1 x2) ly gy))
theorem aw_zero {a b : Int} : aw a b = 0 ↔ a = b := by unfold aw; split <;> omega
theorem aw_pos {a b : Int} (h : a ≠ b) : 0 < aw a b := by unfold aw; split <;> omega
theorem passL_iff {x1 y1 x2 y2 lx ly gx gy : Int} (hx : lx ≤ gx) (hy : ly ≤ gy) : passL x1 y1 x2 y2 lx ly gx gy = true ↔ Box x1 y1 x2 y2 lx ly gx gy := by
  unfold passL
  split
  · rename_i c
    rw [mx2_lt, lt_mn2] at c
    refine ⟨fun z => (nomatch z), fun ⟨n, m, hm, h0, h1, a, b, _, _⟩ => ?_⟩
    rcases c with c | c
    · exact (out_low hm h0 h1 c.1 c.2 a).elim
    · exact (out_high hm h0 h1 c.1 c.2 b).elim
  rename_i cx
  rw [mx2_lt, lt_mn2] at cx
  split
  · rename_i c
    rw [mx2_lt, lt_mn2] at c
    refine ⟨fun z => (nomatch z), fun ⟨n, m, hm, h0, h1, _, _, a, b⟩ => ?_⟩
    rcases c with c | c
    · exact (out_low hm h0 h1 c.1 c.2 a).elim
    · exact (out_high hm h0 h1 c.1 c.2 b).elim
  rename_i cy
  rw [mx2_lt, lt_mn2] at cy
  split
  · rename_i c
    refine ⟨fun _ => ?_, fun _ => rfl⟩
    rw [aw_zero, aw_zero] at c
    rcases c with c | c
    · subst c
      obtain ⟨d, n, m, hm, h0, h1, e, e1, e2⟩ := mid_some (a := y1) (b := y2) (l := ly) (g := gy) (by omega) (by omega) hy
      have i1 := half_in hm e e1 e2
      have i2 := half_in (l := lx) (g := gx) (c := x1) (V := 2 * x1 * m + 2 * (x1 - x1) * n) hm (by rw [Int.sub_self, Int.mul_zero, Int.zero_mul, Int.add_zero]) (by omega) (by omega)
      exact ⟨n, m, hm, h0, h1, i2.1, i2.2, i1.1, i1.2⟩
    · subst c
      obtain ⟨d, n, m, hm, h0, h1, e, e1, e2⟩ := mid_some (a := x1) (b := x2) (l := lx) (g := gx) (by omega) (by omega) hx
      have i1 := half_in hm e e1 e2
      have i2 := half_in (l := ly) (g := gy) (c := y1) (V := 2 * y1 * m + 2 * (y1 - y1) * n) hm (by rw [Int.sub_self, Int.mul_zero, Int.zero_mul, Int.add_zero]) (by omega) (by omega)
      exact ⟨n, m, hm, h0, h1, i1.1, i1.2, i2.1, i2.2⟩
  · rename_i c
    rw [aw_zero, aw_zero] at c
    have nx : x1 ≠ x2 := fun z => c (.inl z)
    have ny : y1 ≠ y2 := fun z => c (.inr z)
    have px := aw_pos nx
    have py := aw_pos ny
    rw [decide_eq_true_eq]
    have eW : 4 * aw y1 y2 * aw x1 x2 = 4 * aw x1 x2 * aw y1 y2 := by rw [Int.mul_assoc, Int.mul_comm (aw y1 y2), Int.mul_assoc]
    have pW : 0 < 4 * aw x1 x2 * aw y1 y2 := Int.mul_pos (Int.mul_pos (by decide) px) py
    constructor
    · intro h
      have a1 := le_mx3 0 (inM x1 x2 (aw y1 y2) lx gx) (inM y1 y2 (aw x1 x2) ly gy)
      have a2 := mn3_le (4 * aw x1 x2 * aw y1 y2) (outM x1 x2 (aw y1 y2) lx gx) (outM y1 y2 (aw x1 x2) ly gy)
      have k1 := axis_of (n := mx3 0 (inM x1 x2 (aw y1 y2) lx gx) (inM y1 y2 (aw x1 x2) ly gy)) py nx rfl a1.2.1 (by omega)
      have k2 := axis_of (n := mx3 0 (inM x1 x2 (aw y1 y2) lx gx) (inM y1 y2 (aw x1 x2) ly gy)) px ny eW.symm a1.2.2 (by omega)
      exact ⟨_, _, pW, a1.1, by omega, k1.1, k1.2, k2.1, k2.2⟩
    · rintro ⟨n, m, hm, h0, h1, a, b, c, d⟩
      have k1 := axis_bounds (t := aw y1 y2) hm py nx a b
      have k2 := axis_bounds (t := aw x1 x2) hm px ny c d
      rw [eW] at k2
      have l0 : LoOk 0 (4 * aw x1 x2 * aw y1 y2 * n) m := .inl ⟨0, rfl, by rw [Int.mul_zero, Int.zero_mul]; exact Int.mul_nonneg (by omega) h0⟩
      have h4 : HiOk (4 * aw x1 x2 * aw y1 y2) (4 * aw x1 x2 * aw y1 y2 * n) m := .inl ⟨2 * aw x1 x2 * aw y1 y2, by simp only [Int.mul_assoc]; omega, by
        rw [show 2 * (2 * aw x1 x2 * aw y1 y2) = 4 * aw x1 x2 * aw y1 y2 by simp only [Int.mul_assoc]; omega]
        exact Int.mul_le_mul_of_nonneg_left h1 (by omega)⟩
      exact mx3_le_mn3 ⟨lo_hi hm l0 h4, lo_hi hm l0 k1.2, lo_hi hm l0 k2.2⟩ ⟨lo_hi hm k1.1 h4, lo_hi hm k1.1 k1.2, lo_hi hm k1.1 k2.2⟩ ⟨lo_hi hm k2.1 h4, lo_hi hm k2.1 k1.2, lo_hi hm k2.1 k2.2⟩
theorem passL_goes (x1 y1 x2 y2 sx sy : Int) : passL x1 y1 x2 y2 sx sy sx sy = goesL x1 y1 x2 y2 sx sy :=
  Bool.eq_iff_iff.mpr ((passL_iff (Int.le_refl _) (Int.le_refl _)).trans (box_thr.trans (goesL_iff ..).symm))
end DM

namespace DM
open PySem L2
/-! ### the program's own strokes and squares -/
theorem nu_mx2 (i j : Int) : nuMax2 (.int i) (.int j) = some (.int (mx2 i j)) := by
  show some (if decide (i < j) = true then V.int j else V.int i) = _
  unfold mx2
  by_cases c : i < j
  · rw [if_pos (decide_eq_true c), if_pos c]
  · rw [if_neg (by rw [decide_eq_false c]; decide), if_neg c]
theorem nu_mn2 (i j : Int) : nuMin2 (.int i) (.int j) = some (.int (mn2 i j)) := by
  show some (if decide (j < i) = true then V.int j else V.int i) = _
  unfold mn2
  by_cases c : j < i
  · rw [if_pos (decide_eq_true c), if_pos c]
  · rw [if_neg (by rw [decide_eq_false c]; decide), if_neg c]
theorem nu_mx3 (i j k : Int) : nuMax3 (.int i) (.int j) (.int k) = some (.int (mx3 i j k)) := by
  unfold nuMax3 mx3
  rw [nu_mx2]
  exact nu_mx2 _ _
theorem nu_mn3 (i j k : Int) : nuMin3 (.int i) (.int j) (.int k) = some (.int (mn3 i j k)) := by
  unfold nuMin3 mn3
  rw [nu_mn2]
  exact nu_mn2 _ _
def spMoments : Sp := fun vs H Q _ => ∃ a b t l g : Int, vs = [.int a, .int b, .int t, .int l, .int g] ∧ 0 ≤ t ∧ t ≤ 1000 ∧ ∀ (r : Addr) (H' : Hp), Same H H' → H' r = some (.tup [.int (inM a b t l g), .int (outM a b t l g)]) → Q (.ref r) H'
def spPasses : Sp := fun vs H Q _ => ∃ (ps pl pg : Addr) (x1 y1 x2 y2 lx ly gx gy : Int), vs = [.ref ps, .ref pl, .ref pg] ∧ Stk H ps x1 y1 x2 y2 ∧ H pl = some (.tup [.int lx, .int ly]) ∧ H pg = some (.tup [.int gx, .int gy]) ∧ ∀ H', Same H H' → Q (.bl (passL x1 y1 x2 y2 lx ly gx gy)) H'
theorem aw_small {a b : Int} (h1 : -40 ≤ a ∧ a ≤ 40) (h2 : -40 ≤ b ∧ b ≤ 40) : 0 ≤ aw a b ∧ aw a b ≤ 80 := by unfold aw; split <;> omega
section
variable {P : Program} {w : World} {K : PySem.W.Frag} {mg : Str → Option Value} {base : Heap} {f : Addr} {fd : FuncData}
abbrev s_moments : Stmt := top 3
theorem sc_moments : FnScope ["start", "end", "unit", "least", "greatest", "lower", "upper"] ["start", "end", "unit", "least", "greatest"] (defScope s_moments) := ⟨rfl, rfl, rfl, by decide +kernel, rfl, by decide +kernel, by decide +kernel⟩
theorem ok_moments (F : Fun K "moments" "moments" s_moments f fd) : FnOk P w K mg base CX0 1 f fd ["start", "end", "unit", "least", "greatest"] spMoments := by
  refine F.ok sc_moments (fun vs H Q E h => ?_) (fun cdv A outer s H vs Q E hr h => ?_)
  · obtain ⟨a, b, t, l, g, rfl, _⟩ := h
    rfl
  obtain ⟨a, b, t, l, g, rfl, t0, t1, q⟩ := h
  refine ⟨_, (pss_cons (ps_par (i := 5) (j := 6) (by rfl) sc_moments.nd rfl rfl (by decide) rfl rfl (pa_cons (pe_op op_sub (pe_op op_mul pe_int (pe_op op_sub (pv 3) (pv 0))) pe_int) (pa_cons (pe_op op_add (pe_op op_mul pe_int (pe_op op_sub (pv 4) (pv 0))) pe_int) pa_nil)) (by rfl))
    (pss_cons (ps_if (pt_cmpR op_lt (pv 0) (pv 1) (nomark _))
    (pss_one (ps_ret (pe_tup (pa_cons (pe_op op_mul (pe_op op_mul pe_int (pv 2)) (pv 5)) (pa_cons (pe_op op_sub (pe_op op_mul (pe_op op_mul pe_int (pv 2)) (pv 6)) pe_int) pa_nil)))))
    pss_nil)
    (pss_one (ps_ret (pe_tup (pa_cons (pe_op op_sub pe_int (pe_op op_mul (pe_op op_mul pe_int (pv 2)) (pv 6))) (pa_cons (pe_op op_mul (pe_op op_mul (pe_un un_neg pe_int) (pv 2)) (pv 5)) pa_nil))))))), ?_⟩
  unfold inM outM at q
  refine ⟨_, rfl, _, rfl, _, _, rfl, rfl, _, _, rfl, rfl, .inl ⟨by decide, by decide⟩, _, _, rfl, rfl, ?_⟩
  refine ⟨_, rfl, _, rfl, _, _, rfl, rfl, _, _, rfl, rfl, .inl ⟨by decide, by decide⟩, _, _, rfl, rfl, _, _, rfl, ?_⟩
  refine ⟨_, rfl, _, rfl, _, _, rfl, rfl, _, rfl, ?_⟩
  by_cases c : a < b
  · refine iteDT c ?_
    rw [if_pos c, if_pos c] at q
    refine ⟨_, rfl, _, _, rfl, rfl, .inl ⟨by decide, by decide⟩, _, rfl, _, _, rfl, rfl, .inl ⟨by omega, by omega⟩, ?_⟩
    refine ⟨_, rfl, _, _, rfl, rfl, .inl ⟨by decide, by decide⟩, _, rfl, _, _, rfl, rfl, .inl ⟨by omega, by omega⟩, _, _, rfl, rfl, ?_⟩
    exact ⟨sz (by decide : 2 ≤ 100000), fun r nr => q r _ (same_new nr _) upd_same⟩
  · refine iteDF c ?_
    rw [if_neg c, if_neg c] at q
    refine ⟨_, rfl, _, _, rfl, rfl, .inl ⟨by decide, by decide⟩, _, rfl, _, _, rfl, rfl, .inl ⟨by omega, by omega⟩, _, _, rfl, rfl, ?_⟩
    refine ⟨_, rfl, _, rfl, _, _, rfl, rfl, .inl ⟨by decide, by decide⟩, _, rfl, _, _, rfl, rfl, .inl ⟨by omega, by omega⟩, ?_⟩
    exact ⟨sz (by decide : 2 ≤ 100000), fun r nr => q r _ (same_new nr _) upd_same⟩
abbrev s_passes : Stmt := top 2
theorem sc_passes : FnScope ["stroke", "least", "greatest", "x1", "y1", "x2", "y2", "wide", "tall", "in_x", "out_x", "in_y", "out_y"] ["stroke", "least", "greatest"] (defScope s_passes) := ⟨rfl, rfl, rfl, by decide +kernel, rfl, by decide +kernel, by decide +kernel⟩
theorem ok_passes (B : Blt mg) (c_moments : Cal P w K mg base 1 "moments" ["start", "end", "unit", "least", "greatest"] spMoments) (F : Fun K "passes" "passes" s_passes f fd) : FnOk P w K mg base CX0 2 f fd ["stroke", "least", "greatest"] spPasses := by
  refine F.ok sc_passes (fun vs H Q E h => ?_) (fun cdv A outer s H vs Q E hr h => ?_)
  · obtain ⟨ps, pl, pg, x1, y1, x2, y2, lx, ly, gx, gy, rfl, _⟩ := h
    rfl
  obtain ⟨ps, pl, pg, x1, y1, x2, y2, lx, ly, gx, gy, rfl, hst, hl, hg, q⟩ := h
  have bs := hst.2.1
  refine ⟨_, (pss_cons (ps_asg (pv 0) (pg_tup rfl (pgs_cons (pg_name (i := 3) sc_passes.nd rfl (Or.inl rfl)) (pgs_cons (pg_name (i := 4) sc_passes.nd rfl (Or.inl rfl)) (pgs_cons (pg_name (i := 5) sc_passes.nd rfl (Or.inl rfl)) (pgs_cons (pg_name (i := 6) sc_passes.nd rfl (Or.inl rfl)) pgs_nil))))))
    (pss_cons (ps_if (PW.pt (pw_or (pt_cmpR op_lt (pe_callB (call_max2 rfl) rfl B.max bt_max (pa_cons (pv 3) (pa_cons (pv 5) pa_nil))) (pe_ix ix_tup (pv 1) pe_int (fun _ _ => rfl)) (nomark _)) (pw_or1 (pt_cmpR op_lt (pe_ix ix_tup (pv 2) pe_int (fun _ _ => rfl)) (pe_callB (call_min2 rfl) rfl B.min bt_min (pa_cons (pv 3) (pa_cons (pv 5) pa_nil))) (nomark _)))))
    (pss_one (ps_ret pe_bl))
    pss_nil)
    (pss_cons (ps_if (PW.pt (pw_or (pt_cmpR op_lt (pe_callB (call_max2 rfl) rfl B.max bt_max (pa_cons (pv 4) (pa_cons (pv 6) pa_nil))) (pe_ix ix_tup (pv 1) pe_int (fun _ _ => rfl)) (nomark _)) (pw_or1 (pt_cmpR op_lt (pe_ix ix_tup (pv 2) pe_int (fun _ _ => rfl)) (pe_callB (call_min2 rfl) rfl B.min bt_min (pa_cons (pv 4) (pa_cons (pv 6) pa_nil))) (nomark _)))))
    (pss_one (ps_ret pe_bl))
    pss_nil)
    (pss_cons (ps_par (i := 7) (j := 8) (by rfl) sc_passes.nd rfl rfl (by decide) rfl rfl (pa_cons (pe_callB call_abs rfl B.abs bt_abs (pa_cons (pe_op op_sub (pv 5) (pv 3)) pa_nil)) (pa_cons (pe_callB call_abs rfl B.abs bt_abs (pa_cons (pe_op op_sub (pv 6) (pv 4)) pa_nil)) pa_nil)) (by rfl))
    (pss_cons (ps_if (PW.pt (pw_or (pt_cmpR op_eq (pv 7) pe_int (nomark _)) (pw_or1 (pt_cmpR op_eq (pv 8) pe_int (nomark _)))))
    (pss_one (ps_ret pe_bl))
    pss_nil)
    (pss_cons (ps_asg (pe_cal c_moments hr (pa_cons (pv 3) (pa_cons (pv 5) (pa_cons (pv 8) (pa_cons (pe_ix ix_tup (pv 1) pe_int (fun _ _ => rfl)) (pa_cons (pe_ix ix_tup (pv 2) pe_int (fun _ _ => rfl)) pa_nil)))))) (pg_tup rfl (pgs_cons (pg_name (i := 9) sc_passes.nd rfl (Or.inl rfl)) (pgs_cons (pg_name (i := 10) sc_passes.nd rfl (Or.inl rfl)) pgs_nil))))
    (pss_cons (ps_asg (pe_cal c_moments hr (pa_cons (pv 4) (pa_cons (pv 6) (pa_cons (pv 7) (pa_cons (pe_ix ix_tup (pv 1) pe_int (fun _ _ => rfl)) (pa_cons (pe_ix ix_tup (pv 2) pe_int (fun _ _ => rfl)) pa_nil)))))) (pg_tup rfl (pgs_cons (pg_name (i := 11) sc_passes.nd rfl (Or.inl rfl)) (pgs_cons (pg_name (i := 12) sc_passes.nd rfl (Or.inl rfl)) pgs_nil))))
    (pss_one (ps_ret (pe_cmpR op_le (pe_callB (call_max3Nu rfl) rfl B.max bt_max (pa_cons pe_int (pa_cons (pv 9) (pa_cons (pv 11) pa_nil)))) (pe_callB (call_min3Nu rfl) rfl B.min bt_min (pa_cons (pe_op op_mul (pe_op op_mul pe_int (pv 7)) (pv 8)) (pa_cons (pv 10) (pa_cons (pv 12) pa_nil)))) (nomark _))))))))))), ?_⟩
  unfold passL at q
  refine seq_with (fun σ' H' => H = H' ∧ σ' = [some (.ref ps), some (.ref pl), some (.ref pg), some (.int x1), some (.int y1), some (.int x2), some (.int y2), none, none, none, none, none, none]) (fun R hR => ⟨_, rfl, ps, _, rfl, SqT.of hst.1, rfl, _, _, rfl, _, _, rfl, _, _, rfl, _, _, rfl, rfl, hR _ _ ⟨rfl, rfl⟩⟩) ?_
  rintro _ _ ⟨rfl, rfl⟩
  refine ⟨_, rfl, _, rfl, _, _, rfl, _, rfl, pl, _, _, _, rfl, rfl, SqT.of hl, rfl, _, _, rfl, rfl, _, rfl, ?_⟩
  by_cases c1 : mx2 x1 x2 < lx
  · refine iteDT c1 ?_
    rw [if_pos (.inl c1)] at q
    exact q H (Same.refl H)
  refine iteDF c1 ?_
  refine ⟨_, rfl, pg, _, _, _, rfl, rfl, SqT.of hg, rfl, _, rfl, _, rfl, _, _, rfl, _, _, rfl, rfl, _, rfl, ?_⟩
  by_cases c2 : gx < mn2 x1 x2
  · refine iteDT c2 ?_
    rw [if_pos (.inr c2)] at q
    exact q H (Same.refl H)
  refine iteDF c2 ?_
  rw [if_neg (show ¬ (mx2 x1 x2 < lx ∨ gx < mn2 x1 x2) from fun z => z.elim c1 c2)] at q
  refine ⟨_, rfl, _, rfl, _, _, rfl, _, rfl, pl, _, _, _, rfl, rfl, SqT.of hl, rfl, _, _, rfl, rfl, _, rfl, ?_⟩
  by_cases c3 : mx2 y1 y2 < ly
  · refine iteDT c3 ?_
    rw [if_pos (.inl c3)] at q
    exact q H (Same.refl H)
  refine iteDF c3 ?_
  refine ⟨_, rfl, pg, _, _, _, rfl, rfl, SqT.of hg, rfl, _, rfl, _, rfl, _, _, rfl, _, _, rfl, rfl, _, rfl, ?_⟩
  by_cases c4 : gy < mn2 y1 y2
  · refine iteDT c4 ?_
    rw [if_pos (.inr c4)] at q
    exact q H (Same.refl H)
  refine iteDF c4 ?_
  rw [if_neg (show ¬ (mx2 y1 y2 < ly ∨ gy < mn2 y1 y2) from fun z => z.elim c3 c4)] at q
  have sx := aw_small (a := x1) (b := x2) (by omega) (by omega)
  have sy := aw_small (a := y1) (b := y2) (by omega) (by omega)
  dsimp only [tNext]
  refine seq_with (fun σ' H' => H = H' ∧ σ' = [some (.ref ps), some (.ref pl), some (.ref pg), some (.int x1), some (.int y1), some (.int x2), some (.int y2), some (.int (aw x1 x2)), some (.int (aw y1 y2)), none, none, none, none]) (fun R hR => ⟨_, rfl, _, rfl, _, _, rfl, rfl, _, rfl, _, rfl, _, rfl, _, _, rfl, rfl, _, rfl, _, _, rfl, hR _ _ ⟨rfl, rfl⟩⟩) ?_
  rintro _ _ ⟨rfl, rfl⟩
  refine ⟨_, rfl, rfl, _, rfl, ?_⟩
  by_cases c5 : aw x1 x2 = 0
  · refine iteDT (congrArg V.int c5) ?_
    rw [if_pos (.inl c5)] at q
    exact q H (Same.refl H)
  refine iteDF (fun z => c5 (V.int.inj z)) ?_
  refine ⟨_, rfl, rfl, _, rfl, ?_⟩
  by_cases c6 : aw y1 y2 = 0
  · refine iteDT (congrArg V.int c6) ?_
    rw [if_pos (.inr c6)] at q
    exact q H (Same.refl H)
  refine iteDF (fun z => c6 (V.int.inj z)) ?_
  rw [if_neg (show ¬ (aw x1 x2 = 0 ∨ aw y1 y2 = 0) from fun z => z.elim c5 c6)] at q
  dsimp only [tNext]
  refine seq_with (fun σ' H1 => Same H H1 ∧ σ' = [some (.ref ps), some (.ref pl), some (.ref pg), some (.int x1), some (.int y1), some (.int x2), some (.int y2), some (.int (aw x1 x2)), some (.int (aw y1 y2)), some (.int (inM x1 x2 (aw y1 y2) lx gx)), some (.int (outM x1 x2 (aw y1 y2) lx gx)), none, none]) (fun R hR => ?_) ?_
  · exact ⟨_, rfl, _, rfl, _, rfl, _, rfl, pl, _, _, _, rfl, rfl, SqT.of hl, rfl, _, rfl, pg, _, _, _, rfl, rfl, SqT.of hg, rfl, x1, x2, aw y1 y2, lx, gx, rfl, sy.1, by omega, fun r1 H1 s1 h1 => ⟨r1, _, rfl, SqT.of h1, rfl, _, _, rfl, _, _, rfl, rfl, hR _ _ ⟨s1, rfl⟩⟩⟩
  rintro _ H1 ⟨s1, rfl⟩
  refine seq_with (fun σ' H2 => Same H1 H2 ∧ σ' = [some (.ref ps), some (.ref pl), some (.ref pg), some (.int x1), some (.int y1), some (.int x2), some (.int y2), some (.int (aw x1 x2)), some (.int (aw y1 y2)), some (.int (inM x1 x2 (aw y1 y2) lx gx)), some (.int (outM x1 x2 (aw y1 y2) lx gx)), some (.int (inM y1 y2 (aw x1 x2) ly gy)), some (.int (outM y1 y2 (aw x1 x2) ly gy))]) (fun R hR => ?_) ?_
  · exact ⟨_, rfl, _, rfl, _, rfl, _, rfl, pl, _, _, _, rfl, rfl, SqT.of (s1 _ _ hl), rfl, _, rfl, pg, _, _, _, rfl, rfl, SqT.of (s1 _ _ hg), rfl, y1, y2, aw x1 x2, ly, gy, rfl, sx.1, by omega, fun r2 H2 s2 h2 => ⟨r2, _, rfl, SqT.of h2, rfl, _, _, rfl, _, _, rfl, rfl, hR _ _ ⟨s2, rfl⟩⟩⟩
  rintro _ H2 ⟨s2, rfl⟩
  refine ⟨_, rfl, _, rfl, _, _, _, _, rfl, nu_mx3 _ _ _, ?_⟩
  refine ⟨_, rfl, _, _, rfl, rfl, .inl ⟨by decide, by decide⟩, _, rfl, _, _, rfl, rfl, .inl ⟨by show -(2 ^ 64) < 4 * aw x1 x2; omega, by show 4 * aw x1 x2 < 2 ^ 64; omega⟩, _, rfl, _, rfl, _, _, _, _, rfl, nu_mn3 _ _ _, ?_⟩
  exact ⟨_, _, rfl, rfl, q _ (s1.trans s2)⟩
abbrev s_p_goes : Stmt := top 1
theorem sc_p_goes : FnScope ["stroke", "spot"] ["stroke", "spot"] (defScope s_p_goes) := ⟨rfl, rfl, rfl, by decide +kernel, rfl, by decide +kernel, by decide +kernel⟩
theorem ok_p_goes (c_passes : Cal P w K mg base 2 "passes" ["stroke", "least", "greatest"] spPasses) (F : Fun K "goes" "goes" s_p_goes f fd) : FnOk P w K mg base CX0 3 f fd ["stroke", "spot"] spGoes := by
  refine F.ok sc_p_goes (fun vs H Q E h => ?_) (fun cdv A outer s H vs Q E hr h => ?_)
  · obtain ⟨ps, pt, x1, y1, x2, y2, sx, sy, rfl, _⟩ := h
    rfl
  obtain ⟨ps, pt, x1, y1, x2, y2, sx, sy, rfl, hst, hpt, _, q⟩ := h
  refine ⟨_, (pss_one (ps_ret (pe_cal c_passes hr (pa_cons (pv 0) (pa_cons (pv 1) (pa_cons (pv 1) pa_nil)))))), ?_⟩
  refine ⟨_, rfl, _, rfl, _, rfl, ps, pt, pt, x1, y1, x2, y2, sx, sy, sx, sy, rfl, hst, hpt, hpt, fun H' s' => ?_⟩
  rw [passL_goes]
  exact q H' s'
end
end DM

namespace DM
open PySem L2
section
variable {P : Program} {w : World} {K : PySem.W.Frag} {mg : Str → Option Value} {base : Heap} {f : Addr} {fd : FuncData}
abbrev s_law : Stmt := top 20
theorem sc_law : FnScope ["_law_script", "_law_bag_here", "_law_turn", "_law_base_here", "_law_wide", "_law_stroke_here", "_law_k", "_law_spot_here", "_law_due"] ["_law_script"] (defScope s_law) := ⟨rfl, rfl, rfl, by decide +kernel, rfl, by decide +kernel, by decide +kernel⟩
theorem ok_law (B : Blt mg) (c_bag : Cal P w K mg base 1 "_law_bag" ["_law_script"] (spBag K)) (c_of : Cal P w K mg base 2 "_law_of" ["_law_bag_here", "_law_things"] spOf) (c_like : Cal P w K mg base 2 "_law_like" ["_law_found", "_law_due"] (spLike 1)) (c_spot : Cal P w K mg base 2 "_law_spot" ["_law_bag_here", "_law_base_here", "_law_wide"] spSpot) (c_base : Cal P w K mg base 3 "_law_base" ["_law_bag_here"] spBase)
    (c_stroke : Cal P w K mg base 3 "_law_stroke" ["_law_bag_here", "_law_base_here", "_law_wide"] spStroke) (c_slanted : Cal P w K mg base 4 "_law_slanted" ["_law_bag_here"] spSlanted) (c_near_spot : Cal P w K mg base 2 "_law_near_spot" ["_law_bag_here", "_law_stroke_here"] spNearSpot) (c_goes : Cal P w K mg base 2 "_law_goes" ["_law_stroke_here", "_law_spot_here"] spGoes) (c_p_goes : Cal P w K mg base 3 "goes" ["stroke", "spot"] spGoes) (F : Fun K "law" "law" s_law f fd) : FnOk P w K mg base CX0 5 f fd ["_law_script"] (spLaw K) := by
  refine F.ok sc_law (fun vs H Q E h => ?_) (fun cdv A outer s H vs Q E hr h => ?_)
  · obtain ⟨a, ns, rfl, _⟩ := h
    rfl
  obtain ⟨a, ns, rfl, hS, h63, q⟩ := h
  refine ⟨_, (pss_cons (ps_set (i := 1) sc_law.nd rfl (Or.inl rfl) (pe_cal c_bag hr (pa_cons (pv 0) pa_nil)))
    (pss_cons (ps_for PassesOwn.never rfl (pi_range1 rfl B.range (pa_cons pe_int pa_nil)) (pg_name (i := 2) sc_law.nd rfl (Or.inl rfl))
    (pss_cons (ps_par (i := 3) (j := 4) (by rfl) sc_law.nd rfl rfl (by decide) rfl rfl (pa_cons (pe_cal c_base hr (pa_cons (pv 1) pa_nil)) (pa_cons (pe_cal c_of hr (pa_cons (pv 1) (pa_cons (pe_lst (pa_cons pe_int (pa_cons pe_int (pa_cons pe_int pa_nil)))) pa_nil))) pa_nil)) (by rfl))
    (pss_cons (ps_set (i := 5) sc_law.nd rfl (Or.inl rfl) (pe_cal c_of hr (pa_cons (pv 1) (pa_cons (pe_lst (pa_cons (pe_cal c_stroke hr (pa_cons (pv 1) (pa_cons (pv 3) (pa_cons (pv 4) pa_nil)))) (pa_cons (pe_cal c_slanted hr (pa_cons (pv 1) pa_nil)) pa_nil))) pa_nil))))
    (pss_one (ps_for PassesOwn.never rfl (pi_range1 rfl B.range (pa_cons pe_int pa_nil)) (pg_name (i := 6) sc_law.nd rfl (Or.inl rfl))
    (pss_cons (ps_set (i := 7) sc_law.nd rfl (Or.inl rfl) (pe_cal c_of hr (pa_cons (pv 1) (pa_cons (pe_lst (pa_cons (pe_cal c_near_spot hr (pa_cons (pv 1) (pa_cons (pv 5) pa_nil))) (pa_cons (pe_slice sl_tup (pv 5) (po_some pe_int) po_none) (pa_cons (pe_cal c_spot hr (pa_cons (pv 1) (pa_cons (pv 3) (pa_cons (pv 4) pa_nil)))) pa_nil)))) pa_nil))))
    (pss_cons (ps_set (i := 8) sc_law.nd rfl (Or.inl rfl) (pe_cal c_goes hr (pa_cons (pv 5) (pa_cons (pv 7) pa_nil))))
    (pss_cons (ps_if (pt_not (pt_val (pe_cal c_like hr (pa_cons (pe_cal c_p_goes hr (pa_cons (pv 5) (pa_cons (pv 7) pa_nil))) (pa_cons (pv 8) pa_nil)))))
    (pss_one (ps_ret pe_bl))
    pss_nil)
    (pss_one (ps_if (pt_not (pt_val (pe_cal c_like hr (pa_cons (pe_cal c_p_goes hr (pa_cons (pe_op op_catT (pe_slice sl_tup (pv 5) (po_some pe_int) po_none) (pe_slice sl_tup (pv 5) po_none (po_some pe_int))) (pa_cons (pv 7) pa_nil))) (pa_cons (pv 8) pa_nil)))))
    (pss_one (ps_ret pe_bl))
    pss_nil))))))))))
    (pss_one (ps_ret (pe_and (pe_cmpR op_isBl (pe_cal c_p_goes hr (pa_cons (pe_tup (pa_cons pe_int (pa_cons pe_int (pa_cons pe_int (pa_cons pe_int pa_nil))))) (pa_cons (pe_tup (pa_cons pe_int (pa_cons pe_int pa_nil))) pa_nil))) pe_bl (nomark _)) (pe_one (pe_cmpR op_isBl (pe_cal c_p_goes hr (pa_cons (pe_tup (pa_cons pe_int (pa_cons pe_int (pa_cons pe_int (pa_cons pe_int pa_nil))))) (pa_cons (pe_tup (pa_cons pe_int (pa_cons pe_int pa_nil))) pa_nil))) pe_bl (nomark _)))))))), ?_⟩
  refine ⟨_, rfl, a, ns, rfl, hS, h63, fun b l H1 sm1 nb nl hB => ?_⟩
  refine ⟨5, rfl, by decide, by decide, for_range (lo := 0) (n := (5 : Int).toNat) (fun _ σ H' => (∃ c2 c3 c4 c5 c6 c7 c8, σ = [some (.ref a), some (.ref b), c2, c3, c4, c5, c6, c7, c8]) ∧ BagAt H' b l) ⟨⟨_, _, _, _, _, _, _, rfl⟩, hB⟩ ?_ ?_⟩
  · rintro i σ H2 hi ⟨⟨c2, c3, c4, c5, c6, c7, c8, rfl⟩, hB2⟩
    refine ⟨_, rfl, b, _, rfl, hB2, fun pb H3 x0 y0 hB3 bt3 hpb => ?_⟩
    refine ⟨_, rfl, sz (by decide : 3 ≤ 100000), fun p8 n8 => ?_⟩
    have g8 := same_new n8 (.lst [.int 2, .int 6, .int 40])
    refine ⟨b, _, p8, _, rfl, hB3.same g8, upd_same, (hB3.new n8).1, by show 0 < 3; decide, by show 3 ≤ 1000; decide, fun v H4 hB4 bt4 hv => ?_⟩
    obtain ⟨m, rfl, m0, m1⟩ : ∃ m : Int, v = .int m ∧ 0 < m ∧ m ≤ 1000 := by
      simp only [List.mem_cons, List.not_mem_nil, or_false] at hv
      rcases hv with rfl | rfl | rfl <;> exact ⟨_, rfl, by decide, by decide⟩
    have hpb4 := bt4 _ _ (bag_tup (hB3.same g8) (g8 _ _ hpb)) (g8 _ _ hpb)
    refine ⟨_, _, rfl, ?_⟩
    -- the stroke
    refine ⟨_, rfl, _, rfl, _, rfl, _, rfl, b, _, pb, x0, y0, m, rfl, hB4, hpb4, m0, m1, fun s1 H5 a1 b1 a2 b2 hB5 bt5 hs1 => ?_⟩
    have hpb5 := bt5 _ _ (bag_tup hB4 hpb4) hpb4
    refine ⟨_, rfl, b, _, rfl, hB5, fun s2 H6 d1 e1 d2 e2 hB6 bt6 hs2 => ?_⟩
    have hpb6 := bt6 _ _ (bag_tup hB5 hpb5) hpb5
    have hs1' := hs1.but hB5 bt6
    refine ⟨sz (by decide : 2 ≤ 100000), fun pl nl => ?_⟩
    have gl := same_new nl (.lst [.ref s1, .ref s2])
    refine ⟨b, _, pl, _, rfl, hB6.same gl, upd_same, (hB6.new nl).1, by show 0 < 2; decide, by show 2 ≤ 1000; decide, fun v H7 hB7 bt7 hv => ?_⟩
    have hpb7 := bt7 _ _ (bag_tup (hB6.same gl) (gl _ _ hpb6)) (gl _ _ hpb6)
    obtain ⟨ps, x1, y1, x2, y2, rfl, hst⟩ : ∃ (ps : Addr) (x1 y1 x2 y2 : Int), v = .ref ps ∧ Stk H7 ps x1 y1 x2 y2 := by
      simp only [List.mem_cons, List.not_mem_nil, or_false] at hv
      rcases hv with rfl | rfl
      · exact ⟨_, _, _, _, _, rfl, (hs1'.same gl).but (hB6.same gl) bt7⟩
      · exact ⟨_, _, _, _, _, rfl, (hs2.same gl).but (hB6.same gl) bt7⟩
    refine ⟨8, rfl, by decide, by decide, for_range (lo := 0) (n := (8 : Int).toNat) (fun _ σ H' => (∃ c2 c6 c7 c8, σ = [some (.ref a), some (.ref b), c2, some (.ref pb), some (.int m), some (.ref ps), c6, c7, c8]) ∧ BagAt H' b l ∧ H' pb = some (.tup [.int x0, .int y0]) ∧ Stk H' ps x1 y1 x2 y2) ⟨⟨_, _, _, _, rfl⟩, hB7, hpb7, hst⟩ ?_ ?_⟩
    · rintro k σ J0 hk ⟨⟨c2, c6, c7, c8, rfl⟩, hB0, hpb0, hst0⟩
      -- the spot
      refine ⟨_, rfl, _, rfl, _, rfl, b, _, ps, x1, y1, x2, y2, rfl, hB0, hst0, fun t1 J1 u1 v1 hB1 bt1 h1 => ?_⟩
      have hst1 := hst0.but hB0 bt1
      have hpb1 := bt1 _ _ (bag_tup hB0 hpb0) hpb0
      refine ⟨_, rfl, _, rfl, ps, _, rfl, SqT.of hst1.1, (fun z => absurd z.1 (by show ¬ (2 = 0); decide)), fun t2 nt2 => ?_⟩
      have gt2 := same_new nt2 (.tup [.int x2, .int y2])
      have hB1' := hB1.same gt2
      refine ⟨_, rfl, _, rfl, _, rfl, b, _, pb, x0, y0, m, rfl, hB1', gt2 _ _ hpb1, m0, m1, fun t3 J2 u3 v3 hB2 bt2 h3 => ?_⟩
      have hst2 := (hst1.same gt2).but hB1' bt2
      have hpb2 := bt2 _ _ (bag_tup hB1' (gt2 _ _ hpb1)) (gt2 _ _ hpb1)
      have h1' := (h1.same gt2).but hB1' bt2
      have h2' : J2 t2 = some (.tup [.int x2, .int y2]) := bt2 _ _ (bag_tup hB1' upd_same) upd_same
      refine ⟨sz (by decide : 3 ≤ 100000), fun tl ntl => ?_⟩
      have gtl := same_new ntl (.lst [.ref t1, .ref t2, .ref t3])
      have hB2' := hB2.same gtl
      refine ⟨b, _, tl, _, rfl, hB2', upd_same, (hB2.new ntl).1, by show 0 < 3; decide, by show 3 ≤ 1000; decide, fun v J3 hB3' bt3' hv => ?_⟩
      have hst3 := (hst2.same gtl).but hB2' bt3'
      have hpb3 := bt3' _ _ (bag_tup hB2' (gtl _ _ hpb2)) (gtl _ _ hpb2)
      have bst := hst3.2.1
      obtain ⟨pt, sx, sy, rfl, hpt, bpt⟩ : ∃ (pt : Addr) (sx sy : Int), v = .ref pt ∧ J3 pt = some (.tup [.int sx, .int sy]) ∧ (-1000 ≤ sx ∧ sx ≤ 1000 ∧ -1000 ≤ sy ∧ sy ≤ 1000) := by
        simp only [List.mem_cons, List.not_mem_nil, or_false] at hv
        rcases hv with rfl | rfl | rfl
        · have z := (h1'.same gtl).but hB2' bt3'
          exact ⟨_, _, _, rfl, z.1, by have := z.2; omega⟩
        · exact ⟨_, _, _, rfl, bt3' _ _ (bag_tup hB2' (gtl _ _ h2')) (gtl _ _ h2'), by omega⟩
        · have z := (h3.same gtl).but hB2' bt3'
          exact ⟨_, _, _, rfl, z.1, by have := z.2; omega⟩
      -- due
      refine ⟨_, rfl, _, rfl, ps, pt, x1, y1, x2, y2, sx, sy, rfl, hst3, hpt, bpt, fun J4 sm4 => ?_⟩
      dsimp only [gName]
      refine seq_with (fun σ' H' => (∃ c2 c6, σ' = [some (.ref a), some (.ref b), c2, some (.ref pb), some (.int m), some (.ref ps), c6, some (.ref pt), some (.bl (goesL x1 y1 x2 y2 sx sy))]) ∧ Same J4 H') (fun R hR => ?_) ?_
      · refine ⟨_, rfl, _, rfl, ps, pt, x1, y1, x2, y2, sx, sy, rfl, hst3.same sm4, sm4 _ _ hpt, bpt, fun J5 sm5 => ?_⟩
        refine ⟨_, rfl, _, _, rfl, Alike.scal rfl, fun J6 sm6 => ⟨_, rfl, iteF ?_⟩⟩
        exact hR _ _ ⟨⟨_, _, rfl⟩, sm5.trans sm6⟩
      · rintro σ J5 ⟨⟨c2, c6, rfl⟩, sm5⟩
        have s35 := sm4.trans sm5
        have hst5 := hst3.same s35
        refine ⟨_, rfl, _, rfl, ps, _, rfl, SqT.of hst5.1, (fun z => absurd z.1 (by show ¬ (2 = 0); decide)), fun w1 nw1 => ?_⟩
        have gw1 := same_new nw1 (.tup [.int x2, .int y2])
        refine ⟨_, rfl, _, rfl, ps, _, rfl, SqT.of (gw1 _ _ hst5.1), (fun z => absurd z.2 (by show ¬ (2 = 4); decide)), fun w2 nw2 => ?_⟩
        have gw2 := same_new nw2 (.tup [.int x1, .int y1])
        refine ⟨w1, w2, [.int x2, .int y2], [.int x1, .int y1], rfl, rfl, SqT.of (gw2 _ _ upd_same), SqT.of upd_same, (by intro z; cases z), sz (by decide : 4 ≤ 100000), (fun z => by cases z), fun _ w3 nw3 => ?_⟩
        have gw3 := same_new nw3 (.tup [.int x2, .int y2, .int x1, .int y1])
        have sw := gw1.trans (gw2.trans gw3)
        refine ⟨_, rfl, w3, pt, x2, y2, x1, y1, sx, sy, rfl, ⟨upd_same, by omega, fun z => hst5.2.2 ⟨z.1.symm, z.2.symm⟩⟩, sw _ _ (s35 _ _ hpt), bpt, fun J6 sm6 => ?_⟩
        rw [goesL_rev]
        refine ⟨_, rfl, _, _, rfl, Alike.scal rfl, fun J7 sm7 => ⟨_, rfl, iteF ?_⟩⟩
        have sA := s35.trans (sw.trans (sm6.trans sm7))
        exact ⟨⟨_, _, _, _, rfl⟩, hB3'.same sA, sA _ _ hpb3, hst3.same sA⟩
    · rintro σ J0 ⟨⟨c2, c6, c7, c8, rfl⟩, hB0, _⟩
      exact ⟨⟨_, _, _, _, _, _, _, rfl⟩, hB0⟩
  · rintro σ H2 ⟨⟨c2, c3, c4, c5, c6, c7, c8, rfl⟩, hB⟩
    refine ⟨sz (by decide : 4 ≤ 100000), fun p1 n1 => ⟨sz (by decide : 2 ≤ 100000), fun p2 n2 => ?_⟩⟩
    refine ⟨p1, p2, 0, 0, 1, 1, 1, 0, rfl, ⟨same_new n2 _ _ _ upd_same, by decide, by decide⟩, upd_same, by decide, fun J1 s1 => ?_⟩
    refine ⟨_, _, rfl, rfl, _, rfl, if_pos' (by decide) ?_⟩
    refine ⟨sz (by decide : 4 ≤ 100000), fun p3 n3 => ⟨sz (by decide : 2 ≤ 100000), fun p4 n4 => ?_⟩⟩
    refine ⟨p3, p4, 1, 0, 0, 1, 1, 1, rfl, ⟨same_new n4 _ _ _ upd_same, by decide, by decide⟩, upd_same, by decide, fun J2 s2 => ?_⟩
    refine ⟨_, _, rfl, rfl, ?_⟩
    have e : decide (goesL 1 0 0 1 1 1 = true) = true := by decide
    rw [e]
    exact q _
end
end DM

namespace DM
open PySem L2
theorem all_mk {l : PySem.W.OpenLaw} {w : World} {K : PySem.W.Frag} {h : Heap} {mg : Str → Option Value} {fa f1 f2 f3 f4 f5 f6 f7 f8 f9 f10 f11 f12 f13 f14 f15 f16 f17 f18 f19 : Addr} (X : K.In h) (G : h.Ns mainGlobals mg) (hfa : mg "law" = some (.ref fa))
    {od1 an1 od2 an2 od3 an3 od4 an4 od5 an5 od6 an6 od7 an7 od8 an8 od9 an9 od10 an10 od11 an11 od12 an12 od13 an13 od14 an14 od15 an15 od16 an16 od17 an17 od18 an18 od19 an19 : Option Addr} {sl1 sl2 sl3 sl4 sl5 sl6 sl7 sl8 sl9 sl10 sl11 sl12 sl13 sl14 sl15 sl16 sl17 sl18 sl19 : Array (Option Value)} {oc1 kV1 dc1 pm1 cd1 ct1 oc2 kV2 dc2 pm2 cd2 ct2 oc3 kV3 dc3 pm3 cd3 ct3 oc4 kV4 dc4 pm4 cd4 ct4 oc5 kV5 dc5 pm5 cd5 ct5 oc6 kV6 dc6 pm6 cd6 ct6 oc7 kV7 dc7 pm7 cd7 ct7 oc8 kV8 dc8 pm8 cd8 ct8 oc9 kV9 dc9 pm9 cd9 ct9 oc10 kV10 dc10 pm10 cd10 ct10 oc11 kV11 dc11 pm11 cd11 ct11 oc12 kV12 dc12 pm12 cd12 ct12 oc13 kV13 dc13 pm13 cd13 ct13 oc14 kV14 dc14 pm14 cd14 ct14 oc15 kV15 dc15 pm15 cd15 ct15 oc16 kV16 dc16 pm16 cd16 ct16 oc17 kV17 dc17 pm17 cd17 ct17 oc18 kV18 dc18 pm18 cd18 ct18 oc19 kV19 dc19 pm19 cd19 ct19 : Value} 
    (a1 : PySem.W.nsIn K mainGlobals "goes" = some (some (.ref f1))) (l1 : K.lookup f1 = some ⟨oc1, od1, .func (PySem.W.fnOf "goes" "goes" (defArgs s_p_goes) (defBody s_p_goes) (defScope s_p_goes) .none kV1 dc1 pm1 an1 cd1 ct1), sl1⟩) (c1 : PySem.W.codeIn K cd1 "goes" = true) (k1 : PySem.W.keepIn K (.ref f1) = true)
    (a2 : PySem.W.nsIn K mainGlobals "passes" = some (some (.ref f2))) (l2 : K.lookup f2 = some ⟨oc2, od2, .func (PySem.W.fnOf "passes" "passes" (defArgs s_passes) (defBody s_passes) (defScope s_passes) .none kV2 dc2 pm2 an2 cd2 ct2), sl2⟩) (c2 : PySem.W.codeIn K cd2 "passes" = true) (k2 : PySem.W.keepIn K (.ref f2) = true)
    (a3 : PySem.W.nsIn K mainGlobals "moments" = some (some (.ref f3))) (l3 : K.lookup f3 = some ⟨oc3, od3, .func (PySem.W.fnOf "moments" "moments" (defArgs s_moments) (defBody s_moments) (defScope s_moments) .none kV3 dc3 pm3 an3 cd3 ct3), sl3⟩) (c3 : PySem.W.codeIn K cd3 "moments" = true) (k3 : PySem.W.keepIn K (.ref f3) = true)
    (a4 : PySem.W.nsIn K mainGlobals "_law_bag" = some (some (.ref f4))) (l4 : K.lookup f4 = some ⟨oc4, od4, .func (PySem.W.fnOf "_law_bag" "_law_bag" (defArgs s_bag) (defBody s_bag) (defScope s_bag) .none kV4 dc4 pm4 an4 cd4 ct4), sl4⟩) (c4 : PySem.W.codeIn K cd4 "_law_bag" = true) (k4 : PySem.W.keepIn K (.ref f4) = true)
    (a5 : PySem.W.nsIn K mainGlobals "_law_pull" = some (some (.ref f5))) (l5 : K.lookup f5 = some ⟨oc5, od5, .func (PySem.W.fnOf "_law_pull" "_law_pull" (defArgs s_pull) (defBody s_pull) (defScope s_pull) .none kV5 dc5 pm5 an5 cd5 ct5), sl5⟩) (c5 : PySem.W.codeIn K cd5 "_law_pull" = true) (k5 : PySem.W.keepIn K (.ref f5) = true)
    (a6 : PySem.W.nsIn K mainGlobals "_law_of" = some (some (.ref f6))) (l6 : K.lookup f6 = some ⟨oc6, od6, .func (PySem.W.fnOf "_law_of" "_law_of" (defArgs s_of) (defBody s_of) (defScope s_of) .none kV6 dc6 pm6 an6 cd6 ct6), sl6⟩) (c6 : PySem.W.codeIn K cd6 "_law_of" = true) (k6 : PySem.W.keepIn K (.ref f6) = true)
    (a7 : PySem.W.nsIn K mainGlobals "_law_like" = some (some (.ref f7))) (l7 : K.lookup f7 = some ⟨oc7, od7, .func (PySem.W.fnOf "_law_like" "_law_like" (defArgs s_like) (defBody s_like) (defScope s_like) .none kV7 dc7 pm7 an7 cd7 ct7), sl7⟩) (c7 : PySem.W.codeIn K cd7 "_law_like" = true) (k7 : PySem.W.keepIn K (.ref f7) = true)
    (a8 : PySem.W.nsIn K mainGlobals "_law_clipped" = some (some (.ref f8))) (l8 : K.lookup f8 = some ⟨oc8, od8, .func (PySem.W.fnOf "_law_clipped" "_law_clipped" (defArgs s_clipped) (defBody s_clipped) (defScope s_clipped) .none kV8 dc8 pm8 an8 cd8 ct8), sl8⟩) (c8 : PySem.W.codeIn K cd8 "_law_clipped" = true) (k8 : PySem.W.keepIn K (.ref f8) = true)
    (a9 : PySem.W.nsIn K mainGlobals "_law_spot" = some (some (.ref f9))) (l9 : K.lookup f9 = some ⟨oc9, od9, .func (PySem.W.fnOf "_law_spot" "_law_spot" (defArgs s_spot) (defBody s_spot) (defScope s_spot) .none kV9 dc9 pm9 an9 cd9 ct9), sl9⟩) (c9 : PySem.W.codeIn K cd9 "_law_spot" = true) (k9 : PySem.W.keepIn K (.ref f9) = true)
    (a10 : PySem.W.nsIn K mainGlobals "_law_base" = some (some (.ref f10))) (l10 : K.lookup f10 = some ⟨oc10, od10, .func (PySem.W.fnOf "_law_base" "_law_base" (defArgs s_base) (defBody s_base) (defScope s_base) .none kV10 dc10 pm10 an10 cd10 ct10), sl10⟩) (c10 : PySem.W.codeIn K cd10 "_law_base" = true) (k10 : PySem.W.keepIn K (.ref f10) = true)
    (a11 : PySem.W.nsIn K mainGlobals "_law_stroke" = some (some (.ref f11))) (l11 : K.lookup f11 = some ⟨oc11, od11, .func (PySem.W.fnOf "_law_stroke" "_law_stroke" (defArgs s_stroke) (defBody s_stroke) (defScope s_stroke) .none kV11 dc11 pm11 an11 cd11 ct11), sl11⟩) (c11 : PySem.W.codeIn K cd11 "_law_stroke" = true) (k11 : PySem.W.keepIn K (.ref f11) = true)
    (a12 : PySem.W.nsIn K mainGlobals "_law_clip" = some (some (.ref f12))) (l12 : K.lookup f12 = some ⟨oc12, od12, .func (PySem.W.fnOf "_law_clip" "_law_clip" (defArgs s_clip) (defBody s_clip) (defScope s_clip) .none kV12 dc12 pm12 an12 cd12 ct12), sl12⟩) (c12 : PySem.W.codeIn K cd12 "_law_clip" = true) (k12 : PySem.W.keepIn K (.ref f12) = true)
    (a13 : PySem.W.nsIn K mainGlobals "_law_later" = some (some (.ref f13))) (l13 : K.lookup f13 = some ⟨oc13, od13, .func (PySem.W.fnOf "_law_later" "_law_later" (defArgs s_later) (defBody s_later) (defScope s_later) .none kV13 dc13 pm13 an13 cd13 ct13), sl13⟩) (c13 : PySem.W.codeIn K cd13 "_law_later" = true) (k13 : PySem.W.keepIn K (.ref f13) = true)
    (a14 : PySem.W.nsIn K mainGlobals "_law_sooner" = some (some (.ref f14))) (l14 : K.lookup f14 = some ⟨oc14, od14, .func (PySem.W.fnOf "_law_sooner" "_law_sooner" (defArgs s_sooner) (defBody s_sooner) (defScope s_sooner) .none kV14 dc14 pm14 an14 cd14 ct14), sl14⟩) (c14 : PySem.W.codeIn K cd14 "_law_sooner" = true) (k14 : PySem.W.keepIn K (.ref f14) = true)
    (a15 : PySem.W.nsIn K mainGlobals "_law_inside" = some (some (.ref f15))) (l15 : K.lookup f15 = some ⟨oc15, od15, .func (PySem.W.fnOf "_law_inside" "_law_inside" (defArgs s_inside) (defBody s_inside) (defScope s_inside) .none kV15 dc15 pm15 an15 cd15 ct15), sl15⟩) (c15 : PySem.W.codeIn K cd15 "_law_inside" = true) (k15 : PySem.W.keepIn K (.ref f15) = true)
    (a16 : PySem.W.nsIn K mainGlobals "_law_goes" = some (some (.ref f16))) (l16 : K.lookup f16 = some ⟨oc16, od16, .func (PySem.W.fnOf "_law_goes" "_law_goes" (defArgs s_goes) (defBody s_goes) (defScope s_goes) .none kV16 dc16 pm16 an16 cd16 ct16), sl16⟩) (c16 : PySem.W.codeIn K cd16 "_law_goes" = true) (k16 : PySem.W.keepIn K (.ref f16) = true)
    (a17 : PySem.W.nsIn K mainGlobals "_law_near_spot" = some (some (.ref f17))) (l17 : K.lookup f17 = some ⟨oc17, od17, .func (PySem.W.fnOf "_law_near_spot" "_law_near_spot" (defArgs s_near_spot) (defBody s_near_spot) (defScope s_near_spot) .none kV17 dc17 pm17 an17 cd17 ct17), sl17⟩) (c17 : PySem.W.codeIn K cd17 "_law_near_spot" = true) (k17 : PySem.W.keepIn K (.ref f17) = true)
    (a18 : PySem.W.nsIn K mainGlobals "_law_slanted" = some (some (.ref f18))) (l18 : K.lookup f18 = some ⟨oc18, od18, .func (PySem.W.fnOf "_law_slanted" "_law_slanted" (defArgs s_slanted) (defBody s_slanted) (defScope s_slanted) .none kV18 dc18 pm18 an18 cd18 ct18), sl18⟩) (c18 : PySem.W.codeIn K cd18 "_law_slanted" = true) (k18 : PySem.W.keepIn K (.ref f18) = true)
    (a19 : PySem.W.nsIn K mainGlobals "law" = some (some (.ref f19))) (l19 : K.lookup f19 = some ⟨oc19, od19, .func (PySem.W.fnOf "law" "law" (defArgs s_law) (defBody s_law) (defScope s_law) .none kV19 dc19 pm19 an19 cd19 ct19), sl19⟩) (c19 : PySem.W.codeIn K cd19 "law" = true) (k19 : PySem.W.keepIn K (.ref f19) = true)
    (z_len : PySem.W.nsIn K mainGlobals "len" = some none)
    (z_isinstance : PySem.W.nsIn K mainGlobals "isinstance" = some none)
    (z_all : PySem.W.nsIn K mainGlobals "all" = some none)
    (z_list : PySem.W.nsIn K mainGlobals "list" = some none)
    (z_tuple : PySem.W.nsIn K mainGlobals "tuple" = some none)
    (z_dict : PySem.W.nsIn K mainGlobals "dict" = some none)
    (z_bool : PySem.W.nsIn K mainGlobals "bool" = some none)
    (z_range : PySem.W.nsIn K mainGlobals "range" = some none)
    (z_abs : PySem.W.nsIn K mainGlobals "abs" = some none)
    (z_any : PySem.W.nsIn K mainGlobals "any" = some none)
    (z_sorted : PySem.W.nsIn K mainGlobals "sorted" = some none)
    (z_int : PySem.W.nsIn K mainGlobals "int" = some none)
    (z_max : PySem.W.nsIn K mainGlobals "max" = some none)
    (z_min : PySem.W.nsIn K mainGlobals "min" = some none)
    (z_sum : PySem.W.nsIn K mainGlobals "sum" = some none)
    (z_zip : PySem.W.nsIn K mainGlobals "zip" = some none)
    (z_enumerate : PySem.W.nsIn K mainGlobals "enumerate" = some none)
    : ∃ fd : FuncData, (∀ (s : Shared) (v : Value), BindsTo s fd ⟨[v], []⟩ [("_law_script", v)]) ∧ ∀ base : Heap, K.In base → base.Ns mainGlobals mg → FnOk l.prog w K mg base CX0 5 fa fd ["_law_script"] (spLaw K) := by
  have e := hfa.symm.trans (PySem.W.mg_of X G a19)
  cases e
  have F_p_goes := fun_mk (st := s_p_goes) l1 c1 k1
  have b_p_goes := F_p_goes.binds (ps := ["stroke", "spot"]) fun _ _ _ _ _ _ us hl => match us, hl with | [_, _], _ => rfl
  have m_p_goes := PySem.W.mg_of X G a1
  have F_passes := fun_mk (st := s_passes) l2 c2 k2
  have b_passes := F_passes.binds (ps := ["stroke", "least", "greatest"]) fun _ _ _ _ _ _ us hl => match us, hl with | [_, _, _], _ => rfl
  have m_passes := PySem.W.mg_of X G a2
  have F_moments := fun_mk (st := s_moments) l3 c3 k3
  have b_moments := F_moments.binds (ps := ["start", "end", "unit", "least", "greatest"]) fun _ _ _ _ _ _ us hl => match us, hl with | [_, _, _, _, _], _ => rfl
  have m_moments := PySem.W.mg_of X G a3
  have F_bag := fun_mk (st := s_bag) l4 c4 k4
  have b_bag := F_bag.binds (ps := ["_law_script"]) fun _ _ _ _ _ _ us hl => match us, hl with | [_], _ => rfl
  have m_bag := PySem.W.mg_of X G a4
  have F_pull := fun_mk (st := s_pull) l5 c5 k5
  have b_pull := F_pull.binds (ps := ["_law_bag_here", "_law_amount"]) fun _ _ _ _ _ _ us hl => match us, hl with | [_, _], _ => rfl
  have m_pull := PySem.W.mg_of X G a5
  have F_of := fun_mk (st := s_of) l6 c6 k6
  have b_of := F_of.binds (ps := ["_law_bag_here", "_law_things"]) fun _ _ _ _ _ _ us hl => match us, hl with | [_, _], _ => rfl
  have m_of := PySem.W.mg_of X G a6
  have F_like := fun_mk (st := s_like) l7 c7 k7
  have b_like := F_like.binds (ps := ["_law_found", "_law_due"]) fun _ _ _ _ _ _ us hl => match us, hl with | [_, _], _ => rfl
  have m_like := PySem.W.mg_of X G a7
  have F_clipped := fun_mk (st := s_clipped) l8 c8 k8
  have b_clipped := F_clipped.binds (ps := ["_law_number"]) fun _ _ _ _ _ _ us hl => match us, hl with | [_], _ => rfl
  have m_clipped := PySem.W.mg_of X G a8
  have F_spot := fun_mk (st := s_spot) l9 c9 k9
  have b_spot := F_spot.binds (ps := ["_law_bag_here", "_law_base_here", "_law_wide"]) fun _ _ _ _ _ _ us hl => match us, hl with | [_, _, _], _ => rfl
  have m_spot := PySem.W.mg_of X G a9
  have F_base := fun_mk (st := s_base) l10 c10 k10
  have b_base := F_base.binds (ps := ["_law_bag_here"]) fun _ _ _ _ _ _ us hl => match us, hl with | [_], _ => rfl
  have m_base := PySem.W.mg_of X G a10
  have F_stroke := fun_mk (st := s_stroke) l11 c11 k11
  have b_stroke := F_stroke.binds (ps := ["_law_bag_here", "_law_base_here", "_law_wide"]) fun _ _ _ _ _ _ us hl => match us, hl with | [_, _, _], _ => rfl
  have m_stroke := PySem.W.mg_of X G a11
  have F_clip := fun_mk (st := s_clip) l12 c12 k12
  have b_clip := F_clip.binds (ps := ["_law_begin", "_law_step", "_law_low", "_law_high"]) fun _ _ _ _ _ _ us hl => match us, hl with | [_, _, _, _], _ => rfl
  have m_clip := PySem.W.mg_of X G a12
  have F_later := fun_mk (st := s_later) l13 c13 k13
  have b_later := F_later.binds (ps := ["_law_one", "_law_other"]) fun _ _ _ _ _ _ us hl => match us, hl with | [_, _], _ => rfl
  have m_later := PySem.W.mg_of X G a13
  have F_sooner := fun_mk (st := s_sooner) l14 c14 k14
  have b_sooner := F_sooner.binds (ps := ["_law_one", "_law_other"]) fun _ _ _ _ _ _ us hl => match us, hl with | [_, _], _ => rfl
  have m_sooner := PySem.W.mg_of X G a14
  have F_inside := fun_mk (st := s_inside) l15 c15 k15
  have b_inside := F_inside.binds (ps := ["_law_stroke_here", "_law_when", "_law_spot_here"]) fun _ _ _ _ _ _ us hl => match us, hl with | [_, _, _], _ => rfl
  have m_inside := PySem.W.mg_of X G a15
  have F_goes := fun_mk (st := s_goes) l16 c16 k16
  have b_goes := F_goes.binds (ps := ["_law_stroke_here", "_law_spot_here"]) fun _ _ _ _ _ _ us hl => match us, hl with | [_, _], _ => rfl
  have m_goes := PySem.W.mg_of X G a16
  have F_near_spot := fun_mk (st := s_near_spot) l17 c17 k17
  have b_near_spot := F_near_spot.binds (ps := ["_law_bag_here", "_law_stroke_here"]) fun _ _ _ _ _ _ us hl => match us, hl with | [_, _], _ => rfl
  have m_near_spot := PySem.W.mg_of X G a17
  have F_slanted := fun_mk (st := s_slanted) l18 c18 k18
  have b_slanted := F_slanted.binds (ps := ["_law_bag_here"]) fun _ _ _ _ _ _ us hl => match us, hl with | [_], _ => rfl
  have m_slanted := PySem.W.mg_of X G a18
  have F_law := fun_mk (st := s_law) l19 c19 k19
  have b_law := F_law.binds (ps := ["_law_script"]) fun _ _ _ _ _ _ us hl => match us, hl with | [_], _ => rfl
  have m_law := PySem.W.mg_of X G a19
  have B : Blt mg := ⟨PySem.W.mg_none_of X G z_len, PySem.W.mg_none_of X G z_isinstance, PySem.W.mg_none_of X G z_all, PySem.W.mg_none_of X G z_list, PySem.W.mg_none_of X G z_tuple, PySem.W.mg_none_of X G z_dict, PySem.W.mg_none_of X G z_bool, PySem.W.mg_none_of X G z_range, PySem.W.mg_none_of X G z_abs, PySem.W.mg_none_of X G z_any, PySem.W.mg_none_of X G z_sorted, PySem.W.mg_none_of X G z_int, PySem.W.mg_none_of X G z_max, PySem.W.mg_none_of X G z_min, PySem.W.mg_none_of X G z_sum, PySem.W.mg_none_of X G z_zip, PySem.W.mg_none_of X G z_enumerate⟩
  refine ⟨PySem.W.fnOf "law" "law" (defArgs s_law) (defBody s_law) (defScope s_law) .none kV19 dc19 pm19 an19 cd19 ct19, fun s v => .of_eq rfl, fun base _ _ => ?_⟩
  have C_like : Cal l.prog w K mg base 2 "_law_like" ["_law_found", "_law_due"] (spLike 1) := ⟨_, _, ok_like B F_like b_like m_like 1, b_like, F_like.kp, m_like⟩
  have C_bag : Cal l.prog w K mg base 1 "_law_bag" ["_law_script"] (spBag K) := ⟨_, _, ok_bag B F_bag, b_bag, F_bag.kp, m_bag⟩
  have C_pull : Cal l.prog w K mg base 1 "_law_pull" ["_law_bag_here", "_law_amount"] spPull := ⟨_, _, ok_pull B F_pull, b_pull, F_pull.kp, m_pull⟩
  have C_of : Cal l.prog w K mg base 2 "_law_of" ["_law_bag_here", "_law_things"] spOf := ⟨_, _, ok_of B C_pull F_of, b_of, F_of.kp, m_of⟩
  have C_clipped : Cal l.prog w K mg base 1 "_law_clipped" ["_law_number"] spClip := ⟨_, _, ok_clipped B F_clipped, b_clipped, F_clipped.kp, m_clipped⟩
  have C_spot : Cal l.prog w K mg base 2 "_law_spot" ["_law_bag_here", "_law_base_here", "_law_wide"] spSpot := ⟨_, _, ok_spot C_pull C_clipped F_spot, b_spot, F_spot.kp, m_spot⟩
  have C_base : Cal l.prog w K mg base 3 "_law_base" ["_law_bag_here"] spBase := ⟨_, _, ok_base C_pull C_of F_base, b_base, F_base.kp, m_base⟩
  have C_stroke : Cal l.prog w K mg base 3 "_law_stroke" ["_law_bag_here", "_law_base_here", "_law_wide"] spStroke := ⟨_, _, ok_stroke C_spot F_stroke, b_stroke, F_stroke.kp, m_stroke⟩
  have C_clip : Cal l.prog w K mg base 1 "_law_clip" ["_law_begin", "_law_step", "_law_low", "_law_high"] spClp := ⟨_, _, ok_clip F_clip, b_clip, F_clip.kp, m_clip⟩
  have C_later : Cal l.prog w K mg base 1 "_law_later" ["_law_one", "_law_other"] spLater := ⟨_, _, ok_later F_later, b_later, F_later.kp, m_later⟩
  have C_sooner : Cal l.prog w K mg base 1 "_law_sooner" ["_law_one", "_law_other"] spSooner := ⟨_, _, ok_sooner F_sooner, b_sooner, F_sooner.kp, m_sooner⟩
  have C_inside : Cal l.prog w K mg base 1 "_law_inside" ["_law_stroke_here", "_law_when", "_law_spot_here"] spInside := ⟨_, _, ok_inside F_inside, b_inside, F_inside.kp, m_inside⟩
  have C_goes : Cal l.prog w K mg base 2 "_law_goes" ["_law_stroke_here", "_law_spot_here"] spGoes := ⟨_, _, ok_goes B C_clip C_later C_sooner C_inside F_goes, b_goes, F_goes.kp, m_goes⟩
  have C_near_spot : Cal l.prog w K mg base 2 "_law_near_spot" ["_law_bag_here", "_law_stroke_here"] spNearSpot := ⟨_, _, ok_near_spot C_pull C_clipped F_near_spot, b_near_spot, F_near_spot.kp, m_near_spot⟩
  have C_slanted : Cal l.prog w K mg base 4 "_law_slanted" ["_law_bag_here"] spSlanted := ⟨_, _, ok_slanted C_pull C_clipped C_of C_base F_slanted, b_slanted, F_slanted.kp, m_slanted⟩
  have C_moments : Cal l.prog w K mg base 1 "moments" ["start", "end", "unit", "least", "greatest"] spMoments := ⟨_, _, ok_moments F_moments, b_moments, F_moments.kp, m_moments⟩
  have C_passes : Cal l.prog w K mg base 2 "passes" ["stroke", "least", "greatest"] spPasses := ⟨_, _, ok_passes B C_moments F_passes, b_passes, F_passes.kp, m_passes⟩
  have C_p_goes : Cal l.prog w K mg base 3 "goes" ["stroke", "spot"] spGoes := ⟨_, _, ok_p_goes C_passes F_p_goes, b_p_goes, F_p_goes.kp, m_p_goes⟩
  exact ok_law B C_bag C_of C_like C_spot C_base C_stroke C_slanted C_near_spot C_goes C_p_goes F_law
theorem walk {l : PySem.W.OpenLaw} {q : Program} {loose : List Str} {XP : (Str → Option Value) → Heap → Prop} {YP : World → Heap → Prop} {d : DefRec} {K : Params → PySem.W.Frag} (hn : l.most = some 63) (hdf : d.params.defaults = [])
    (hY : ∀ (w : World) (h : Heap), YP w h → (K w.params).In h)
    (F : ∀ (w : World) (mg : Str → Option Value) (fa : Addr) (h : Heap), (K w.params).In h → h.Ns mainGlobals mg → mg d.name = some (.ref fa) →
      ∃ fd : FuncData, (∀ (s : Shared) (u : Value), BindsTo s fd ⟨[u], []⟩ [("_law_script", u)]) ∧ ∀ base : Heap, (K w.params).In base → base.Ns mainGlobals mg → FnOk l.prog w (K w.params) mg base CX0 5 fa fd ["_law_script"] (spLaw (K w.params))) :
    PySem.W.WalkO q loose XP YP l.row.toRowW d [] (fun f vs => PySem.call f vs) :=
  L2.walk_of (n := 63) (k := 5) (x := "_law_script") (CX := fun _ => CX0) (sp := fun w => spLaw (K w.params)) hn (by decide) hdf ⟨rfl, by decide, by decide⟩ hY F (fun _ _ a ns hl _ hS => ⟨a, ns, rfl, hS, hl, fun _ => rfl⟩) fun _ _ _ _ _ z => z
end DM
open PySem PySem.W PyProof.Rows
set_option maxRecDepth 100000 in
set_option maxHeartbeats 0 in
theorem PySem.Challenge.cw_dotmoor_k06_squares_a_stroke_goes_throug_holds : PySem.Challenge.rw_dotmoor_k06_squares_a_stroke_goes_throug.Holds := by
  w_on; o_law; k_head; (case hw => w_witness2)
  k_fill
  refine DM.walk (l := PySem.Challenge.rw_dotmoor_k06_squares_a_stroke_goes_throug) rfl rfl (fun w h Y => PySem.W.kIn_of Y) ?F
  case F =>
    intro w mg fa h KX G hmg
    refine' DM.all_mk KX G hmg ?a1 ?l1 ?c1 ?k1 ?a2 ?l2 ?c2 ?k2 ?a3 ?l3 ?c3 ?k3 ?a4 ?l4 ?c4 ?k4 ?a5 ?l5 ?c5 ?k5 ?a6 ?l6 ?c6 ?k6 ?a7 ?l7 ?c7 ?k7 ?a8 ?l8 ?c8 ?k8 ?a9 ?l9 ?c9 ?k9 ?a10 ?l10 ?c10 ?k10 ?a11 ?l11 ?c11 ?k11 ?a12 ?l12 ?c12 ?k12 ?a13 ?l13 ?c13 ?k13 ?a14 ?l14 ?c14 ?k14 ?a15 ?l15 ?c15 ?k15 ?a16 ?l16 ?c16 ?k16 ?a17 ?l17 ?c17 ?k17 ?a18 ?l18 ?c18 ?k18 ?a19 ?l19 ?c19 ?k19 ?z_len ?z_isinstance ?z_all ?z_list ?z_tuple ?z_dict ?z_bool ?z_range ?z_abs ?z_any ?z_sorted ?z_int ?z_max ?z_min ?z_sum ?z_zip ?z_enumerate
    (case a1 => k_is)
    (case l1 => k_is)
    (case c1 => k_is)
    (case k1 => k_is)
    (case a2 => k_is)
    (case l2 => k_is)
    (case c2 => k_is)
    (case k2 => k_is)
    (case a3 => k_is)
    (case l3 => k_is)
    (case c3 => k_is)
    (case k3 => k_is)
    (case a4 => k_is)
    (case l4 => k_is)
    (case c4 => k_is)
    (case k4 => k_is)
    (case a5 => k_is)
    (case l5 => k_is)
    (case c5 => k_is)
    (case k5 => k_is)
    (case a6 => k_is)
    (case l6 => k_is)
    (case c6 => k_is)
    (case k6 => k_is)
    (case a7 => k_is)
    (case l7 => k_is)
    (case c7 => k_is)
    (case k7 => k_is)
    (case a8 => k_is)
    (case l8 => k_is)
    (case c8 => k_is)
    (case k8 => k_is)
    (case a9 => k_is)
    (case l9 => k_is)
    (case c9 => k_is)
    (case k9 => k_is)
    (case a10 => k_is)
    (case l10 => k_is)
    (case c10 => k_is)
    (case k10 => k_is)
    (case a11 => k_is)
    (case l11 => k_is)
    (case c11 => k_is)
    (case k11 => k_is)
    (case a12 => k_is)
    (case l12 => k_is)
    (case c12 => k_is)
    (case k12 => k_is)
    (case a13 => k_is)
    (case l13 => k_is)
    (case c13 => k_is)
    (case k13 => k_is)
    (case a14 => k_is)
    (case l14 => k_is)
    (case c14 => k_is)
    (case k14 => k_is)
    (case a15 => k_is)
    (case l15 => k_is)
    (case c15 => k_is)
    (case k15 => k_is)
    (case a16 => k_is)
    (case l16 => k_is)
    (case c16 => k_is)
    (case k16 => k_is)
    (case a17 => k_is)
    (case l17 => k_is)
    (case c17 => k_is)
    (case k17 => k_is)
    (case a18 => k_is)
    (case l18 => k_is)
    (case c18 => k_is)
    (case k18 => k_is)
    (case a19 => k_is)
    (case l19 => k_is)
    (case c19 => k_is)
    (case k19 => k_is)
    (case z_len => k_is)
    (case z_isinstance => k_is)
    (case z_all => k_is)
    (case z_list => k_is)
    (case z_tuple => k_is)
    (case z_dict => k_is)
    (case z_bool => k_is)
    (case z_range => k_is)
    (case z_abs => k_is)
    (case z_any => k_is)
    (case z_sorted => k_is)
    (case z_int => k_is)
    (case z_max => k_is)
    (case z_min => k_is)
    (case z_sum => k_is)
    (case z_zip => k_is)
    (case z_enumerate => k_is)

