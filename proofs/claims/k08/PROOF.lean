import PyProof.Rows.All
import Wide.All
import OpenK.AllK
import Wide.FinOn
import HandS.ForMost
import HandS.IsInst
import HandS.Wide
import HandS.Style
import HandS.Defaults
import KE.DatumOrd
import PySem.Challenge.RW_dotmoor_k08_where_two_strokes_meet
set_option Elab.async false
set_option linter.all false
set_option maxRecDepth 100000
set_option maxHeartbeats 4000000
namespace DM
open PySem L2
/-! ### built-ins by their names -/
theorem bt_len : bootBuiltins "len" = some (.builtin "len") := by decide +kernel
theorem bt_isinstance : bootBuiltins "isinstance" = some (.builtin "isinstance") := by decide +kernel
theorem bt_all : bootBuiltins "all" = some (.builtin "all") := by decide +kernel
theorem bt_any : bootBuiltins "any" = some (.builtin "any") := by decide +kernel
theorem bt_sorted : bootBuiltins "sorted" = some (.builtin "sorted") := by decide +kernel
theorem bt_abs : bootBuiltins "abs" = some (.builtin "abs") := by decide +kernel
theorem bt_max : bootBuiltins "max" = some (.builtin "max") := by decide +kernel
theorem bt_min : bootBuiltins "min" = some (.builtin "min") := by decide +kernel
theorem bt_sum : bootBuiltins "sum" = some (.builtin "sum") := by decide +kernel
theorem bt_list : bootBuiltins "list" = some (.type "list") := by decide +kernel
theorem bt_tuple : bootBuiltins "tuple" = some (.type "tuple") := by decide +kernel
theorem bt_dict : bootBuiltins "dict" = some (.type "dict") := by decide +kernel
theorem bt_bool : bootBuiltins "bool" = some (.type "bool") := by decide +kernel
theorem bt_int : bootBuiltins "int" = some (.type "int") := by decide +kernel
structure Blt (mg : Str → Option Value) : Prop where
  len : mg "len" = none
  isinstance : mg "isinstance" = none
  all : mg "all" = none
  list : mg "list" = none
  tuple : mg "tuple" = none
  dict : mg "dict" = none
  bool : mg "bool" = none
  range : mg "range" = none
  abs : mg "abs" = none
  any : mg "any" = none
  sorted : mg "sorted" = none
  int : mg "int" = none
  max : mg "max" = none
  min : mg "min" = none
  sum : mg "sum" = none
  zip : mg "zip" = none
  enumerate : mg "enumerate" = none
/-! ### a def that may be called by its name -/
def Cal (P : Program) (w : World) (K : PySem.W.Frag) (mg : Str → Option Value) (base : Heap) (k : Nat) (x : Str) (ps : List Str) (sp : Sp) : Prop :=
  ∃ (f : Addr) (fd : FuncData), FnOk P w K mg base CX0 k f fd ps sp ∧ Binds K fd ps [] ∧ PySem.W.keepIn K (.ref f) = true ∧ mg x = some (.ref f)
section
variable {X : Cx}
theorem pe_cal {k k' : Nat} {x : Str} {ps : List Str} {sp : Sp} {e : Expr} {es : List Expr} {t : TA} {p pos : Pos} (C : Cal X.prog X.w X.K X.mg X.base k x ps sp) (hr : Room k' X.A) (ha : PA X (e :: es) t)
    (hk : k ≤ k' := by decide) (hg : Gl X x := by rfl) (hdb : (x == ("__debug__" : Str)) = false := by decide) (he : starEach (e :: es) X.env = (false, eval e X.env) :: starEach es X.env := by rfl) (hpl : (backTo pos (starEach es X.env)).any (·.1) = false := by rfl) :
    PE X (.Call (.Name x p) (e :: es) [] pos) (tCall sp [] E0 t) := by
  obtain ⟨f, fd, F, b, kp, hm⟩ := C
  exact pe_call F (hr.mono hk) hg hm kp b .nil pass0 ha hdb he hpl
end
theorem nil_binds {K : PySem.W.Frag} {fd : FuncData} {ps : List Str} {ds : List Value} (v : Vals [] ds) (b : Binds K fd ps ds) : Binds K fd ps [] := by
  cases v
  exact b
/-! ### statements -/
theorem seq_with {t u : TS} {D : Ends} {σ : St} {H : Hp} (P : St → Hp → Prop) (h1 : ∀ R : St → Hp → Prop, (∀ σ' H', P σ' H' → R σ' H') → t { D with nx := R } σ H) (h2 : ∀ σ' H', P σ' H' → u D σ' H') : tSeq t u D σ H := h1 (u D) h2
theorem iteDF {c : Prop} [Decidable c] {A B : Prop} (hc : ¬ c) (h : B) : if decide c = true then A else B := by
  rw [decide_eq_false hc]
  exact iteF h
theorem iteDT {c : Prop} [Decidable c] {A B : Prop} (hc : c) (h : A) : if decide c = true then A else B := by
  rw [decide_eq_true hc]
  exact iteT h
theorem same_new {H : Hp} {p : Addr} (h : H p = none) (o : HO) : Same H (upd H p o) := fun b u q => by rw [upd_ne (ne_of_none q h)]; exact q
theorem new_at {H : Hp} {p : Addr} {o : HO} (_ : Same H (upd H p o)) : upd H p o p = some o := upd_same
theorem sz {n : Nat} (h : n ≤ 100000) : n ≤ sizeLine := Nat.le_trans h (by decide)
/-! ### the bag -/
/-- all but what stands at b is as it was -/
def But (b : Addr) (H H' : Hp) : Prop := ∀ a o, a ≠ b → H a = some o → H' a = some o
theorem But.refl {b : Addr} {H : Hp} : But b H H := fun _ _ _ h => h
theorem But.trans {b : Addr} {H H1 H2 : Hp} (x : But b H H1) (y : But b H1 H2) : But b H H2 := fun a o h e => y a o h (x a o h e)
theorem But.of {b : Addr} {H H1 : Hp} (x : Same H H1) : But b H H1 := fun a o _ e => x a o e
theorem But.upd {b : Addr} {H : Hp} {o : HO} : But b H (upd H b o) := fun a u h e => by rw [upd_ne h]; exact e
def BagAt (H : Hp) (b l : Addr) : Prop := ∃ (ns : List Int) (i g s : Int), H b = some (.lst [.ref l, .int i, .int g, .int s]) ∧ H l = some (.lst (ns.map V.int)) ∧ ns.length ≤ 63 ∧ 0 ≤ i ∧ 0 ≤ g ∧ 0 ≤ s ∧ s < 2147483647
theorem bag_ne {H : Hp} {b l : Addr} {ns : List Int} {i g s : Int} (h : H b = some (.lst [.ref l, .int i, .int g, .int s])) (h' : H l = some (.lst (ns.map V.int))) : l ≠ b := by
  refine ne_of h' h fun e => ?_
  have e1 := HO.lst.inj e
  cases ns with
  | nil => cases e1
  | cons a r => cases e1
theorem bag_upd {H : Hp} {b l : Addr} {ns : List Int} {i g s : Int} (hl : l ≠ b) (h' : H l = some (.lst (ns.map V.int))) (h63 : ns.length ≤ 63) (hi : 0 ≤ i) (hg : 0 ≤ g) (h0 : 0 ≤ s) (h1 : s < 2147483647) : BagAt (upd H b (.lst [.ref l, .int i, .int g, .int s])) b l :=
  ⟨ns, i, g, s, upd_same, by rw [upd_ne hl]; exact h', h63, hi, hg, h0, h1⟩
theorem BagAt.same {H H' : Hp} {b l : Addr} (h : BagAt H b l) (e : Same H H') : BagAt H' b l := by
  obtain ⟨ns, i, g, s, h1, h2, r⟩ := h
  exact ⟨ns, i, g, s, e _ _ h1, e _ _ h2, r⟩
theorem BagAt.hasB {H : Hp} {b l : Addr} (h : BagAt H b l) : ∃ xs, H b = some (.lst xs) := by
  obtain ⟨ns, i, g, s, h1, _⟩ := h
  exact ⟨_, h1⟩
theorem BagAt.hasL {H : Hp} {b l : Addr} (h : BagAt H b l) : ∃ xs, H l = some (.lst xs) := by
  obtain ⟨ns, i, g, s, h1, h2, _⟩ := h
  exact ⟨_, h2⟩
/-- a store elsewhere leaves the bag -/
theorem BagAt.put {H : Hp} {b l p : Addr} {o : HO} (h : BagAt H b l) (h1 : p ≠ b) (h2 : p ≠ l) : BagAt (upd H p o) b l := by
  obtain ⟨ns, i, g, s, e1, e2, r⟩ := h
  exact ⟨ns, i, g, s, by rw [upd_ne (Ne.symm h1)]; exact e1, by rw [upd_ne (Ne.symm h2)]; exact e2, r⟩
/-- what is new is not the bag's -/
theorem BagAt.new {H : Hp} {b l p : Addr} (h : BagAt H b l) (hp : H p = none) : p ≠ b ∧ p ≠ l := by
  obtain ⟨xs, e1⟩ := h.hasB
  obtain ⟨ys, e2⟩ := h.hasL
  exact ⟨Ne.symm (ne_of_none e1 hp), Ne.symm (ne_of_none e2 hp)⟩
theorem bag_tup {H : Hp} {b l p : Addr} {xs : List V} (hB : BagAt H b l) (h : H p = some (.tup xs)) : p ≠ b := by
  obtain ⟨ys, e⟩ := hB.hasB
  exact ne_of h e (by intro z; cases z)
/-- what the bag's makers and readers promise -/
def spBag (K : PySem.W.Frag) : Sp := fun vs H Q _ => ∃ (a : Addr) (ns : List Int), vs = [.ref a] ∧ SqL K H a (ns.map V.int) ∧ ns.length ≤ 63 ∧ ∀ (b l : Addr) (H' : Hp), Same H H' → H b = none → H l = none → BagAt H' b l → Q (.ref b) H'
def spPull : Sp := fun vs H Q _ => ∃ (b l : Addr) (m : Int), vs = [.ref b, .int m] ∧ BagAt H b l ∧ 0 < m ∧ m < 4611686018427387904 ∧ ∀ (r : Int) (H' : Hp), BagAt H' b l → But b H H' → 0 ≤ r → r < m → Q (.int r) H'
def spOf : Sp := fun vs H Q _ => ∃ (b l p : Addr) (xs : List V), vs = [.ref b, .ref p] ∧ BagAt H b l ∧ H p = some (.lst xs) ∧ p ≠ b ∧ 0 < xs.length ∧ xs.length ≤ 1000 ∧ ∀ (v : V) (H' : Hp), BagAt H' b l → But b H H' → v ∈ xs → Q v H'
def spLaw (K : PySem.W.Frag) : Sp := fun vs H Q _ => ∃ (a : Addr) (ns : List Int), vs = [.ref a] ∧ SqL K H a (ns.map V.int) ∧ ns.length ≤ 63 ∧ ∀ H', Q (.bl true) H'
end DM

namespace DM
open PySem L2
def top (i : Nat) : Stmt := PySem.Challenge.pw_dotmoor_k08_where_two_strokes_meet.main.body.getD i (.Pass ⟨0, 0, 0, 0⟩)
section
variable {P : Program} {w : World} {K : PySem.W.Frag} {mg : Str → Option Value} {base : Heap} {f : Addr} {fd : FuncData}
abbrev s_bag : Stmt := top 10
theorem sc_bag : FnScope ["_law_script", "_law_salt", "_law_cell"] ["_law_script"] (defScope s_bag) := ⟨rfl, rfl, rfl, by decide +kernel, rfl, by decide +kernel, by decide +kernel⟩
theorem cut_ints (ns : List Int) : ∃ ms : List Int, cutV (ns.map V.int) none (some 63) = ms.map V.int ∧ ms.length ≤ ns.length := by
  refine ⟨(ns.drop (HT.sIx ns.length 0 none)).take (HT.sIx ns.length ns.length (some 63) - HT.sIx ns.length 0 none), ?_, ?_⟩
  · unfold cutV
    rw [List.length_map, List.map_take, List.map_drop]
  · rw [List.length_take, List.length_drop]
    omega
theorem ok_bag (B : Blt mg) (F : Fun K "_law_bag" "_law_bag" s_bag f fd) : FnOk P w K mg base CX0 1 f fd ["_law_script"] (spBag K) := by
  refine F.ok sc_bag (fun vs H Q E h => ?_) (fun cdv A outer s H vs Q E hr h => ?_)
  · obtain ⟨a, ns, rfl, _⟩ := h
    rfl
  obtain ⟨a, ns, rfl, hS, h63, q⟩ := h
  refine ⟨_, (pss_cons (ps_set (i := 1) sc_bag.nd rfl (Or.inl rfl) pe_int)
    (pss_cons (ps_for PassesOwn.never rfl (pi_list (pe_slice sl_list (pv 0) po_none (po_some pe_int))) (pg_name (i := 2) sc_bag.nd rfl (Or.inl rfl))
    (pss_one (ps_set (i := 1) sc_bag.nd rfl (Or.inl rfl) (pe_op op_mod (pe_op op_add (pe_op op_add (pe_op op_mul (pv 1) pe_int) (pe_op op_mod (pv 2) pe_int)) pe_int) pe_int))))
    (pss_one (ps_ret (pe_lst (pa_cons (pe_callTy call_list_of rfl B.list bt_list (pa_cons (pe_slice sl_list (pv 0) po_none (po_some pe_int)) pa_nil)) (pa_cons pe_int (pa_cons pe_int (pa_cons (pv 1) pa_nil))))))))), ?_⟩
  obtain ⟨ms, em, lm⟩ := cut_ints ns
  refine ⟨_, rfl, _, rfl, a, _, rfl, hS, fun p hp => ?_⟩
  refine ⟨p, rfl, ⟨_, SqL.of upd_same⟩, ?_⟩
  have g1 : Same H (upd H p (.lst (cutV (ns.map V.int) none (some 63)))) := same_new hp _
  have hp1 : upd H p (.lst (cutV (ns.map V.int) none (some 63))) p = some (.lst (ms.map V.int)) := by rw [upd_same, em]
  refine for_list (K := K) (a := p) (xs := ms.map V.int) (fun _ σ H' => H' = upd H p (.lst (cutV (ns.map V.int) none (some 63))) ∧ ∃ (s : Int) (c : Option V), σ = [some (.ref a), some (.int s), c] ∧ 0 ≤ s ∧ s < 2147483647) ?_ ?_ ?_ ?_
  · exact ⟨rfl, 9117, none, rfl, by decide, by decide⟩
  · rintro i σ H' _ ⟨rfl, _⟩
    exact SqL.of hp1
  · rintro i x σ H' hx ⟨rfl, s, c, rfl, h0, h1⟩
    obtain ⟨n, rfl⟩ : ∃ n, x = V.int n := by
      rw [List.getElem?_map] at hx
      cases e : ms[i]? with
      | none => rw [e] at hx; cases hx
      | some n => rw [e] at hx; exact ⟨n, (Option.some.inj hx).symm⟩
    refine ⟨_, rfl, _, _, rfl, rfl, .inr ⟨by decide, by decide⟩, _, rfl, _, _, rfl, rfl, (by dsimp only; decide), _, _, rfl, rfl, _, _, rfl, rfl, _, _, rfl, rfl, (by dsimp only; decide), ?_⟩
    refine ⟨rfl, _, _, rfl, ?_, ?_⟩
    · exact Int.emod_nonneg _ (by decide)
    · exact Int.emod_lt_of_pos _ (by decide)
  · rintro σ H' ⟨rfl, s, c, rfl, h0, h1⟩
    refine ⟨_, rfl, _, rfl, a, _, rfl, g1.seq hS, fun p2 hp2 => ?_⟩
    refine ⟨p2, _, rfl, .inl (SqL.of upd_same), fun p3 hp3 => ?_⟩
    refine ⟨_, rfl, sz (by decide : 4 ≤ 100000), fun p4 hp4 => ?_⟩
    refine q p4 p3 _ (g1.trans ((same_new hp2 _).trans ((same_new hp3 _).trans (same_new hp4 _)))) ?_ (g1.free ((same_new hp2 _).free hp3)) ?_
    · exact g1.free ((same_new hp2 _).free ((same_new hp3 _).free hp4))
    · refine bag_upd (ns := ms) (Ne.symm (Ne.symm (ne_of_none (H := upd _ p3 _) upd_same hp4))) ?_ (by omega) (by decide) (by decide) h0 h1
      rw [upd_same, em]
abbrev s_pull : Stmt := top 11
theorem sc_pull : FnScope ["_law_bag_here", "_law_amount", "_law_cell", "_law_got", "_law_seed"] ["_law_bag_here", "_law_amount"] (defScope s_pull) := ⟨rfl, rfl, rfl, by decide +kernel, rfl, by decide +kernel, by decide +kernel⟩
theorem ok_pull (B : Blt mg) (F : Fun K "_law_pull" "_law_pull" s_pull f fd) : FnOk P w K mg base CX0 1 f fd ["_law_bag_here", "_law_amount"] spPull := by
  refine F.ok sc_pull (fun vs H Q E h => ?_) (fun cdv A outer s H vs Q E hr h => ?_)
  · obtain ⟨b, l, m, rfl, _⟩ := h
    rfl
  obtain ⟨b, l, m, rfl, hB, hm0, hm1, q⟩ := h
  refine ⟨_, (pss_cons (ps_if (PW.pt (pw_and (pt_cmpR op_eq (pe_ix ix_list (pv 0) pe_int (fun _ _ => rfl)) pe_int (nomark _)) (pw_and1 (pt_cmpR op_lt (pe_ix ix_list (pv 0) pe_int (fun _ _ => rfl)) (pe_callB call_len_seq rfl B.len bt_len (pa_cons (pe_ix ix_list (pv 0) pe_int (fun _ _ => rfl)) pa_nil)) (nomark _)))))
    (pss_cons (ps_set (i := 2) sc_pull.nd rfl (Or.inl rfl) (pe_ix ix_list (pe_ix ix_list (pv 0) pe_int (fun _ _ => rfl)) (pe_ix ix_list (pv 0) pe_int (fun _ _ => rfl)) (fun _ _ => rfl)))
    (pss_cons (ps_asg (pe_op op_add (pe_ix ix_list (pv 0) pe_int (fun _ _ => rfl)) pe_int) (pg_sub (pv 0) pe_int set_list))
    (pss_one (ps_if (pt_cmpR op_ge (pv 2) (pe_op op_pow pe_int pe_int) (nomark _))
    (pss_one (ps_asg (pv 2) (pg_sub (pv 0) pe_int set_list)))
    (pss_one (ps_asg (pe_op op_mod (pe_op op_add (pe_op op_add (pe_op op_mul (pe_ix ix_list (pv 0) pe_int (fun _ _ => rfl)) pe_int) (pe_op op_mul (pe_op op_mod (pv 2) pe_int) pe_int)) pe_int) pe_int) (pg_sub (pv 0) pe_int set_list)))))))
    pss_nil)
    (pss_cons (ps_if (pt_cmpR op_gt (pe_ix ix_list (pv 0) pe_int (fun _ _ => rfl)) pe_int (nomark _))
    (pss_cons (ps_set (i := 3) sc_pull.nd rfl (Or.inl rfl) (pe_op op_mod (pe_ix ix_list (pv 0) pe_int (fun _ _ => rfl)) (pv 1)))
    (pss_cons (ps_asg (pe_op op_fdivW (pe_ix ix_list (pv 0) pe_int (fun _ _ => rfl)) (pv 1)) (pg_sub (pv 0) pe_int set_list))
    (pss_one (ps_ret (pv 3)))))
    pss_nil)
    (pss_cons (ps_set (i := 4) sc_pull.nd rfl (Or.inl rfl) (pe_ix ix_list (pv 0) pe_int (fun _ _ => rfl)))
    (pss_cons (ps_asg (pe_op op_mod (pe_op op_add (pe_op op_add (pe_op op_mul (pv 4) pe_int) (pe_op op_mul (pe_op op_fdiv (pv 4) pe_int) pe_int)) pe_int) pe_int) (pg_sub (pv 0) pe_int set_list))
    (pss_one (ps_ret (pe_op op_mod (pe_op op_add (pe_op op_fdiv (pe_ix ix_list (pv 0) pe_int (fun _ _ => rfl)) pe_int) (pe_op op_mul (pe_op op_mod (pe_ix ix_list (pv 0) pe_int (fun _ _ => rfl)) pe_int) pe_int)) (pv 1)))))))), ?_⟩
  obtain ⟨ns, i, g, z, hb, hl, h63, hi, hg, hz0, hz1⟩ := hB
  have hlb := bag_ne hb hl
  refine seq_with (fun σ' H' => (∃ c, σ' = [some (.ref b), some (.int m), c, none, none]) ∧ BagAt H' b l ∧ But b H H') (fun R hR => ?_) ?_
  · refine ⟨_, rfl, b, _, _, _, rfl, rfl, SqL.of hb, rfl, rfl, _, rfl, ?_⟩
    refine ite2 (fun c => ?_) (fun c => ?_)
    · refine ⟨_, rfl, b, _, _, _, rfl, rfl, SqL.of hb, rfl, _, rfl, b, _, _, _, rfl, rfl, SqL.of hb, rfl, l, _, rfl, .inl (SqL.of hl), _, _, rfl, rfl, _, rfl, ?_⟩
      refine ite2 (fun c2 => ?_) (fun c2 => ?_)
      · have c3 : i < ((ns.map V.int).length : Int) := of_decide_eq_true c2
        rw [List.length_map] at c3
        have hit : i.toNat < ns.length := by omega
        have ei : i = ((i.toNat : Nat) : Int) := by omega
        have hat : atI (ns.map V.int) i = some (.int ns[i.toNat]) := by
          exact at_of ei (by rw [List.getElem?_map, List.getElem?_eq_getElem hit] <;> rfl)
        refine ⟨_, rfl, b, _, _, _, rfl, rfl, SqL.of hb, rfl, _, rfl, b, _, _, _, rfl, rfl, SqL.of hb, rfl, l, _, _, _, rfl, rfl, SqL.of hl, hat, ?_⟩
        refine ⟨_, rfl, b, _, _, _, rfl, rfl, SqL.of hb, rfl, _, _, rfl, rfl, _, rfl, b, _, _, _, rfl, rfl, hb, rfl, ?_⟩
        refine ⟨_, rfl, _, _, rfl, rfl, ⟨by decide, by decide, by decide⟩, _, _, rfl, rfl, _, rfl, ?_⟩
        refine ite2 (fun c4 => ?_) (fun c4 => ?_)
        · have c5 : ns[i.toNat] ≥ (10 : Int) ^ (18 : Int).toNat := of_decide_eq_true c4
          have c6 : (0 : Int) ≤ (10 : Int) ^ (18 : Int).toNat := by decide
          refine ⟨_, rfl, _, rfl, b, _, _, _, rfl, rfl, upd_same, rfl, hR _ _ ⟨⟨_, rfl⟩, ?_, ?_⟩⟩
          · rw [upd_upd]
            exact bag_upd (ns := ns) hlb hl h63 (by omega) (by omega) hz0 hz1
          · rw [upd_upd]
            exact But.upd
        · refine ⟨_, rfl, b, _, _, _, rfl, rfl, SqL.of upd_same, rfl, _, _, rfl, rfl, .inr ⟨by decide, by decide⟩, _, rfl, _, _, rfl, rfl, (by dsimp only; decide), _, _, rfl, rfl, .inr ⟨by decide, by decide⟩, _, _, rfl, rfl, _, _, rfl, rfl, _, _, rfl, rfl, (by dsimp only; decide), ?_⟩
          refine ⟨_, rfl, b, _, _, _, rfl, rfl, upd_same, rfl, hR _ _ ⟨⟨_, rfl⟩, ?_, ?_⟩⟩
          · rw [upd_upd]
            exact bag_upd (ns := ns) hlb hl h63 (by omega) hg (Int.emod_nonneg _ (by decide)) (Int.emod_lt_of_pos _ (by decide))
          · rw [upd_upd]
            exact But.upd
      · refine hR _ _ ⟨⟨_, rfl⟩, ⟨ns, i, g, z, hb, hl, h63, hi, hg, hz0, hz1⟩, But.refl⟩
    · refine iteF ?_
      exact hR _ _ ⟨⟨_, rfl⟩, ⟨ns, i, g, z, hb, hl, h63, hi, hg, hz0, hz1⟩, But.refl⟩
  · rintro σ' H' ⟨⟨c, rfl⟩, hB', hBut⟩
    obtain ⟨ns, i, g, z, hb, hl, h63, hi, hg, hz0, hz1⟩ := hB'
    have hlb := bag_ne hb hl
    refine ⟨_, rfl, b, _, _, _, rfl, rfl, SqL.of hb, rfl, _, _, rfl, rfl, _, rfl, ?_⟩
    refine ite2 (fun c => ?_) (fun c => ?_)
    · refine ⟨_, rfl, b, _, _, _, rfl, rfl, SqL.of hb, rfl, _, rfl, _, _, rfl, rfl, hm0, ?_⟩
      refine ⟨_, rfl, b, _, _, _, rfl, rfl, SqL.of hb, rfl, _, rfl, _, _, rfl, rfl, wide_div (b := 62) hm0 (by omega) (by decide) (by decide), ?_⟩
      refine ⟨_, rfl, b, _, _, _, rfl, rfl, hb, rfl, _, rfl, ?_⟩
      refine q _ _ ?_ (hBut.trans But.upd) (Int.emod_nonneg _ (by omega)) (Int.emod_lt_of_pos _ hm0)
      exact bag_upd (ns := ns) hlb hl h63 hi (Int.ediv_nonneg hg (by omega)) hz0 hz1
    · refine ⟨_, rfl, b, _, _, _, rfl, rfl, SqL.of hb, rfl, ?_⟩
      refine ⟨_, rfl, _, _, rfl, rfl, .inr ⟨by decide, by decide⟩, _, rfl, _, _, rfl, rfl, ⟨by decide, by decide⟩, _, _, rfl, rfl, .inr ⟨by decide, by decide⟩, _, _, rfl, rfl, _, _, rfl, rfl, _, _, rfl, rfl, (by dsimp only; decide), ?_⟩
      refine ⟨_, rfl, b, _, _, _, rfl, rfl, hb, rfl, ?_⟩
      refine ⟨_, rfl, b, _, _, _, rfl, rfl, SqL.of upd_same, rfl, _, _, rfl, rfl, ⟨by decide, by decide⟩, _, rfl, b, _, _, _, rfl, rfl, SqL.of upd_same, rfl, _, _, rfl, rfl, (by dsimp only; decide), _, _, rfl, rfl, .inr ⟨by decide, by decide⟩, _, _, rfl, rfl, _, rfl, _, _, rfl, rfl, hm0, ?_⟩
      refine q _ _ ?_ (hBut.trans But.upd) (Int.emod_nonneg _ (by omega)) (Int.emod_lt_of_pos _ hm0)
      exact bag_upd (ns := ns) hlb hl h63 hi hg (Int.emod_nonneg _ (by decide)) (Int.emod_lt_of_pos _ (by decide))
abbrev s_of : Stmt := top 12
theorem sc_of : FnScope ["_law_bag_here", "_law_things"] ["_law_bag_here", "_law_things"] (defScope s_of) := ⟨rfl, rfl, rfl, by decide +kernel, rfl, by decide +kernel, by decide +kernel⟩
theorem ok_of (B : Blt mg) (c_pull : Cal P w K mg base 1 "_law_pull" ["_law_bag_here", "_law_amount"] spPull) (F : Fun K "_law_of" "_law_of" s_of f fd) : FnOk P w K mg base CX0 2 f fd ["_law_bag_here", "_law_things"] spOf := by
  refine F.ok sc_of (fun vs H Q E h => ?_) (fun cdv A outer s H vs Q E hr h => ?_)
  · obtain ⟨b, l, p, xs, rfl, _⟩ := h
    rfl
  obtain ⟨b, l, p, xs, rfl, hB, hp, hpb, h0, h1, q⟩ := h
  refine ⟨_, (pss_one (ps_ret (pe_ix ix_list (pv 1) (pe_cal c_pull hr (pa_cons (pv 0) (pa_cons (pe_callB call_len_seq rfl B.len bt_len (pa_cons (pv 1) pa_nil)) pa_nil))) (fun _ _ => rfl)))), ?_⟩
  refine ⟨_, rfl, _, rfl, _, rfl, p, xs, rfl, .inl (SqL.of hp), b, _, _, rfl, hB, by omega, by omega, fun r H' hB' hbut r0 r1 => ?_⟩
  have hr' : r.toNat < xs.length := by omega
  have er : r = ((r.toNat : Nat) : Int) := by omega
  have hat : atI xs r = some xs[r.toNat] := by
    exact at_of er (List.getElem?_eq_getElem hr')
  exact ⟨p, xs, r, _, rfl, rfl, SqL.of (hbut _ _ hpb hp), hat, q _ _ hB' hbut (List.getElem_mem hr')⟩
end
end DM

namespace DM
open PySem L2
/-! ### what is like what -/
def scl : V → Bool
  | .non => true | .bl _ => true | .int _ => true | .str _ => true
  | _ => false
def Alike : Nat → Hp → V → V → Prop
  | 0, _, x, y => x = y ∧ scl x = true
  | n + 1, H, x, y => (x = y ∧ scl x = true) ∨
    (∃ p q xs ys, x = .ref p ∧ y = .ref q ∧ H p = some (.tup xs) ∧ H q = some (.tup ys) ∧ xs.length = ys.length ∧ xs.length ≤ 1000 ∧ ∀ (i : Nat) (x y : V), xs[i]? = some x → ys[i]? = some y → Alike n H x y) ∨
    (∃ p q xs ys, x = .ref p ∧ y = .ref q ∧ H p = some (.lst xs) ∧ H q = some (.lst ys) ∧ xs.length = ys.length ∧ xs.length ≤ 1000 ∧ ∀ (i : Nat) (x y : V), xs[i]? = some x → ys[i]? = some y → Alike n H x y)
theorem Alike.same : ∀ {n : Nat} {H H' : Hp} {x y : V}, Alike n H x y → Same H H' → Alike n H' x y
  | 0, _, _, _, _, h, _ => h
  | n + 1, _, _, _, _, h, e => by
    rcases h with h | ⟨p, q, xs, ys, a, b, c, d, l, m, r⟩ | ⟨p, q, xs, ys, a, b, c, d, l, m, r⟩
    · exact .inl h
    · exact .inr (.inl ⟨p, q, xs, ys, a, b, e _ _ c, e _ _ d, l, m, fun i x y hx hy => (r i x y hx hy).same e⟩)
    · exact .inr (.inr ⟨p, q, xs, ys, a, b, e _ _ c, e _ _ d, l, m, fun i x y hx hy => (r i x y hx hy).same e⟩)
theorem Alike.scal {n : Nat} {H : Hp} {x : V} (h : scl x = true) : Alike n H x x := by
  cases n with
  | zero => exact ⟨rfl, h⟩
  | succ n => exact .inl ⟨rfl, h⟩
theorem Alike.of_eq {n : Nat} {H : Hp} {x y : V} (e : x = y) (h : scl x = true) : Alike n H x y := by
  subst e
  exact Alike.scal h
theorem Alike.up : ∀ {n : Nat} {H : Hp} {x y : V}, Alike n H x y → Alike (n + 1) H x y
  | 0, _, _, _, h => .inl h
  | _ + 1, _, _, _, .inl h => .inl h
  | _ + 1, _, _, _, .inr (.inl ⟨p, q, xs, ys, a, b, c, d, e, f, g⟩) => .inr (.inl ⟨p, q, xs, ys, a, b, c, d, e, f, fun i x y hx hy => (g i x y hx hy).up⟩)
  | _ + 1, _, _, _, .inr (.inr ⟨p, q, xs, ys, a, b, c, d, e, f, g⟩) => .inr (.inr ⟨p, q, xs, ys, a, b, c, d, e, f, fun i x y hx hy => (g i x y hx hy).up⟩)
theorem alike_pair {n : Nat} {H : Hp} {u v : Int} : ∀ (i : Nat) (x y : V), ([.int u, .int v] : List V)[i]? = some x → ([.int u, .int v] : List V)[i]? = some y → Alike n H x y
  | 0, _, _, hx, hy => by cases hx; cases hy; exact Alike.scal rfl
  | 1, _, _, hx, hy => by cases hx; cases hy; exact Alike.scal rfl
def spLike (n : Nat) : Sp := fun vs H Q _ => ∃ x y, vs = [x, y] ∧ Alike n H x y ∧ ∀ H', Same H H' → Q (.bl true) H'
theorem if_pos' {c A B : Prop} [Decidable c] (h : c) (a : A) : if c then A else B := by
  rw [if_pos h]
  exact a
theorem lc_yes {σ : St} {H : Hp} {A B : Hp → Prop} (h : A H) : tYes σ H (fun b H3 => if b = true then A H3 else B H3) := by
  show (if true = true then A H else B H)
  rw [if_pos rfl]
  exact h
def tyn : V → String
  | .non => "NoneType" | .bl _ => "bool" | .int _ => "int" | .str _ => "str"
  | _ => ""
theorem tyn_x {K : PySem.W.Frag} {H : Hp} : ∀ {x : V}, scl x = true → TyX K H x (.type (tyn x))
  | .non, _ => .base .non
  | .bl b, _ => .base (.bl b)
  | .int i, _ => .base (.int i)
  | .str s, _ => .base (.str s)
theorem tyn_no {K : PySem.W.Frag} : ∀ {x : V}, scl x = true → PySem.W.kitOne K (.type (tyn x)) (.type "dict") = some false ∧ PySem.W.kitOne K (.type (tyn x)) (.type "tuple") = some false ∧ PySem.W.kitOne K (.type (tyn x)) (.type "list") = some false ∧ ∃ b, PySem.W.kitOne K (.type (tyn x)) (.type "bool") = some b
  | .non, _ => ⟨kit_ty (by decide +kernel : kitB "NoneType" "dict" = some false), kit_ty (by decide +kernel : kitB "NoneType" "tuple" = some false), kit_ty (by decide +kernel : kitB "NoneType" "list" = some false), _, kit_ty (by decide +kernel : kitB "NoneType" "bool" = some false)⟩
  | .bl _, _ => ⟨kit_ty (by decide +kernel : kitB "bool" "dict" = some false), kit_ty (by decide +kernel : kitB "bool" "tuple" = some false), kit_ty (by decide +kernel : kitB "bool" "list" = some false), _, kit_ty (by decide +kernel : kitB "bool" "bool" = some true)⟩
  | .int _, _ => ⟨kit_ty (by decide +kernel : kitB "int" "dict" = some false), kit_ty (by decide +kernel : kitB "int" "tuple" = some false), kit_ty (by decide +kernel : kitB "int" "list" = some false), _, kit_ty (by decide +kernel : kitB "int" "bool" = some false)⟩
  | .str _, _ => ⟨kit_ty (by decide +kernel : kitB "str" "dict" = some false), kit_ty (by decide +kernel : kitB "str" "tuple" = some false), kit_ty (by decide +kernel : kitB "str" "list" = some false), _, kit_ty (by decide +kernel : kitB "str" "bool" = some false)⟩
theorem scl_eq : ∀ {x : V}, scl x = true → L2.scal x x = true
  | .non, _ => rfl
  | .bl _, _ => rfl
  | .int _, _ => rfl
  | .str _, _ => rfl
section
variable {P : Program} {w : World} {K : PySem.W.Frag} {mg : Str → Option Value} {base : Heap} {f : Addr} {fd : FuncData}
abbrev s_like : Stmt := top 13
theorem sc_like : FnScope ["_law_found", "_law_due", "_law_k"] ["_law_found", "_law_due"] (defScope s_like) := ⟨rfl, rfl, rfl, by decide +kernel, rfl, by decide +kernel, by decide +kernel⟩
theorem like_leaf {k n : Nat} (B : Blt mg) (F : Fun K "_law_like" "_law_like" s_like f fd) (x : V) (hx : scl x = true) (cdv : Value) (A : Around) (outer : List Env) (s : Shared) (H : Hp) (Q : VK) (E : XK) (hr : Room k (A.deeper (PyProof.Rows.envOfC "_law_like" (defScope s_like) s.heap.objs.size f cdv))) (q : ∀ H', Same H H' → Q (.bl true) H') :
    ∃ t, PSs (cxOf CX0 P w K mg base ["_law_found", "_law_due", "_law_k"] "_law_like" (defScope s_like) f cdv A outer s H E).nox (defBody s_like) t ∧ t { nx := fun _ H' => Q .non H', rt := Q } (start ["_law_found", "_law_due", "_law_k"] [x, x]) H := by
  refine ⟨_, (pss_cons (ps_if (pt_val (pe_callB call_isi rfl B.isinstance bt_isinstance (pa_cons (pv 1) (pa_cons (pe_bltn (v := .ty "dict") rfl B.dict bt_dict rfl) pa_nil)))) pss_never pss_nil) (pss_cons (ps_if (PW.pt (pw_or (pt_cmpR op_ne (pe_callB call_isi rfl B.isinstance bt_isinstance (pa_cons (pv 1) (pa_cons (pe_bltn (v := .ty "tuple") rfl B.tuple bt_tuple rfl) pa_nil))) (pe_callB call_isi rfl B.isinstance bt_isinstance (pa_cons (pv 0) (pa_cons (pe_bltn (v := .ty "tuple") rfl B.tuple bt_tuple rfl) pa_nil))) (nomark _)) (pw_or1 (pt_cmpR op_ne (pe_callB call_isi rfl B.isinstance bt_isinstance (pa_cons (pv 1) (pa_cons (pe_bltn (v := .ty "list") rfl B.list bt_list rfl) pa_nil))) (pe_callB call_isi rfl B.isinstance bt_isinstance (pa_cons (pv 0) (pa_cons (pe_bltn (v := .ty "list") rfl B.list bt_list rfl) pa_nil))) (nomark _))))) pss_never pss_nil) (pss_cons (ps_if (pt_not (pt_val (pe_callB call_isiT rfl B.isinstance bt_isinstance (pa_cons (pv 1) (pa_cons (pe_tup (pa_cons (pe_bltn (v := .ty "tuple") rfl B.tuple bt_tuple rfl) (pa_cons (pe_bltn (v := .ty "list") rfl B.list bt_list rfl) pa_nil))) pa_nil))))) (pss_one (ps_ret (pe_and (pe_cmpR op_eq (pe_callB call_isi rfl B.isinstance bt_isinstance (pa_cons (pv 0) (pa_cons (pe_bltn (v := .ty "bool") rfl B.bool bt_bool rfl) pa_nil))) (pe_callB call_isi rfl B.isinstance bt_isinstance (pa_cons (pv 1) (pa_cons (pe_bltn (v := .ty "bool") rfl B.bool bt_bool rfl) pa_nil))) (nomark _)) (pe_one (pe_cmpR op_eq (pv 0) (pv 1) (nomark _)))))) pss_nil) pss_never))), ?_⟩
  have ty : ∀ H', TyX K H' x (.type (tyn x)) := fun H' => tyn_x hx
  obtain ⟨kd, kt, kl, b, kb⟩ := tyn_no (K := K) hx
  refine ⟨_, rfl, _, _, _, _, _, rfl, .ty _, ty _, kd, _, rfl, iteF ?_⟩
  refine ⟨_, rfl, _, _, _, _, _, rfl, .ty _, ty _, kt, _, rfl, _, _, _, _, _, rfl, .ty _, ty _, kt, rfl, _, rfl, iteF ?_⟩
  refine ⟨_, rfl, _, _, _, _, _, rfl, .ty _, ty _, kl, _, rfl, _, _, _, _, _, rfl, .ty _, ty _, kl, rfl, _, rfl, iteF ?_⟩
  refine ⟨_, rfl, sz (by decide : 2 ≤ 100000), fun p1 hp1 => ?_⟩
  refine ⟨_, p1, _, _, _, false, rfl, upd_same, .cons (.ty _) (.cons (.ty _) .nil), ty _, kitAny_cons kt (fun _ => kitAny_cons kl (fun _ => kitAny_nil) (fun z => nomatch z)) (fun z => nomatch z), _, rfl, iteT ?_⟩
  refine ⟨_, rfl, _, _, _, _, _, rfl, .ty _, ty _, kb, _, rfl, _, _, _, _, _, rfl, .ty _, ty _, kb, rfl, _, rfl, ?_⟩
  refine if_pos' (decide_eq_true rfl) ?_
  refine ⟨_, rfl, _, rfl, scl_eq hx, ?_⟩
  have e : decide (x = x) = true := decide_eq_true rfl
  rw [e]
  exact q _ (same_new hp1 _)
theorem ok_like0 (B : Blt mg) (F : Fun K "_law_like" "_law_like" s_like f fd) : FnOk P w K mg base CX0 1 f fd ["_law_found", "_law_due"] (spLike 0) := by
  refine F.ok sc_like (fun vs H Q E h => ?_) (fun cdv A outer s H vs Q E hr h => ?_)
  · obtain ⟨x, y, rfl, _⟩ := h
    rfl
  obtain ⟨x, y, rfl, ⟨rfl, hx⟩, q⟩ := h
  exact like_leaf (n := 0) B F x hx cdv A outer s H Q E hr q
theorem ok_likeS {n : Nat} (B : Blt mg) (F : Fun K "_law_like" "_law_like" s_like f fd) (c_like : Cal P w K mg base (n + 1) "_law_like" ["_law_found", "_law_due"] (spLike n)) : FnOk P w K mg base CX0 (n + 2) f fd ["_law_found", "_law_due"] (spLike (n + 1)) := by
  refine F.ok sc_like (fun vs H Q E h => ?_) (fun cdv A outer s H vs Q E hr h => ?_)
  · obtain ⟨x, y, rfl, _⟩ := h
    rfl
  obtain ⟨x, y, rfl, hA, q⟩ := h
  rcases hA with ⟨rfl, hx⟩ | ⟨p, q0, xs, ys, rfl, rfl, hp, hq, hlen, h1000, hall⟩ | ⟨p, q0, xs, ys, rfl, rfl, hp, hq, hlen, h1000, hall⟩
  · exact like_leaf (n := n) B F x hx cdv A outer s H Q E hr q
  ·
    refine ⟨_, (pss_cons (ps_if (pt_val (pe_callB call_isi rfl B.isinstance bt_isinstance (pa_cons (pv 1) (pa_cons (pe_bltn (v := .ty "dict") rfl B.dict bt_dict rfl) pa_nil)))) pss_never pss_nil) (pss_cons (ps_if (PW.pt (pw_or (pt_cmpR op_ne (pe_callB call_isi rfl B.isinstance bt_isinstance (pa_cons (pv 1) (pa_cons (pe_bltn (v := .ty "tuple") rfl B.tuple bt_tuple rfl) pa_nil))) (pe_callB call_isi rfl B.isinstance bt_isinstance (pa_cons (pv 0) (pa_cons (pe_bltn (v := .ty "tuple") rfl B.tuple bt_tuple rfl) pa_nil))) (nomark _)) (pw_or1 (pt_cmpR op_ne (pe_callB call_isi rfl B.isinstance bt_isinstance (pa_cons (pv 1) (pa_cons (pe_bltn (v := .ty "list") rfl B.list bt_list rfl) pa_nil))) (pe_callB call_isi rfl B.isinstance bt_isinstance (pa_cons (pv 0) (pa_cons (pe_bltn (v := .ty "list") rfl B.list bt_list rfl) pa_nil))) (nomark _))))) pss_never pss_nil) (pss_cons (ps_if (pt_not (pt_val (pe_callB call_isiT rfl B.isinstance bt_isinstance (pa_cons (pv 1) (pa_cons (pe_tup (pa_cons (pe_bltn (v := .ty "tuple") rfl B.tuple bt_tuple rfl) (pa_cons (pe_bltn (v := .ty "list") rfl B.list bt_list rfl) pa_nil))) pa_nil))))) pss_never pss_nil) (pss_one (ps_ret (pe_and (pe_cmpR op_eq (pe_callB call_len_seq rfl B.len bt_len (pa_cons (pv 0) pa_nil)) (pe_callB call_len_seq rfl B.len bt_len (pa_cons (pv 1) pa_nil)) (nomark _)) (pe_one (pe_callB (cr_all rfl) rfl B.all bt_all (pa_cons (pe_lc (own := [("_law_k", 2)]) (g := gName 2) (tt := tYes) rfl sc_like.nd (pi_range1 rfl B.range (pa_cons (pe_callB call_len_seq rfl B.len bt_len (pa_cons (pv 1) pa_nil)) pa_nil)) (blkOk_by (own := [("_law_k", 2)]) (N := ["_law_found", "_law_due", "_law_k"]) (sc := defScope s_like) (by decide +kernel)) (fun _ _ _ _ _ => pg_name (i := 2) sc_like.nd rfl (Or.inl rfl)) (fun _ _ _ _ _ => pts_nil) (fun _ _ _ _ _ => (pe_cal c_like hr (pa_cons (pe_ix (r := rIxT K) ix_tup (pv 0) (pv 2) (fun _ _ => rfl)) (pa_cons (pe_ix (r := rIxT K) ix_tup (pv 1) (pv 2) (fun _ _ => rfl)) pa_nil)) (Nat.le_refl _)))) pa_nil))))))))), ?_⟩
    refine ⟨_, rfl, _, _, _, _, _, rfl, .ty _, .base (TyOf.tup hq), kit_ty (by decide +kernel : kitB "tuple" "dict" = some false), _, rfl, iteF ?_⟩
    refine ⟨_, rfl, _, _, _, _, _, rfl, .ty _, .base (TyOf.tup hq), kit_ty (by decide +kernel : kitB "tuple" "tuple" = some true), _, rfl, _, _, _, _, _, rfl, .ty _, .base (TyOf.tup hp), kit_ty (by decide +kernel : kitB "tuple" "tuple" = some true), rfl, _, rfl, iteF ?_⟩
    refine ⟨_, rfl, _, _, _, _, _, rfl, .ty _, .base (TyOf.tup hq), kit_ty (by decide +kernel : kitB "tuple" "list" = some false), _, rfl, _, _, _, _, _, rfl, .ty _, .base (TyOf.tup hp), kit_ty (by decide +kernel : kitB "tuple" "list" = some false), rfl, _, rfl, iteF ?_⟩
    refine ⟨_, rfl, sz (by decide : 2 ≤ 100000), fun p1 hp1 => ?_⟩
    have g1 := same_new hp1 (.tup [.ty "tuple", .ty "list"])
    have hp' := g1 _ _ hp
    have hq' := g1 _ _ hq
    refine ⟨_, p1, _, _, _, true, rfl, upd_same, .cons (.ty _) (.cons (.ty _) .nil), .base (TyOf.tup hq'), kitAny_cons (kit_ty (by decide +kernel : kitB "tuple" "tuple" = some true)) (fun z => nomatch z) (fun _ => rfl), _, rfl, iteF ?_⟩
    refine ⟨_, rfl, p, xs, rfl, .inr (SqT.of hp'), _, rfl, q0, ys, rfl, .inr (SqT.of hq'), rfl, _, rfl, ?_⟩
    have el : V.int (xs.length : Int) = V.int (ys.length : Int) := by rw [hlen]
    refine if_pos' (decide_eq_true el) ?_
    refine ⟨_, rfl, q0, ys, rfl, .inr (SqT.of hq'), _, rfl, by omega, by omega, fun D hD => ?_⟩
    have en : ((ys.length : Int)).toNat = ys.length := by omega
    refine lc_range (lo := 0) (n := ((ys.length : Int)).toNat) (fun i H' => Same (upd H p1 (.tup [.ty "tuple", .ty "list"])) H' ∧ H' D = some (.lst ((List.replicate i true).map V.bl))) ?_ ?_ ?_
    · exact ⟨same_new hD _, upd_same⟩
    · rintro i H' hi ⟨sm, hd'⟩
      refine ⟨rfl, lc_yes ?_⟩
      have hi1 : i < xs.length := by omega
      have hi2 : i < ys.length := by omega
      refine ⟨_, rfl, _, rfl, p, xs, _, _, rfl, rfl, SqT.of (sm _ _ hp'), at_of (by omega) (List.getElem?_eq_getElem hi1), _, rfl, _, rfl, q0, ys, _, _, rfl, rfl, SqT.of (sm _ _ hq'), at_of (by omega) (List.getElem?_eq_getElem hi2), ?_⟩
      refine ⟨_, _, rfl, (hall i _ _ (List.getElem?_eq_getElem hi1) (List.getElem?_eq_getElem hi2)).same (g1.trans sm), fun H2 s2 => ?_⟩
      refine ⟨_, s2 _ _ hd', ?_, ?_, ?_⟩
      · rw [List.length_map, List.length_replicate]
        exact Nat.lt_of_lt_of_le (by omega : i < 100000) (sz (Nat.le_refl _))
      · exact fun a o e => by rw [upd_ne (ne_of_none e hD)]; exact s2 _ _ (sm _ _ e)
      · rw [upd_same, List.replicate_succ', List.map_append]
        rfl
    · rintro H' ⟨sm, hd'⟩
      refine ⟨D, _, rfl, SqL.of hd', ?_⟩
      have ea : (List.replicate ((ys.length : Int)).toNat true).all id = true := by simp
      rw [ea]
      exact q _ (g1.trans sm)
  ·
    refine ⟨_, (pss_cons (ps_if (pt_val (pe_callB call_isi rfl B.isinstance bt_isinstance (pa_cons (pv 1) (pa_cons (pe_bltn (v := .ty "dict") rfl B.dict bt_dict rfl) pa_nil)))) pss_never pss_nil) (pss_cons (ps_if (PW.pt (pw_or (pt_cmpR op_ne (pe_callB call_isi rfl B.isinstance bt_isinstance (pa_cons (pv 1) (pa_cons (pe_bltn (v := .ty "tuple") rfl B.tuple bt_tuple rfl) pa_nil))) (pe_callB call_isi rfl B.isinstance bt_isinstance (pa_cons (pv 0) (pa_cons (pe_bltn (v := .ty "tuple") rfl B.tuple bt_tuple rfl) pa_nil))) (nomark _)) (pw_or1 (pt_cmpR op_ne (pe_callB call_isi rfl B.isinstance bt_isinstance (pa_cons (pv 1) (pa_cons (pe_bltn (v := .ty "list") rfl B.list bt_list rfl) pa_nil))) (pe_callB call_isi rfl B.isinstance bt_isinstance (pa_cons (pv 0) (pa_cons (pe_bltn (v := .ty "list") rfl B.list bt_list rfl) pa_nil))) (nomark _))))) pss_never pss_nil) (pss_cons (ps_if (pt_not (pt_val (pe_callB call_isiT rfl B.isinstance bt_isinstance (pa_cons (pv 1) (pa_cons (pe_tup (pa_cons (pe_bltn (v := .ty "tuple") rfl B.tuple bt_tuple rfl) (pa_cons (pe_bltn (v := .ty "list") rfl B.list bt_list rfl) pa_nil))) pa_nil))))) pss_never pss_nil) (pss_one (ps_ret (pe_and (pe_cmpR op_eq (pe_callB call_len_seq rfl B.len bt_len (pa_cons (pv 0) pa_nil)) (pe_callB call_len_seq rfl B.len bt_len (pa_cons (pv 1) pa_nil)) (nomark _)) (pe_one (pe_callB (cr_all rfl) rfl B.all bt_all (pa_cons (pe_lc (own := [("_law_k", 2)]) (g := gName 2) (tt := tYes) rfl sc_like.nd (pi_range1 rfl B.range (pa_cons (pe_callB call_len_seq rfl B.len bt_len (pa_cons (pv 1) pa_nil)) pa_nil)) (blkOk_by (own := [("_law_k", 2)]) (N := ["_law_found", "_law_due", "_law_k"]) (sc := defScope s_like) (by decide +kernel)) (fun _ _ _ _ _ => pg_name (i := 2) sc_like.nd rfl (Or.inl rfl)) (fun _ _ _ _ _ => pts_nil) (fun _ _ _ _ _ => (pe_cal c_like hr (pa_cons (pe_ix (r := rIxL K) ix_list (pv 0) (pv 2) (fun _ _ => rfl)) (pa_cons (pe_ix (r := rIxL K) ix_list (pv 1) (pv 2) (fun _ _ => rfl)) pa_nil)) (Nat.le_refl _)))) pa_nil))))))))), ?_⟩
    refine ⟨_, rfl, _, _, _, _, _, rfl, .ty _, .base (TyOf.lst hq), kit_ty (by decide +kernel : kitB "list" "dict" = some false), _, rfl, iteF ?_⟩
    refine ⟨_, rfl, _, _, _, _, _, rfl, .ty _, .base (TyOf.lst hq), kit_ty (by decide +kernel : kitB "list" "tuple" = some false), _, rfl, _, _, _, _, _, rfl, .ty _, .base (TyOf.lst hp), kit_ty (by decide +kernel : kitB "list" "tuple" = some false), rfl, _, rfl, iteF ?_⟩
    refine ⟨_, rfl, _, _, _, _, _, rfl, .ty _, .base (TyOf.lst hq), kit_ty (by decide +kernel : kitB "list" "list" = some true), _, rfl, _, _, _, _, _, rfl, .ty _, .base (TyOf.lst hp), kit_ty (by decide +kernel : kitB "list" "list" = some true), rfl, _, rfl, iteF ?_⟩
    refine ⟨_, rfl, sz (by decide : 2 ≤ 100000), fun p1 hp1 => ?_⟩
    have g1 := same_new hp1 (.tup [.ty "tuple", .ty "list"])
    have hp' := g1 _ _ hp
    have hq' := g1 _ _ hq
    refine ⟨_, p1, _, _, _, true, rfl, upd_same, .cons (.ty _) (.cons (.ty _) .nil), .base (TyOf.lst hq'), kitAny_cons (kit_ty (by decide +kernel : kitB "list" "tuple" = some false)) (fun _ => kitAny_cons (kit_ty (by decide +kernel : kitB "list" "list" = some true)) (fun z => nomatch z) (fun _ => rfl)) (fun z => nomatch z), _, rfl, iteF ?_⟩
    refine ⟨_, rfl, p, xs, rfl, .inl (SqL.of hp'), _, rfl, q0, ys, rfl, .inl (SqL.of hq'), rfl, _, rfl, ?_⟩
    have el : V.int (xs.length : Int) = V.int (ys.length : Int) := by rw [hlen]
    refine if_pos' (decide_eq_true el) ?_
    refine ⟨_, rfl, q0, ys, rfl, .inl (SqL.of hq'), _, rfl, by omega, by omega, fun D hD => ?_⟩
    have en : ((ys.length : Int)).toNat = ys.length := by omega
    refine lc_range (lo := 0) (n := ((ys.length : Int)).toNat) (fun i H' => Same (upd H p1 (.tup [.ty "tuple", .ty "list"])) H' ∧ H' D = some (.lst ((List.replicate i true).map V.bl))) ?_ ?_ ?_
    · exact ⟨same_new hD _, upd_same⟩
    · rintro i H' hi ⟨sm, hd'⟩
      refine ⟨rfl, lc_yes ?_⟩
      have hi1 : i < xs.length := by omega
      have hi2 : i < ys.length := by omega
      refine ⟨_, rfl, _, rfl, p, xs, _, _, rfl, rfl, SqL.of (sm _ _ hp'), at_of (by omega) (List.getElem?_eq_getElem hi1), _, rfl, _, rfl, q0, ys, _, _, rfl, rfl, SqL.of (sm _ _ hq'), at_of (by omega) (List.getElem?_eq_getElem hi2), ?_⟩
      refine ⟨_, _, rfl, (hall i _ _ (List.getElem?_eq_getElem hi1) (List.getElem?_eq_getElem hi2)).same (g1.trans sm), fun H2 s2 => ?_⟩
      refine ⟨_, s2 _ _ hd', ?_, ?_, ?_⟩
      · rw [List.length_map, List.length_replicate]
        exact Nat.lt_of_lt_of_le (by omega : i < 100000) (sz (Nat.le_refl _))
      · exact fun a o e => by rw [upd_ne (ne_of_none e hD)]; exact s2 _ _ (sm _ _ e)
      · rw [upd_same, List.replicate_succ', List.map_append]
        rfl
    · rintro H' ⟨sm, hd'⟩
      refine ⟨D, _, rfl, SqL.of hd', ?_⟩
      have ea : (List.replicate ((ys.length : Int)).toNat true).all id = true := by simp
      rw [ea]
      exact q _ (g1.trans sm)

theorem ok_like (B : Blt mg) (F : Fun K "_law_like" "_law_like" s_like f fd) (b : Binds K fd ["_law_found", "_law_due"] []) (m : mg "_law_like" = some (.ref f)) : ∀ n : Nat, FnOk P w K mg base CX0 (n + 1) f fd ["_law_found", "_law_due"] (spLike n)
  | 0 => ok_like0 B F
  | n + 1 => ok_likeS B F ⟨f, fd, ok_like B F b m n, b, F.kp, m⟩
end
end DM

namespace DM
open PySem L2
/-- a pair of numbers from -40 to 40 -/
def Pt (H : Hp) (p : Addr) (x y : Int) : Prop := H p = some (.tup [.int x, .int y]) ∧ -40 ≤ x ∧ x ≤ 40 ∧ -40 ≤ y ∧ y ≤ 40
theorem Pt.same {H H' : Hp} {p : Addr} {x y : Int} (h : Pt H p x y) (e : Same H H') : Pt H' p x y := ⟨e _ _ h.1, h.2⟩
theorem Pt.but {H H' : Hp} {b l p : Addr} {x y : Int} (h : Pt H p x y) (hB : BagAt H b l) (e : But b H H') : Pt H' p x y := ⟨e _ _ (bag_tup hB h.1) h.1, h.2⟩
def spClip : Sp := fun vs H Q _ => ∃ n : Int, vs = [.int n] ∧ ∀ r : Int, -40 ≤ r → r ≤ 40 → Q (.int r) H
def spSpot : Sp := fun vs H Q _ => ∃ (b l pb : Addr) (x y m : Int), vs = [.ref b, .ref pb, .int m] ∧ BagAt H b l ∧ H pb = some (.tup [.int x, .int y]) ∧ 0 < m ∧ m ≤ 1000 ∧ ∀ (p : Addr) (H' : Hp) (x' y' : Int), BagAt H' b l → But b H H' → Pt H' p x' y' → Q (.ref p) H'
def spBase : Sp := fun vs H Q _ => ∃ (b l : Addr), vs = [.ref b] ∧ BagAt H b l ∧ ∀ (p : Addr) (H' : Hp) (x y : Int), BagAt H' b l → But b H H' → H' p = some (.tup [.int x, .int y]) → Q (.ref p) H'
section
variable {P : Program} {w : World} {K : PySem.W.Frag} {mg : Str → Option Value} {base : Heap} {f : Addr} {fd : FuncData}
abbrev s_clipped : Stmt := top 16
theorem sc_clipped : FnScope ["_law_number"] ["_law_number"] (defScope s_clipped) := ⟨rfl, rfl, rfl, by decide +kernel, rfl, by decide +kernel, by decide +kernel⟩
theorem ok_clipped (B : Blt mg) (F : Fun K "_law_clipped" "_law_clipped" s_clipped f fd) : FnOk P w K mg base CX0 1 f fd ["_law_number"] spClip := by
  refine F.ok sc_clipped (fun vs H Q E h => ?_) (fun cdv A outer s H vs Q E hr h => ?_)
  · obtain ⟨n, rfl, _⟩ := h
    rfl
  obtain ⟨n, rfl, q⟩ := h
  refine ⟨_, (pss_one (ps_ret (pe_callB (call_max2 rfl) rfl B.max bt_max (pa_cons (pe_un un_neg pe_int) (pa_cons (pe_callB (call_min2 rfl) rfl B.min bt_min (pa_cons pe_int (pa_cons (pv 0) pa_nil))) pa_nil))))), ?_⟩
  refine ⟨_, rfl, _, rfl, _, _, rfl, _, _, rfl, ?_⟩
  refine q _ ?_ ?_ <;> split <;> split <;> omega
abbrev s_spot : Stmt := top 17
theorem sc_spot : FnScope ["_law_bag_here", "_law_base_here", "_law_wide", "_law_x"] ["_law_bag_here", "_law_base_here", "_law_wide"] (defScope s_spot) := ⟨rfl, rfl, rfl, by decide +kernel, rfl, by decide +kernel, by decide +kernel⟩
theorem ok_spot (c_pull : Cal P w K mg base 1 "_law_pull" ["_law_bag_here", "_law_amount"] spPull) (c_clipped : Cal P w K mg base 1 "_law_clipped" ["_law_number"] spClip) (F : Fun K "_law_spot" "_law_spot" s_spot f fd) : FnOk P w K mg base CX0 2 f fd ["_law_bag_here", "_law_base_here", "_law_wide"] spSpot := by
  refine F.ok sc_spot (fun vs H Q E h => ?_) (fun cdv A outer s H vs Q E hr h => ?_)
  · obtain ⟨b, l, pb, x, y, m, rfl, _⟩ := h
    rfl
  obtain ⟨b, l, pb, x, y, m, rfl, hB, hp, m0, m1, q⟩ := h
  refine ⟨_, (pss_cons (ps_set (i := 3) sc_spot.nd rfl (Or.inl rfl) (pe_cal c_clipped hr (pa_cons (pe_op op_sub (pe_op op_add (pe_ix ix_tup (pv 1) pe_int (fun _ _ => rfl)) (pe_cal c_pull hr (pa_cons (pv 0) (pa_cons (pe_op op_add (pe_op op_mul pe_int (pv 2)) pe_int) pa_nil)))) (pv 2)) pa_nil)))
    (pss_one (ps_ret (pe_tup (pa_cons (pv 3) (pa_cons (pe_cal c_clipped hr (pa_cons (pe_op op_sub (pe_op op_add (pe_ix ix_tup (pv 1) pe_int (fun _ _ => rfl)) (pe_cal c_pull hr (pa_cons (pv 0) (pa_cons (pe_op op_add (pe_op op_mul pe_int (pv 2)) pe_int) pa_nil)))) (pv 2)) pa_nil)) pa_nil)))))), ?_⟩
  refine ⟨_, rfl, pb, _, _, _, rfl, rfl, SqT.of hp, rfl, _, rfl, _, rfl, _, _, rfl, rfl, .inl ⟨by decide, by decide⟩, _, _, rfl, rfl, b, _, _, rfl, hB, by omega, by omega, fun r1 H1 hB1 bt1 r10 r11 => ?_⟩
  refine ⟨_, _, rfl, rfl, _, rfl, _, _, rfl, rfl, _, rfl, fun x' hx1 hx2 => ?_⟩
  have hp1 := bt1 _ _ (bag_tup hB hp) hp
  refine ⟨_, rfl, _, rfl, pb, _, _, _, rfl, rfl, SqT.of hp1, rfl, _, rfl, _, rfl, _, _, rfl, rfl, .inl ⟨by decide, by decide⟩, _, _, rfl, rfl, b, _, _, rfl, hB1, by omega, by omega, fun r2 H2 hB2 bt2 r20 r21 => ?_⟩
  refine ⟨_, _, rfl, rfl, _, rfl, _, _, rfl, rfl, _, rfl, fun y' hy1 hy2 => ?_⟩
  refine ⟨sz (by decide : 2 ≤ 100000), fun p hpn => ?_⟩
  exact q p _ x' y' (hB2.same (same_new hpn _)) ((bt1.trans bt2).trans (But.of (same_new hpn _))) ⟨upd_same, hx1, hx2, hy1, hy2⟩
abbrev s_base : Stmt := top 18
theorem sc_base : FnScope ["_law_bag_here", "_law_far"] ["_law_bag_here"] (defScope s_base) := ⟨rfl, rfl, rfl, by decide +kernel, rfl, by decide +kernel, by decide +kernel⟩
theorem ok_base (c_pull : Cal P w K mg base 1 "_law_pull" ["_law_bag_here", "_law_amount"] spPull) (c_of : Cal P w K mg base 2 "_law_of" ["_law_bag_here", "_law_things"] spOf) (F : Fun K "_law_base" "_law_base" s_base f fd) : FnOk P w K mg base CX0 3 f fd ["_law_bag_here"] spBase := by
  refine F.ok sc_base (fun vs H Q E h => ?_) (fun cdv A outer s H vs Q E hr h => ?_)
  · obtain ⟨b, l, rfl, _⟩ := h
    rfl
  obtain ⟨b, l, rfl, hB, q⟩ := h
  refine ⟨_, (pss_cons (ps_set (i := 1) sc_base.nd rfl (Or.inl rfl) (pe_tup (pa_cons (pe_op op_sub (pe_cal c_pull hr (pa_cons (pv 0) (pa_cons pe_int pa_nil))) pe_int) (pa_cons (pe_op op_sub (pe_cal c_pull hr (pa_cons (pv 0) (pa_cons pe_int pa_nil))) pe_int) pa_nil))))
    (pss_one (ps_ret (pe_cal c_of hr (pa_cons (pv 0) (pa_cons (pe_lst (pa_cons (pe_tup (pa_cons pe_int (pa_cons pe_int pa_nil))) (pa_cons (pe_tup (pa_cons pe_int (pa_cons pe_int pa_nil))) (pa_cons (pe_tup (pa_cons pe_int (pa_cons pe_int pa_nil))) (pa_cons (pe_tup (pa_cons (pe_un un_neg pe_int) (pa_cons (pe_un un_neg pe_int) pa_nil))) (pa_cons (pe_tup (pa_cons pe_int (pa_cons pe_int pa_nil))) (pa_cons (pe_tup (pa_cons pe_int (pa_cons (pe_un un_neg pe_int) pa_nil))) (pa_cons (pv 1) pa_nil)))))))) pa_nil)))))), ?_⟩
  refine ⟨_, rfl, b, _, _, rfl, hB, by decide, by decide, fun r1 H1 hB1 bt1 r10 r11 => ?_⟩
  refine ⟨_, _, rfl, rfl, _, rfl, b, _, _, rfl, hB1, by decide, by decide, fun r2 H2 hB2 bt2 r20 r21 => ?_⟩
  refine ⟨_, _, rfl, rfl, sz (by decide : 2 ≤ 100000), fun p0 n0 => ?_⟩
  refine ⟨_, rfl, sz (by decide : 2 ≤ 100000), fun p1 n1 => ⟨sz (by decide : 2 ≤ 100000), fun p2 n2 => ⟨sz (by decide : 2 ≤ 100000), fun p3 n3 => ?_⟩⟩⟩
  refine ⟨_, rfl, _, rfl, sz (by decide : 2 ≤ 100000), fun p4 n4 => ⟨sz (by decide : 2 ≤ 100000), fun p5 n5 => ?_⟩⟩
  refine ⟨_, rfl, sz (by decide : 2 ≤ 100000), fun p6 n6 => ?_⟩
  refine ⟨_, rfl, sz (by decide : 7 ≤ 100000), fun p7 n7 => ?_⟩
  have g0 := same_new n0 (.tup [.int (r1 - 40), .int (r2 - 40)])
  have g1 := same_new n1 (.tup [.int 0, .int 0])
  have g2 := same_new n2 (.tup [.int 0, .int 0])
  have g3 := same_new n3 (.tup [.int 0, .int 0])
  have g4 := same_new n4 (.tup [.int (-38), .int (-38)])
  have g5 := same_new n5 (.tup [.int 38, .int 38])
  have g6 := same_new n6 (.tup [.int 37, .int (-39)])
  have g7 := same_new n7 (.lst [.ref p1, .ref p2, .ref p3, .ref p4, .ref p5, .ref p6, .ref p0])
  have gA := g0.trans (g1.trans (g2.trans (g3.trans (g4.trans (g5.trans (g6.trans g7))))))
  have hB3 := hB2.same gA
  have e0 := (g1.trans (g2.trans (g3.trans (g4.trans (g5.trans (g6.trans g7)))))) _ _ upd_same
  have e1 := (g2.trans (g3.trans (g4.trans (g5.trans (g6.trans g7))))) _ _ upd_same
  have e2 := (g3.trans (g4.trans (g5.trans (g6.trans g7)))) _ _ upd_same
  have e3 := (g4.trans (g5.trans (g6.trans g7))) _ _ upd_same
  have e4 := (g5.trans (g6.trans g7)) _ _ upd_same
  have e5 := (g6.trans g7) _ _ upd_same
  have e6 := g7 _ _ upd_same
  obtain ⟨ys, eb⟩ := (hB2.same (g0.trans (g1.trans (g2.trans (g3.trans (g4.trans (g5.trans g6))))))).hasB
  refine ⟨b, _, p7, _, rfl, hB3, upd_same, Ne.symm (ne_of_none eb n7), by show 0 < 7; decide, by show 7 ≤ 1000; decide, fun v H' hB' bt' hv => ?_⟩
  have btA := (bt1.trans bt2).trans ((But.of gA).trans bt')
  have fin : ∀ (p : Addr) (x y : Int), upd _ p7 _ p = some (.tup [.int x, .int y]) → Q (.ref p) H' := fun p x y e => q p H' x y hB' btA (bt' _ _ (bag_tup hB3 e) e)
  simp only [List.mem_cons, List.not_mem_nil, or_false] at hv
  rcases hv with rfl | rfl | rfl | rfl | rfl | rfl | rfl
  · exact fin _ _ _ e1
  · exact fin _ _ _ e2
  · exact fin _ _ _ e3
  · exact fin _ _ _ e4
  · exact fin _ _ _ e5
  · exact fin _ _ _ e6
  · exact fin _ _ _ e0
end
end DM

namespace DM
open PySem L2
/-- a pair of numbers as data -/
theorem dp_pair {K : PySem.W.Frag} {H : Hp} {p : Addr} {x y : Int} (h : H p = some (.tup [.int x, .int y])) : Dp K H (.ref p) (.tuple [.int x, .int y]) := .tup (SqT.of h) (.cons (.int x) (.cons (.int y) .nil))
theorem dp_four {K : PySem.W.Frag} {H : Hp} {p : Addr} {x y z w : Int} (h : H p = some (.tup [.int x, .int y, .int z, .int w])) : Dp K H (.ref p) (.tuple [.int x, .int y, .int z, .int w]) := .tup (SqT.of h) (.cons (.int x) (.cons (.int y) (.cons (.int z) (.cons (.int w) .nil))))
theorem eqv_pair (a b c d : Int) : PyData.eqv (.tuple [.int a, .int b]) (.tuple [.int c, .int d]) = decide (a = c ∧ b = d) := by
  simp only [PyData.eqv, PyData.eqvAll, Bool.and_true, Bool.decide_and]
  rfl
theorem shaped_pair (a b : Int) : SeqAt.shaped (.tuple [.int a, .int b]) = true := by
  first | rfl | simp [SeqAt.shaped, PyData.canLay0, PyData.depth]
end DM

namespace DM
open PySem L2
/-! ### a stroke as a tuple -/
def Stk (H : Hp) (p : Addr) (x1 y1 x2 y2 : Int) : Prop := H p = some (.tup [.int x1, .int y1, .int x2, .int y2]) ∧ (-40 ≤ x1 ∧ x1 ≤ 40 ∧ -40 ≤ y1 ∧ y1 ≤ 40 ∧ -40 ≤ x2 ∧ x2 ≤ 40 ∧ -40 ≤ y2 ∧ y2 ≤ 40) ∧ ¬ (x1 = x2 ∧ y1 = y2)
theorem Stk.same {H H' : Hp} {p : Addr} {x1 y1 x2 y2 : Int} (h : Stk H p x1 y1 x2 y2) (e : Same H H') : Stk H' p x1 y1 x2 y2 := ⟨e _ _ h.1, h.2⟩
theorem Stk.but {H H' : Hp} {b l p : Addr} {x1 y1 x2 y2 : Int} (h : Stk H p x1 y1 x2 y2) (hB : BagAt H b l) (e : But b H H') : Stk H' p x1 y1 x2 y2 := ⟨e _ _ (bag_tup hB h.1) h.1, h.2⟩
def spStroke : Sp := fun vs H Q _ => ∃ (b l pb : Addr) (x y m : Int), vs = [.ref b, .ref pb, .int m] ∧ BagAt H b l ∧ H pb = some (.tup [.int x, .int y]) ∧ 0 < m ∧ m ≤ 1000 ∧ ∀ (p : Addr) (H' : Hp) (x1 y1 x2 y2 : Int), BagAt H' b l → But b H H' → Stk H' p x1 y1 x2 y2 → Q (.ref p) H'
section
variable {P : Program} {w : World} {K : PySem.W.Frag} {mg : Str → Option Value} {base : Heap} {f : Addr} {fd : FuncData}
abbrev s_stroke : Stmt := top 19
theorem sc_stroke : FnScope ["_law_bag_here", "_law_base_here", "_law_wide", "_law_one", "_law_other"] ["_law_bag_here", "_law_base_here", "_law_wide"] (defScope s_stroke) := ⟨rfl, rfl, rfl, by decide +kernel, rfl, by decide +kernel, by decide +kernel⟩
theorem ok_stroke (c_spot : Cal P w K mg base 2 "_law_spot" ["_law_bag_here", "_law_base_here", "_law_wide"] spSpot) (F : Fun K "_law_stroke" "_law_stroke" s_stroke f fd) : FnOk P w K mg base CX0 3 f fd ["_law_bag_here", "_law_base_here", "_law_wide"] spStroke := by
  refine F.ok sc_stroke (fun vs H Q E h => ?_) (fun cdv A outer s H vs Q E hr h => ?_)
  · obtain ⟨b, l, pb, x, y, m, rfl, _⟩ := h
    rfl
  obtain ⟨b, l, pb, x, y, m, rfl, hB, hp, m0, m1, q⟩ := h
  refine ⟨_, (pss_cons (ps_par (i := 3) (j := 4) (by rfl) sc_stroke.nd rfl rfl (by decide) rfl rfl (pa_cons (pe_cal c_spot hr (pa_cons (pv 0) (pa_cons (pv 1) (pa_cons (pv 2) pa_nil)))) (pa_cons (pe_cal c_spot hr (pa_cons (pv 0) (pa_cons (pv 1) (pa_cons (pv 2) pa_nil)))) pa_nil)) (by rfl))
    (pss_cons (ps_if (pt_cmpR (op_eqD hr.units) (pv 3) (pv 4) (nomark _))
    (pss_one (ps_set (i := 4) sc_stroke.nd rfl (Or.inl rfl) (pe_tup (pa_cons (pe_op op_add (pe_ix ix_tup (pv 4) pe_int (fun _ _ => rfl)) (pe_ifExp (pt_cmpR op_lt (pe_ix ix_tup (pv 4) pe_int (fun _ _ => rfl)) pe_int (nomark _)) pe_int (pe_un un_neg pe_int))) (pa_cons (pe_ix ix_tup (pv 4) pe_int (fun _ _ => rfl)) pa_nil)))))
    pss_nil)
    (pss_one (ps_ret (pe_op op_catT (pv 3) (pv 4)))))), ?_⟩
  refine ⟨_, rfl, _, rfl, _, rfl, b, _, pb, x, y, m, rfl, hB, hp, m0, m1, fun p1 H1 x1 y1 hB1 bt1 h1 => ?_⟩
  have hp1 := bt1 _ _ (bag_tup hB hp) hp
  refine ⟨_, rfl, _, rfl, _, rfl, b, _, pb, x, y, m, rfl, hB1, hp1, m0, m1, fun p2 H2 x2 y2 hB2 bt2 h2 => ?_⟩
  have h1' := h1.but hB1 bt2
  refine ⟨_, _, rfl, ?_⟩
  dsimp only
  have bt := bt1.trans bt2
  refine seq_with (fun σ' H' => ∃ (p : Addr) (u v : Int), σ' = [some (.ref b), some (.ref pb), some (.int m), some (.ref p1), some (.ref p)] ∧ BagAt H' b l ∧ But b H H' ∧ Pt H' p1 x1 y1 ∧ Pt H' p u v ∧ ¬ (x1 = u ∧ y1 = v)) (fun R hR => ?_) ?_
  · refine ⟨_, rfl, _, rfl, _, _, dp_pair h1'.1, dp_pair h2.1, shaped_pair _ _, shaped_pair _ _, _, rfl, ?_⟩
    rw [eqv_pair]
    by_cases c : x1 = x2 ∧ y1 = y2
    · refine iteDT c ?_
      have b2 := h2.2
      refine ⟨_, rfl, p2, _, _, _, rfl, rfl, SqT.of h2.1, rfl, _, rfl, p2, _, _, _, rfl, rfl, SqT.of h2.1, rfl, _, _, rfl, rfl, _, rfl, ?_⟩
      by_cases d : x2 < 40
      · refine iteDT d ?_
        refine ⟨_, _, rfl, rfl, _, rfl, p2, _, _, _, rfl, rfl, SqT.of h2.1, rfl, sz (by decide : 2 ≤ 100000), fun p3 n3 => ?_⟩
        have g := same_new n3 (.tup [.int (x2 + 1), .int y2])
        exact hR _ _ ⟨p3, x2 + 1, y2, rfl, hB2.same g, bt.trans (But.of g), h1'.same g, ⟨upd_same, by omega⟩, by omega⟩
      · refine iteDF d ?_
        refine ⟨_, rfl, _, _, rfl, rfl, _, rfl, p2, _, _, _, rfl, rfl, SqT.of h2.1, rfl, sz (by decide : 2 ≤ 100000), fun p3 n3 => ?_⟩
        have g := same_new n3 (.tup [.int (x2 + -1), .int y2])
        exact hR _ _ ⟨p3, x2 + -1, y2, rfl, hB2.same g, bt.trans (But.of g), h1'.same g, ⟨upd_same, by omega⟩, by omega⟩
    · refine iteDF c ?_
      exact hR _ _ ⟨p2, x2, y2, rfl, hB2, bt, h1', h2, c⟩
  · rintro σ' H' ⟨p, u, v, rfl, hB', bt', k1, k2, hne⟩
    refine ⟨_, rfl, _, rfl, p1, p, _, _, rfl, rfl, SqT.of k1.1, SqT.of k2.1, (by intro z; cases z), sz (by decide : 4 ≤ 100000), (fun z => by cases z), fun _ p4 n4 => ?_⟩
    have g := same_new n4 (.tup [.int x1, .int y1, .int u, .int v])
    obtain ⟨_, c1⟩ := k1
    obtain ⟨_, c2⟩ := k2
    exact q p4 _ x1 y1 u v (hB'.same g) (bt'.trans (But.of g)) ⟨upd_same, by omega, hne⟩
end
end DM

namespace DM
open PySem L2
/-! ### the greatest measure -/
theorem gcd_step {x y : Int} (hx : 0 ≤ x) (hy : 0 < y) : Int.gcd y (x % y) = Int.gcd x y := by
  have e1 : x = (x.toNat : Int) := by omega
  have e2 : y = (y.toNat : Int) := by omega
  rw [e1, e2, ← Int.natCast_emod, Int.gcd_natCast_natCast, Int.gcd_natCast_natCast, Nat.gcd_comm x.toNat, Nat.gcd_rec y.toNat x.toNat, Nat.gcd_comm (x.toNat % y.toNat)]
theorem gcd_end {x : Int} (hx : 0 ≤ x) : ((Int.gcd x 0 : Nat) : Int) = x := by
  rw [Int.gcd_zero_right]
  omega
theorem gcd_abs (a b : Int) : Int.gcd (if a < 0 then -a else a) (if b < 0 then -b else b) = Int.gcd a b := by
  split <;> split <;> simp only [Int.neg_gcd, Int.gcd_neg]
theorem gcd_abs1 (a b : Int) : Int.gcd (if a < 0 then -a else a) b = Int.gcd a b := by
  split <;> simp only [Int.neg_gcd]
theorem gcd_pos {a b : Int} (h : b ≠ 0) : 0 < ((Int.gcd a b : Nat) : Int) := by
  have := Int.gcd_pos_of_ne_zero_right a h
  omega
def spGcd : Sp := fun vs H Q _ => ∃ a b : Int, vs = [.int a, .int b] ∧ 0 ≤ a ∧ 0 ≤ b ∧ Q (.int (Int.gcd a b)) H
def spCom : Sp := fun vs H Q _ => ∃ a b : Int, vs = [.int a, .int b] ∧ Q (.int (Int.gcd a b)) H
def lowA (a b : Int) : Int := (if b < 0 then -a else a) / (Int.gcd a b : Nat)
def lowB (a b : Int) : Int := (if b < 0 then -b else b) / (Int.gcd a b : Nat)
/-- the part of two numbers, as a new pair -/
def spLow : Sp := fun vs H Q _ => ∃ a b : Int, vs = [.int a, .int b] ∧ b ≠ 0 ∧ b.natAbs < 4611686018427387904 ∧ ∀ (p : Addr) (H' : Hp), Same H H' → H' p = some (.tup [.int (lowA a b), .int (lowB a b)]) → Q (.ref p) H'
def spLowP : Sp := fun vs H Q _ => ∃ a b : Int, vs = [.int a, .int b] ∧ 0 < b ∧ b.natAbs < 4611686018427387904 ∧ ∀ (p : Addr) (H' : Hp), Same H H' → H' p = some (.tup [.int (lowA a b), .int (lowB a b)]) → Q (.ref p) H'
theorem gcd_le {a b : Int} (h : b ≠ 0) : ((Int.gcd a b : Nat) : Int) ≤ (b.natAbs : Int) := by
  have h1 : Int.gcd a b ≤ b.natAbs := Nat.le_of_dvd (by omega) (Nat.gcd_dvd_right a.natAbs b.natAbs)
  omega
theorem gcd_wide {i a b : Int} (h : b ≠ 0) (hb : b.natAbs < 4611686018427387904) : CDivW i ((Int.gcd a b : Nat) : Int) := by
  have h1 := gcd_le (a := a) h
  exact wide_div (b := 62) (gcd_pos h) (by omega) (by decide) (by decide)
section
variable {P : Program} {w : World} {K : PySem.W.Frag} {mg : Str → Option Value} {base : Heap} {f : Addr} {fd : FuncData}
abbrev s_common : Stmt := top 14
theorem sc_common : FnScope ["_law_one", "_law_other"] ["_law_one", "_law_other"] (defScope s_common) := ⟨rfl, rfl, rfl, by decide +kernel, rfl, by decide +kernel, by decide +kernel⟩
theorem ok_common (B : Blt mg) (F : Fun K "_law_common" "_law_common" s_common f fd) : FnOk P w K mg base CX0 1 f fd ["_law_one", "_law_other"] spCom := by
  refine F.ok sc_common (fun vs H Q E h => ?_) (fun cdv A outer s H vs Q E hr h => ?_)
  · obtain ⟨a, b, rfl, _⟩ := h
    rfl
  obtain ⟨a, b, rfl, q⟩ := h
  refine ⟨_, (pss_cons (ps_par (i := 0) (j := 1) (by rfl) sc_common.nd rfl rfl (by decide) rfl rfl (pa_cons (pe_callB call_abs rfl B.abs bt_abs (pa_cons (pv 0) pa_nil)) (pa_cons (pe_callB call_abs rfl B.abs bt_abs (pa_cons (pv 1) pa_nil)) pa_nil)) (by rfl))
    (pss_cons (ps_while PassesOwn.never (pt_cmpR op_gt (pv 1) pe_int (nomark _))
    (pss_one (ps_par (i := 0) (j := 1) (by rfl) sc_common.nd rfl rfl (by decide) rfl rfl (pa_cons (pv 1) (pa_cons (pe_op op_mod (pv 0) (pv 1)) pa_nil)) (by rfl))))
    (pss_one (ps_ret (pv 0))))), ?_⟩
  refine ⟨_, rfl, _, rfl, _, rfl, _, rfl, _, _, rfl, ?_⟩
  have ha : 0 ≤ (if a < 0 then -a else a) := by split <;> omega
  have hb : 0 ≤ (if b < 0 then -b else b) := by split <;> omega
  dsimp only
  refine while_by (fun σ H' => H' = H ∧ ∃ x y : Int, σ = [some (.int x), some (.int y)] ∧ 0 ≤ x ∧ 0 ≤ y ∧ Int.gcd x y = Int.gcd a b) (fun σ _ => match σ with | [_, some (.int y)] => y.toNat | _ => 0) ⟨rfl, _, _, rfl, ha, hb, gcd_abs a b⟩ ?_ ?_
  · rintro σ H' ⟨rfl, x, y, rfl, hx, hy, hg⟩
    refine ⟨_, rfl, _, _, rfl, rfl, _, rfl, ?_⟩
    refine ite2 (fun c => ?_) (fun c => ?_)
    · have hy' : 0 < y := of_decide_eq_true c
      refine ⟨_, rfl, _, rfl, _, rfl, _, _, rfl, rfl, hy', _, _, rfl, ?_⟩
      refine ⟨⟨rfl, y, x % y, rfl, hy, Int.emod_nonneg _ (by omega), ?_⟩, ?_⟩
      · rw [gcd_step hx hy']
        exact hg
      · show (x % y).toNat < y.toNat
        have := Int.emod_lt_of_pos x hy'
        omega
    · have hy' : ¬ y > 0 := of_decide_eq_false (Bool.eq_false_iff.mpr c)
      have c' : y = 0 := by omega
      subst c'
      refine ⟨_, rfl, ?_⟩
      have e := gcd_end hx
      rw [hg] at e
      rw [e] at q
      exact q
  · rintro σ H Q Q' hq ⟨v, h1, i, j, e1, e2, k, h3, h4⟩
    exact ⟨v, h1, i, j, e1, e2, k, h3, hq _ _ h4⟩
abbrev s_low : Stmt := top 15
theorem sc_low : FnScope ["_law_over", "_law_under", "_law_both"] ["_law_over", "_law_under"] (defScope s_low) := ⟨rfl, rfl, rfl, by decide +kernel, rfl, by decide +kernel, by decide +kernel⟩
theorem ok_low (c_common : Cal P w K mg base 1 "_law_common" ["_law_one", "_law_other"] spCom) (F : Fun K "_law_low" "_law_low" s_low f fd) : FnOk P w K mg base CX0 2 f fd ["_law_over", "_law_under"] spLowP := by
  refine F.ok sc_low (fun vs H Q E h => ?_) (fun cdv A outer s H vs Q E hr h => ?_)
  · obtain ⟨a, b, rfl, _⟩ := h
    rfl
  obtain ⟨a, b, rfl, hb0, hb1, q⟩ := h
  refine ⟨_, (pss_cons (ps_set (i := 2) sc_low.nd rfl (Or.inl rfl) (pe_cal c_common hr (pa_cons (pv 0) (pa_cons (pv 1) pa_nil))))
    (pss_cons (ps_if (pt_cmpR op_lt (pv 1) pe_int (nomark _))
    (pss_one (ps_set (i := 2) sc_low.nd rfl (Or.inl rfl) (pe_op op_sub pe_int (pv 2))))
    pss_nil)
    (pss_one (ps_ret (pe_tup (pa_cons (pe_op op_fdivW (pv 0) (pv 2)) (pa_cons (pe_op op_fdivW (pv 1) (pv 2)) pa_nil))))))), ?_⟩
  refine ⟨_, rfl, _, rfl, a, b, rfl, ?_⟩
  refine ⟨_, rfl, _, _, rfl, rfl, _, rfl, ?_⟩
  have c : ¬ b < 0 := by omega
  refine iteDF c ?_
  refine ⟨_, rfl, _, rfl, _, _, rfl, rfl, gcd_wide (by omega) hb1, _, rfl, _, rfl, _, _, rfl, rfl, gcd_wide (by omega) hb1, sz (by decide : 2 ≤ 100000), fun p hp => ?_⟩
  unfold lowA lowB at q
  rw [if_neg c, if_neg c] at q
  exact q p _ (same_new hp _) upd_same
end
end DM

namespace DM
open PySem PySem.W PyProof.Rows
section
variable {prog : Program} {w : World} {A : Around} {E : Value → Shared → Prop} {s : Shared} {α : Type} [DecidableEq α] [DatumOrd α]
/-! ### the lesser and the greater of two things alike -/
theorem two_best (bt : Nat → Nat → Bool) : argBest bt 1 = if bt 1 0 = true then 1 else 0 := by
  show (if bt 1 (argBest bt 0) = true then 1 else argBest bt 0) = _
  rfl
theorem least_two {u v : Value} {x y : α} {Q : Value → Shared → Prop} (hh : A.handled = none) (held : HoldAll s.heap [u, v] [x, y]) (room : A.units + 1 + Datum.depth α < cLine)
    (want : ∀ (h' : Heap) (tk : Nat), (∀ b o, s.heap.get? b = some o → h'.get? b = some o) → Q (if DatumOrd.lt y x = true then v else u) { s with heap := h', toks := tk }) : wpAny (model prog w) A (call (.builtin "min") [u, v]) Q E s := by
  have nm : (toString "min" ++ toString ".loop" : String) = "min.loop" := by decide
  refine call_function_tree F.kind_min F.plain_min F.entry_min (F.args_min2 u v) ?_
  show wpAny _ A.in1 (Builtin.Builtins.bindParams "min" ["key", "default"] 0 ⟨[], []⟩ >>= _) _ _ _
  refine wpAny_bind (wpAny_of_eq (a := [none, none]) rfl ?_)
  show wpAny _ A.in1 (newTuple [u, v] >>= _) _ _ _
  refine wpAny_bind (wpAny_newObj_type ?_)
  have grown : ∀ b o, s.heap.get? b = some o → (s.heap.push { cls := .type "tuple", data := .seq #[u, v] }).get? b = some o := fun b o z => Heap.get?_push_of_some _ z
  have isT : (s.heap.push { cls := .type "tuple", data := .seq #[u, v] }).IsTuple s.heap.objs.size #[u, v] := ⟨_, Heap.get?_push_size _ rfl, rfl, 0, rfl⟩
  obtain ⟨as, reads⟩ := held.keeps grown
  have cmp := cmpIn_lt (prog := prog) (w := w) (A := A.in1) (s := { s with heap := s.heap.push { cls := .type "tuple", data := .seq #[u, v] } }) (vs := #[u, v]) reads (alikeAll_datum [x, y]) (room_all (depthAll_map [x, y]) (by show A.units + 1 + Datum.depth α < cLine; exact room))
  refine wpAny_bind (iter_tupleW (A := A.in1) (s := { s with heap := s.heap.push { cls := .type "tuple", data := .seq #[u, v] } }) hh isT fun s2 e2 W st fp wr keep => ?_)
  refine wpAny_bind (wpAny_newObj_type ?_)
  have away : s2.heap.objs.size ∉ [(s.heap.push { cls := .type "tuple", data := .seq #[u, v] }).objs.size, s.heap.objs.size] := fun z => Nat.lt_irrefl _ (fp _ z)
  rw [nm]
  refine wpAny_pure ⟨plainId_quiet F.plain_min_loop _, codeAny_min_loop_firstH W _ wr _ cmp s2.heap.objs.size away (fresh_in keep) _ (by show 0 < 2; decide) (fun b o z => Heap.get?_push_of_some _ (keep b o z)) (W.frame 0 s2 _ s2.toks st (Nat.le_refl _) fun b _ o z => Heap.get?_push_of_some _ z) (Heap.get?_push_size _ rfl) fun r s3 best moved => ?_⟩
  obtain ⟨h', tk, rfl, old⟩ := moved_old e2 rfl (Moved.drop_new (tk := s2.toks) moved (Nat.le_refl _))
  have pick : r = if DatumOrd.lt y x = true then v else u := by
    have b1 : (#[u, v] : Array Value)[argBest (fun i j => dataLt (([x, y].map Datum.toD).getD i .none) (([x, y].map Datum.toD).getD j .none)) 1]? = some r := best
    rw [two_best] at b1
    have b2 : dataLt (([x, y].map Datum.toD).getD 1 .none) (([x, y].map Datum.toD).getD 0 .none) = DatumOrd.lt y x := DatumOrd.lt_eq y x
    rw [b2] at b1
    by_cases c : DatumOrd.lt y x = true
    · rw [if_pos c] at b1 ⊢
      exact (Option.some.inj b1).symm
    · rw [if_neg c] at b1 ⊢
      exact (Option.some.inj b1).symm
  rw [pick]
  exact want h' tk fun b o z => old b o (grown b o z)
theorem most_two {u v : Value} {x y : α} {Q : Value → Shared → Prop} (hh : A.handled = none) (held : HoldAll s.heap [u, v] [x, y]) (room : A.units + 1 + Datum.depth α < cLine)
    (want : ∀ (h' : Heap) (tk : Nat), (∀ b o, s.heap.get? b = some o → h'.get? b = some o) → Q (if DatumOrd.lt x y = true then v else u) { s with heap := h', toks := tk }) : wpAny (model prog w) A (call (.builtin "max") [u, v]) Q E s := by
  have nm : (toString "max" ++ toString ".loop" : String) = "max.loop" := by decide
  refine call_function_tree F.kind_max F.plain_max F.entry_max (F.args_max2 u v) ?_
  show wpAny _ A.in1 (Builtin.Builtins.bindParams "max" ["key", "default"] 0 ⟨[], []⟩ >>= _) _ _ _
  refine wpAny_bind (wpAny_of_eq (a := [none, none]) rfl ?_)
  show wpAny _ A.in1 (newTuple [u, v] >>= _) _ _ _
  refine wpAny_bind (wpAny_newObj_type ?_)
  have grown : ∀ b o, s.heap.get? b = some o → (s.heap.push { cls := .type "tuple", data := .seq #[u, v] }).get? b = some o := fun b o z => Heap.get?_push_of_some _ z
  have isT : (s.heap.push { cls := .type "tuple", data := .seq #[u, v] }).IsTuple s.heap.objs.size #[u, v] := ⟨_, Heap.get?_push_size _ rfl, rfl, 0, rfl⟩
  obtain ⟨as, reads⟩ := held.keeps grown
  have cmp := cmpIn_gt (prog := prog) (w := w) (A := A.in1) (s := { s with heap := s.heap.push { cls := .type "tuple", data := .seq #[u, v] } }) (vs := #[u, v]) reads (alikeAll_datum [x, y]) (room_all (depthAll_map [x, y]) (by show A.units + 1 + Datum.depth α < cLine; exact room))
  refine wpAny_bind (iter_tupleW (A := A.in1) (s := { s with heap := s.heap.push { cls := .type "tuple", data := .seq #[u, v] } }) hh isT fun s2 e2 W st fp wr keep => ?_)
  refine wpAny_bind (wpAny_newObj_type ?_)
  have away : s2.heap.objs.size ∉ [(s.heap.push { cls := .type "tuple", data := .seq #[u, v] }).objs.size, s.heap.objs.size] := fun z => Nat.lt_irrefl _ (fp _ z)
  rw [nm]
  refine wpAny_pure ⟨plainId_quiet F.plain_max_loop _, codeAny_max_loop_firstH W _ wr _ cmp s2.heap.objs.size away (fresh_in keep) _ (by show 0 < 2; decide) (fun b o z => Heap.get?_push_of_some _ (keep b o z)) (W.frame 0 s2 _ s2.toks st (Nat.le_refl _) fun b _ o z => Heap.get?_push_of_some _ z) (Heap.get?_push_size _ rfl) fun r s3 best moved => ?_⟩
  obtain ⟨h', tk, rfl, old⟩ := moved_old e2 rfl (Moved.drop_new (tk := s2.toks) moved (Nat.le_refl _))
  have pick : r = if DatumOrd.lt x y = true then v else u := by
    have b1 : (#[u, v] : Array Value)[argBest (fun i j => dataLt (([x, y].map Datum.toD).getD j .none) (([x, y].map Datum.toD).getD i .none)) 1]? = some r := best
    rw [two_best] at b1
    have b2 : dataLt (([x, y].map Datum.toD).getD 0 .none) (([x, y].map Datum.toD).getD 1 .none) = DatumOrd.lt x y := DatumOrd.lt_eq x y
    rw [b2] at b1
    by_cases c : DatumOrd.lt x y = true
    · rw [if_pos c] at b1 ⊢
      exact (Option.some.inj b1).symm
    · rw [if_neg c] at b1 ⊢
      exact (Option.some.inj b1).symm
  rw [pick]
  exact want h' tk fun b o z => old b o (grown b o z)
end
end DM
namespace DM
open PySem L2
/-- as Python orders pairs -/
def ltP (a b c d : Int) : Prop := a < c ∨ (a = c ∧ b < d)
instance {a b c d : Int} : Decidable (ltP a b c d) := by unfold ltP; exact inferInstance
section
variable {X : Cx}
def rMin2 (K : PySem.W.Frag) : List V → Hp → VK → Prop := fun vs H Q => ∃ (p q : Addr) (a b c d : Int), vs = [.ref p, .ref q] ∧ SqT K H p [.int a, .int b] ∧ SqT K H q [.int c, .int d] ∧ Q (.ref (if ltP c d a b then q else p)) H
def rMax2 (K : PySem.W.Frag) : List V → Hp → VK → Prop := fun vs H Q => ∃ (p q : Addr) (a b c d : Int), vs = [.ref p, .ref q] ∧ SqT K H p [.int a, .int b] ∧ SqT K H q [.int c, .int d] ∧ Q (.ref (if ltP a b c d then q else p)) H
theorem held_pair {pins : List (Addr × Obj)} {σ : St} {H : Hp} {s : Shared} {p : Addr} {a b : Int} (I : Inv X pins σ H s) (h : SqT X.K H p [.int a, .int b]) : PySem.W.Holds s.heap (.ref p) ((a, b) : Int × Int) := by
  obtain ⟨as, r⟩ := Dp.reads I (.tuple [.int a, .int b]) (.ref p) (.ref p) (.tup h (.cons (.int a) (.cons (.int b) .nil))) rfl
  exact ⟨as, r⟩
theorem lt_pair (a b c d : Int) : PySem.W.DatumOrd.lt ((a, b) : Int × Int) ((c, d) : Int × Int) = decide (ltP a b c d) := by
  show (if a = c then decide (b < d) else decide (a < c)) = _
  unfold ltP
  by_cases h : a = c
  · subst h
    rw [if_pos rfl]
    apply decide_eq_decide.mpr
    omega
  · rw [if_neg h]
    apply decide_eq_decide.mpr
    omega
theorem cr_min2 (hc : X.calm = true) (hu : X.A.units + 64 < cLine) : CallR X (.builtin "min") (rMin2 X.K) := by
  intro pins s0 σ0 H0 xs us Q0 I0 rel want
  obtain ⟨p, q, a, b, c, d, rfl, hp, hq, last⟩ := want
  obtain ⟨u1, u2, rfl, r1, r2⟩ := vals2 rel
  cases (show u1 = Value.ref p from r1)
  cases (show u2 = Value.ref q from r2)
  refine least_two (α := Int × Int) (x := (a, b)) (y := (c, d)) (I0.ok.hd hc) (.cons (held_pair I0 hp) (.cons (held_pair I0 hq) .nil)) (Nat.lt_of_le_of_lt (by show X.A.units + 1 + 1 ≤ X.A.units + 64; omega) hu) fun h' tk keep => ?_
  refine ⟨.ref (if ltP c d a b then q else p), H0, I0.kept keep, ?_, last⟩
  rw [lt_pair]
  by_cases z : ltP c d a b
  · rw [if_pos (decide_eq_true z), if_pos z]
    rfl
  · rw [decide_eq_false z, if_neg z]
    rfl
theorem cr_max2 (hc : X.calm = true) (hu : X.A.units + 64 < cLine) : CallR X (.builtin "max") (rMax2 X.K) := by
  intro pins s0 σ0 H0 xs us Q0 I0 rel want
  obtain ⟨p, q, a, b, c, d, rfl, hp, hq, last⟩ := want
  obtain ⟨u1, u2, rfl, r1, r2⟩ := vals2 rel
  cases (show u1 = Value.ref p from r1)
  cases (show u2 = Value.ref q from r2)
  refine most_two (α := Int × Int) (x := (a, b)) (y := (c, d)) (I0.ok.hd hc) (.cons (held_pair I0 hp) (.cons (held_pair I0 hq) .nil)) (Nat.lt_of_le_of_lt (by show X.A.units + 1 + 1 ≤ X.A.units + 64; omega) hu) fun h' tk keep => ?_
  refine ⟨.ref (if ltP a b c d then q else p), H0, I0.kept keep, ?_, last⟩
  rw [lt_pair]
  by_cases z : ltP a b c d
  · rw [if_pos (decide_eq_true z), if_pos z]
    rfl
  · rw [decide_eq_false z, if_neg z]
    rfl
end
end DM

namespace DM
open PySem L2
def crs (x1 y1 x2 y2 x3 y3 : Int) : Int := (x2 - x1) * (y3 - y1) - (y2 - y1) * (x3 - x1)
def sg (z : Int) : Int := if 0 < z then 1 else if z < 0 then -1 else 0
theorem crs_turn (x1 y1 x2 y2 x3 y3 : Int) : (x2 - x1) * (y3 - y2) - (y2 - y1) * (x3 - x2) = crs x1 y1 x2 y2 x3 y3 := by
  unfold crs
  have e1 : (y3 - y1) = (y3 - y2) + (y2 - y1) := by omega
  have e2 : (x3 - x1) = (x3 - x2) + (x2 - x1) := by omega
  rw [e1, e2, Int.mul_add, Int.mul_add, Int.mul_comm (y2 - y1) (x2 - x1)]
  omega
theorem crs_round (x1 y1 x2 y2 x3 y3 : Int) : crs x2 y2 x3 y3 x1 y1 = crs x1 y1 x2 y2 x3 y3 := by
  rw [← crs_turn x1 y1 x2 y2 x3 y3]
  unfold crs
  have e1 : y1 - y2 = -(y2 - y1) := by omega
  have e2 : x1 - x2 = -(x2 - x1) := by omega
  rw [e1, e2, Int.mul_neg, Int.mul_neg, Int.mul_comm (x3 - x2), Int.mul_comm (y3 - y2)]
  omega
theorem crs_about (x1 y1 x2 y2 x3 y3 : Int) : crs x1 y1 x3 y3 x2 y2 = - crs x1 y1 x2 y2 x3 y3 := by
  unfold crs
  rw [Int.mul_comm (x3 - x1), Int.mul_comm (y3 - y1)]
  omega
theorem sg_neg (z : Int) : sg (-z) = 0 - sg z := by
  unfold sg
  split <;> split <;> (try split) <;> (try split) <;> omega
def spCross (K : PySem.W.Frag) : Sp := fun vs H Q _ => ∃ (p1 p2 p3 : Addr) (x1 y1 x2 y2 x3 y3 : Int), vs = [.ref p1, .ref p2, .ref p3] ∧ Pt H p1 x1 y1 ∧ Pt H p2 x2 y2 ∧ Pt H p3 x3 y3 ∧ Q (.int (crs x1 y1 x2 y2 x3 y3)) H
section
variable {P : Program} {w : World} {K : PySem.W.Frag} {mg : Str → Option Value} {base : Heap} {f : Addr} {fd : FuncData}
abbrev s_cross : Stmt := top 21
theorem sc_cross : FnScope ["_law_one", "_law_two", "_law_three"] ["_law_one", "_law_two", "_law_three"] (defScope s_cross) := ⟨rfl, rfl, rfl, by decide +kernel, rfl, by decide +kernel, by decide +kernel⟩
theorem ok_cross (F : Fun K "_law_cross" "_law_cross" s_cross f fd) : FnOk P w K mg base CX0 1 f fd ["_law_one", "_law_two", "_law_three"] (spCross K) := by
  refine F.ok sc_cross (fun vs H Q E h => ?_) (fun cdv A outer s H vs Q E hr h => ?_)
  · obtain ⟨p1, p2, p3, x1, y1, x2, y2, x3, y3, rfl, _⟩ := h
    rfl
  obtain ⟨p1, p2, p3, x1, y1, x2, y2, x3, y3, rfl, ⟨h1, b1⟩, ⟨h2, b2⟩, ⟨h3, b3⟩, q⟩ := h
  refine ⟨_, (pss_one (ps_ret (pe_op op_sub (pe_op op_mul (pe_op op_sub (pe_ix ix_tup (pv 1) pe_int (fun _ _ => rfl)) (pe_ix ix_tup (pv 0) pe_int (fun _ _ => rfl))) (pe_op op_sub (pe_ix ix_tup (pv 2) pe_int (fun _ _ => rfl)) (pe_ix ix_tup (pv 0) pe_int (fun _ _ => rfl)))) (pe_op op_mul (pe_op op_sub (pe_ix ix_tup (pv 1) pe_int (fun _ _ => rfl)) (pe_ix ix_tup (pv 0) pe_int (fun _ _ => rfl))) (pe_op op_sub (pe_ix ix_tup (pv 2) pe_int (fun _ _ => rfl)) (pe_ix ix_tup (pv 0) pe_int (fun _ _ => rfl))))))), ?_⟩
  refine ⟨_, rfl, p2, _, _, _, rfl, rfl, SqT.of h2, rfl, _, rfl, p1, _, _, _, rfl, rfl, SqT.of h1, rfl, _, _, rfl, rfl, _, rfl, p3, _, _, _, rfl, rfl, SqT.of h3, rfl, _, rfl, p1, _, _, _, rfl, rfl, SqT.of h1, rfl, _, _, rfl, rfl, _, _, rfl, rfl, .inl ⟨by omega, by omega⟩, ?_⟩
  refine ⟨_, rfl, p2, _, _, _, rfl, rfl, SqT.of h2, rfl, _, rfl, p1, _, _, _, rfl, rfl, SqT.of h1, rfl, _, _, rfl, rfl, _, rfl, p3, _, _, _, rfl, rfl, SqT.of h3, rfl, _, rfl, p1, _, _, _, rfl, rfl, SqT.of h1, rfl, _, _, rfl, rfl, _, _, rfl, rfl, .inl ⟨by omega, by omega⟩, ?_⟩
  exact ⟨_, _, rfl, rfl, q⟩
end
end DM

namespace DM
open PySem L2
section
variable {P : Program} {w : World} {K : PySem.W.Frag} {mg : Str → Option Value} {base : Heap} {f : Addr} {fd : FuncData}
/-! ### _law_low, of either sign -/
theorem fdiv_neg' {a g : Int} (hg : 0 < g) (hd : g ∣ a) : a.fdiv (-g) = (-a) / g := by
  obtain ⟨c, rfl⟩ := hd
  have e : g * c = (-g) * (-c) := by rw [Int.neg_mul_neg]
  rw [e, Int.mul_fdiv_cancel_left _ (by omega), ← e]
  rw [← Int.mul_neg, Int.mul_ediv_cancel_left _ (by omega)]
def spLowN : Sp := fun vs H Q _ => ∃ a b : Int, vs = [.int a, .int b] ∧ b ≠ 0 ∧ b.natAbs ≤ 1000000000 ∧ ∀ (p : Addr) (H' : Hp), Same H H' → H' p = some (.tup [.int (lowA a b), .int (lowB a b)]) → Q (.ref p) H'
theorem ok_lowN (c_common : Cal P w K mg base 1 "_law_common" ["_law_one", "_law_other"] spCom) (F : Fun K "_law_low" "_law_low" s_low f fd) : FnOk P w K mg base CX0 2 f fd ["_law_over", "_law_under"] spLowN := by
  refine F.ok sc_low (fun vs H Q E h => ?_) (fun cdv A outer s H vs Q E hr h => ?_)
  · obtain ⟨a, b, rfl, _⟩ := h
    rfl
  obtain ⟨a, b, rfl, hb0, hb1, q⟩ := h
  refine ⟨_, (pss_cons (ps_set (i := 2) sc_low.nd rfl (Or.inl rfl) (pe_cal c_common hr (pa_cons (pv 0) (pa_cons (pv 1) pa_nil))))
    (pss_cons (ps_if (pt_cmpR op_lt (pv 1) pe_int (nomark _)) (pss_one (ps_set (i := 2) sc_low.nd rfl (Or.inl rfl) (pe_op op_sub pe_int (pv 2)))) pss_nil)
    (pss_one (ps_ret (pe_tup (pa_cons (pe_op op_fdivN (pv 0) (pv 2)) (pa_cons (pe_op op_fdivN (pv 1) (pv 2)) pa_nil))))))), ?_⟩
  have hg := gcd_pos (a := a) hb0
  have hle := gcd_le (a := a) hb0
  have d1 : ((Int.gcd a b : Nat) : Int) ∣ a := Int.gcd_dvd_left ..
  have d2 : ((Int.gcd a b : Nat) : Int) ∣ b := Int.gcd_dvd_right ..
  unfold lowA lowB at q
  refine ⟨_, rfl, _, rfl, a, b, rfl, ?_⟩
  refine ⟨_, rfl, _, _, rfl, rfl, _, rfl, ?_⟩
  refine ite2 (fun c => ?_) (fun c => ?_)
  · have c' : b < 0 := of_decide_eq_true c
    rw [if_pos c', if_pos c'] at q
    refine ⟨_, rfl, _, _, rfl, rfl, ?_⟩
    refine ⟨_, rfl, _, rfl, _, _, rfl, rfl, ⟨by omega, by omega⟩, _, rfl, _, rfl, _, _, rfl, rfl, ⟨by omega, by omega⟩, sz (by decide : 2 ≤ 100000), fun p hp => ?_⟩
    refine q p _ (same_new hp _) ?_
    rw [upd_same, ← fdiv_neg' hg d1, ← fdiv_neg' hg d2, Int.zero_sub]
  · have c' : ¬ b < 0 := of_decide_eq_false (Bool.eq_false_iff.mpr c)
    rw [if_neg c', if_neg c'] at q
    refine ⟨_, rfl, _, rfl, _, _, rfl, rfl, ⟨by omega, by omega⟩, _, rfl, _, rfl, _, _, rfl, rfl, ⟨by omega, by omega⟩, sz (by decide : 2 ≤ 100000), fun p hp => ?_⟩
    refine q p _ (same_new hp _) ?_
    rw [upd_same, ← Int.fdiv_eq_ediv_of_nonneg a (by omega), ← Int.fdiv_eq_ediv_of_nonneg b (by omega)]
end
end DM

namespace DM
open PySem L2
/-- a list's items are strokes -/
def Stks (H : Hp) (xs : List V) : Prop := ∀ v ∈ xs, ∃ (p : Addr) (x1 y1 x2 y2 : Int), v = .ref p ∧ Stk H p x1 y1 x2 y2
theorem Stks.same {H H' : Hp} {xs : List V} (h : Stks H xs) (e : Same H H') : Stks H' xs := fun v hv => by
  obtain ⟨p, x1, y1, x2, y2, r, k⟩ := h v hv
  exact ⟨p, x1, y1, x2, y2, r, k.same e⟩
theorem Stks.but {H H' : Hp} {b l : Addr} {xs : List V} (h : Stks H xs) (hB : BagAt H b l) (e : But b H H') : Stks H' xs := fun v hv => by
  obtain ⟨p, x1, y1, x2, y2, r, k⟩ := h v hv
  exact ⟨p, x1, y1, x2, y2, r, k.but hB e⟩
theorem Stks.data {K : PySem.W.Frag} {H : Hp} : ∀ {xs : List V}, Stks H xs → ∃ ds : List PyData, DpAll K H xs ds ∧ PyData.canLayAll0 ds = true ∧ PyData.depthAll ds ≤ 1 ∧ PyData.eqvAll ds [] = xs.isEmpty
  | [], _ => ⟨[], .nil, rfl, Nat.zero_le _, rfl⟩
  | v :: xs, h => by
    obtain ⟨p, x1, y1, x2, y2, rfl, k⟩ := h v List.mem_cons_self
    obtain ⟨ds, a, b, c, _⟩ := Stks.data (K := K) (xs := xs) fun u hu => h u (List.mem_cons_of_mem _ hu)
    refine ⟨.tuple [.int x1, .int y1, .int x2, .int y2] :: ds, .cons (dp_four k.1) a, ?_, ?_, rfl⟩
    · simp only [PyData.canLayAll0, PyData.canLay0, b, Bool.and_true]
    · simp only [PyData.depthAll, PyData.depth]
      omega
theorem Stks.empty {K : PySem.W.Frag} {H : Hp} {pl : Addr} {xs : List V} (h : Stks H xs) (hl : H pl = some (.lst xs)) : ∃ d, Dp K H (.ref pl) d ∧ SeqAt.shaped d = true ∧ PyData.eqv d (.list []) = xs.isEmpty := by
  obtain ⟨ds, a, b, c, e⟩ := h.data (K := K)
  refine ⟨.list ds, .lst (SqL.of hl) a, ?_, ?_⟩
  · unfold SeqAt.shaped
    simp only [PyData.canLay0, PyData.depth, b, Bool.true_and]
    exact decide_eq_true (by omega)
  · simp only [PyData.eqv]
    exact e
def spBeside : Sp := fun vs H Q _ => ∃ (b l pb pl : Addr) (x y m : Int) (xs : List V), vs = [.ref b, .ref pb, .int m, .ref pl] ∧ BagAt H b l ∧ H pb = some (.tup [.int x, .int y]) ∧ 0 < m ∧ m ≤ 1000 ∧ H pl = some (.lst xs) ∧ pl ≠ b ∧ xs.length ≤ 1000 ∧ Stks H xs ∧
  ∀ (p : Addr) (H' : Hp) (x1 y1 x2 y2 : Int), BagAt H' b l → But b H H' → Stk H' p x1 y1 x2 y2 → Q (.ref p) H'
theorem abs_max {x y : Int} (h : (if (if y < 0 then -y else y) > (if x < 0 then -x else x) then (if y < 0 then -y else y) else (if x < 0 then -x else x)) < 41) : -40 ≤ x ∧ x ≤ 40 ∧ -40 ≤ y ∧ y ≤ 40 := by
  split at h <;> (split at h <;> omega)
section
variable {P : Program} {w : World} {K : PySem.W.Frag} {mg : Str → Option Value} {base : Heap} {f : Addr} {fd : FuncData}
abbrev s_beside : Stmt := top 20
theorem sc_beside : FnScope ["_law_bag_here", "_law_base_here", "_law_wide", "_law_some", "_law_fresh", "_law_how", "_law_other", "_law_x", "_law_y"] ["_law_bag_here", "_law_base_here", "_law_wide", "_law_some"] (defScope s_beside) := ⟨rfl, rfl, rfl, by decide +kernel, rfl, by decide +kernel, by decide +kernel⟩
theorem ok_beside (B : Blt mg) (c_pull : Cal P w K mg base 1 "_law_pull" ["_law_bag_here", "_law_amount"] spPull) (c_of : Cal P w K mg base 2 "_law_of" ["_law_bag_here", "_law_things"] spOf) (c_stroke : Cal P w K mg base 3 "_law_stroke" ["_law_bag_here", "_law_base_here", "_law_wide"] spStroke) (F : Fun K "_law_beside" "_law_beside" s_beside f fd) : FnOk P w K mg base CX0 4 f fd ["_law_bag_here", "_law_base_here", "_law_wide", "_law_some"] spBeside := by
  refine F.ok sc_beside (fun vs H Q E h => ?_) (fun cdv A outer s H vs Q E hr h => ?_)
  · obtain ⟨b, l, pb, pl, x, y, m, xs, rfl, _⟩ := h
    rfl
  obtain ⟨b, l, pb, pl, x, y, m, xs, rfl, hB, hp, m0, m1, hl, hlb, h1000, hxs, q⟩ := h
  refine ⟨_, (pss_cons (ps_set (i := 4) sc_beside.nd rfl (Or.inl rfl) (pe_cal c_stroke hr (pa_cons (pv 0) (pa_cons (pv 1) (pa_cons (pv 2) pa_nil)))))
    (pss_cons (ps_set (i := 5) sc_beside.nd rfl (Or.inl rfl) (pe_cal c_pull hr (pa_cons (pv 0) (pa_cons pe_int pa_nil))))
    (pss_cons (ps_if (PW.pt (pw_or (pt_cmpR (op_eqD hr.units) (pv 3) (pe_lst pa_nil) (nomark _)) (pw_or1 (pt_cmpR op_gt (pv 5) pe_int (nomark _)))))
    (pss_one (ps_ret (pv 4)))
    pss_nil)
    (pss_cons (ps_set (i := 6) sc_beside.nd rfl (Or.inl rfl) (pe_cal c_of hr (pa_cons (pv 0) (pa_cons (pv 3) pa_nil))))
    (pss_cons (ps_if (PW.pt (pw_and (pt_cmpR op_eq (pv 5) pe_int (nomark _)) (pw_and1 (pt_cmpR (op_neD hr.units) (pe_slice sl_tup (pv 6) (po_some pe_int) po_none) (pe_slice sl_tup (pv 4) (po_some pe_int) po_none) (nomark _)))))
    (pss_one (ps_ret (pe_op op_catT (pe_slice sl_tup (pv 6) (po_some pe_int) po_none) (pe_slice sl_tup (pv 4) (po_some pe_int) po_none))))
    pss_nil)
    (pss_cons (ps_par (i := 7) (j := 8) (by rfl) sc_beside.nd rfl rfl (by decide) rfl rfl (pa_cons (pe_op op_sub (pe_op op_mul pe_int (pe_ix ix_tup (pv 6) pe_int (fun _ _ => rfl))) (pe_ix ix_tup (pv 6) pe_int (fun _ _ => rfl))) (pa_cons (pe_op op_sub (pe_op op_mul pe_int (pe_ix ix_tup (pv 6) pe_int (fun _ _ => rfl))) (pe_ix ix_tup (pv 6) pe_int (fun _ _ => rfl))) pa_nil)) (by rfl))
    (pss_cons (ps_if (PW.pt (pw_and (pt_cmpR op_eq (pv 5) pe_int (nomark _)) (pw_and1 (pt_cmpR op_lt (pe_callB (call_max2 rfl) rfl B.max bt_max (pa_cons (pe_callB call_abs rfl B.abs bt_abs (pa_cons (pv 7) pa_nil)) (pa_cons (pe_callB call_abs rfl B.abs bt_abs (pa_cons (pv 8) pa_nil)) pa_nil))) pe_int (nomark _)))))
    (pss_one (ps_ret (pe_op op_catT (pe_slice sl_tup (pv 6) po_none (po_some pe_int)) (pe_tup (pa_cons (pv 7) (pa_cons (pv 8) pa_nil))))))
    pss_nil)
    (pss_one (ps_ret (pe_ifExp (pt_cmpR op_eq (pv 5) pe_int (nomark _)) (pe_op op_catT (pe_slice sl_tup (pv 6) (po_some pe_int) po_none) (pe_slice sl_tup (pv 6) po_none (po_some pe_int))) (pv 4))))))))))), ?_⟩
  refine ⟨_, rfl, _, rfl, _, rfl, b, _, pb, x, y, m, rfl, hB, hp, m0, m1, fun fr H1 f1 f2 f3 f4 hB1 bt1 hf => ?_⟩
  refine ⟨_, rfl, b, _, _, rfl, hB1, by decide, by decide, fun how H2 hB2 bt2 h0 h7 => ?_⟩
  have hf := hf.but hB1 bt2
  have bt12 := bt1.trans bt2
  have hl2 := bt12 _ _ hlb hl
  have hx2 := (hxs.but hB bt1).but hB1 bt2
  refine ⟨_, rfl, sz (by decide : 0 ≤ 100000), fun e1 ne1 => ?_⟩
  have ge := same_new ne1 (.lst [])
  obtain ⟨d, dp, sh, ev⟩ := (hx2.same ge).empty (K := K) (ge _ _ hl2)
  refine ⟨_, _, dp, .lst (SqL.of upd_same) .nil, sh, rfl, _, rfl, ?_⟩
  rw [ev]
  have hB3 := hB2.same ge
  have hf3 := hf.same ge
  have bt3 := bt12.trans (But.of ge)
  cases xs with
  | nil =>
    refine iteT (iteT ?_)
    exact ⟨_, rfl, q fr _ _ _ _ _ hB3 bt3 hf3⟩
  | cons v0 rest =>
    refine iteF ?_
    refine ⟨_, rfl, _, _, rfl, rfl, _, rfl, ?_⟩
    by_cases c : how > 2
    · refine iteDT c ?_
      exact ⟨_, rfl, q fr _ _ _ _ _ hB3 bt3 hf3⟩
    · refine iteDF c ?_
      refine ⟨_, rfl, _, rfl, b, _, pl, _, rfl, hB3, ge _ _ hl2, hlb, Nat.zero_lt_succ _, h1000, fun v H4 hB4 bt4 hv => ?_⟩
      have hx4 := (hx2.same ge).but hB3 bt4
      have hf4 := hf3.but hB3 bt4
      obtain ⟨po, o1, o2, o3, o4, rfl, ho⟩ := hx4 v hv
      have bta := bt3.trans bt4
      have bo := ho.2.1
      have bf := hf4.2.1
      refine ⟨_, rfl, rfl, _, rfl, ?_⟩
      by_cases c0 : how = 0
      · subst c0
        refine iteDT rfl ?_
        refine ⟨_, rfl, _, rfl, po, _, rfl, SqT.of ho.1, (fun z => absurd z.1 (by show ¬ (2 = 0); decide)), fun w1 n1 => ?_⟩
        have g1 := same_new n1 (.tup [.int o3, .int o4])
        refine ⟨_, rfl, _, rfl, fr, _, rfl, SqT.of (g1 _ _ hf4.1), (fun z => absurd z.1 (by show ¬ (2 = 0); decide)), fun w2 n2 => ?_⟩
        have g2 := same_new n2 (.tup [.int f3, .int f4])
        refine ⟨.tuple [.int o3, .int o4], .tuple [.int f3, .int f4], dp_pair (g2 _ _ upd_same), dp_pair upd_same, shaped_pair _ _, shaped_pair _ _, _, rfl, ?_⟩
        rw [eqv_pair]
        have g12 := g1.trans g2
        by_cases d : o3 = f3 ∧ o4 = f4
        · refine iteNS d ?_
          have ho' := ho.same g12
          refine ⟨_, rfl, po, _, _, _, rfl, rfl, SqT.of ho'.1, rfl, _, _, rfl, rfl, .inl ⟨by decide, by decide⟩, _, rfl, po, _, _, _, rfl, rfl, SqT.of ho'.1, rfl, _, _, rfl, rfl, _, rfl, po, _, _, _, rfl, rfl, SqT.of ho'.1, rfl, _, _, rfl, rfl, .inl ⟨by decide, by decide⟩, _, rfl, po, _, _, _, rfl, rfl, SqT.of ho'.1, rfl, _, _, rfl, rfl, _, _, rfl, ?_⟩
          refine ⟨_, rfl, rfl, _, rfl, iteDF (by decide) (iteF ?_)⟩
          refine ⟨_, rfl, rfl, _, rfl, iteDF (by decide) ?_⟩
          exact ⟨_, rfl, q fr _ _ _ _ _ (hB4.same g12) (bta.trans (But.of g12)) (hf4.same g12)⟩
        · refine if_pos' (by rw [decide_eq_false d]; rfl) ?_
          have ho' := ho.same g12
          have hf' := hf4.same g12
          refine ⟨_, rfl, _, rfl, po, _, rfl, SqT.of ho'.1, (fun z => absurd z.1 (by show ¬ (2 = 0); decide)), fun w3 n3 => ?_⟩
          have g3 := same_new n3 (.tup [.int o3, .int o4])
          refine ⟨_, rfl, _, rfl, fr, _, rfl, SqT.of (g3 _ _ hf'.1), (fun z => absurd z.1 (by show ¬ (2 = 0); decide)), fun w4 n4 => ?_⟩
          have g4 := same_new n4 (.tup [.int f3, .int f4])
          refine ⟨w3, w4, [.int o3, .int o4], [.int f3, .int f4], rfl, rfl, SqT.of (g4 _ _ upd_same), SqT.of upd_same, (by intro z; cases z), sz (by decide : 4 ≤ 100000), (fun z => by cases z), fun _ w5 n5 => ?_⟩
          have g5 := same_new n5 (.tup [.int o3, .int o4, .int f3, .int f4])
          have gA := g12.trans (g3.trans (g4.trans g5))
          exact q w5 _ o3 o4 f3 f4 (hB4.same gA) (bta.trans (But.of gA)) ⟨upd_same, by omega, d⟩
      · refine iteDF (fun z => c0 (V.int.inj z)) (iteF ?_)
        refine ⟨_, rfl, po, _, _, _, rfl, rfl, SqT.of ho.1, rfl, _, _, rfl, rfl, .inl ⟨by decide, by decide⟩, _, rfl, po, _, _, _, rfl, rfl, SqT.of ho.1, rfl, _, _, rfl, rfl, _, rfl, po, _, _, _, rfl, rfl, SqT.of ho.1, rfl, _, _, rfl, rfl, .inl ⟨by decide, by decide⟩, _, rfl, po, _, _, _, rfl, rfl, SqT.of ho.1, rfl, _, _, rfl, rfl, _, _, rfl, ?_⟩
        refine ⟨_, rfl, rfl, _, rfl, ?_⟩
        by_cases c1 : how = 1
        · subst c1
          refine iteDT rfl ?_
          refine ⟨_, rfl, _, rfl, _, rfl, _, rfl, _, _, rfl, _, _, rfl, rfl, _, rfl, ?_⟩
          by_cases d : (if (if (2 * o4 - o2) < 0 then -(2 * o4 - o2) else (2 * o4 - o2)) > (if (2 * o3 - o1) < 0 then -(2 * o3 - o1) else (2 * o3 - o1)) then (if (2 * o4 - o2) < 0 then -(2 * o4 - o2) else (2 * o4 - o2)) else (if (2 * o3 - o1) < 0 then -(2 * o3 - o1) else (2 * o3 - o1))) < 41
          · refine iteDT d ?_
            have bd := abs_max d
            refine ⟨_, rfl, _, rfl, po, _, rfl, SqT.of ho.1, (fun z => absurd z.2 (by show ¬ (2 = 4); decide)), fun w1 n1 => ?_⟩
            have g1 := same_new n1 (.tup [.int o1, .int o2])
            refine ⟨_, rfl, _, rfl, sz (by decide : 2 ≤ 100000), fun w2 n2 => ?_⟩
            have g2 := same_new n2 (.tup [.int (2 * o3 - o1), .int (2 * o4 - o2)])
            refine ⟨w1, w2, [.int o1, .int o2], [.int (2 * o3 - o1), .int (2 * o4 - o2)], rfl, rfl, SqT.of (g2 _ _ upd_same), SqT.of upd_same, (by intro z; cases z), sz (by decide : 4 ≤ 100000), (fun z => by cases z), fun _ w3 n3 => ?_⟩
            have g3 := same_new n3 (.tup [.int o1, .int o2, .int (2 * o3 - o1), .int (2 * o4 - o2)])
            have gA := g1.trans (g2.trans g3)
            exact q w3 _ o1 o2 (2 * o3 - o1) (2 * o4 - o2) (hB4.same gA) (bta.trans (But.of gA)) ⟨upd_same, by omega, fun z => ho.2.2 (by omega)⟩
          · refine iteDF d ?_
            refine ⟨_, rfl, rfl, _, rfl, iteDF (by decide) ?_⟩
            exact ⟨_, rfl, q fr _ _ _ _ _ hB4 bta hf4⟩
        · refine iteDF (fun z => c1 (V.int.inj z)) (iteF ?_)
          refine ⟨_, rfl, rfl, _, rfl, ?_⟩
          by_cases c2 : how = 2
          · refine iteDT (congrArg V.int c2) ?_
            refine ⟨_, rfl, _, rfl, po, _, rfl, SqT.of ho.1, (fun z => absurd z.1 (by show ¬ (2 = 0); decide)), fun w1 n1 => ?_⟩
            have g1 := same_new n1 (.tup [.int o3, .int o4])
            refine ⟨_, rfl, _, rfl, po, _, rfl, SqT.of (g1 _ _ ho.1), (fun z => absurd z.2 (by show ¬ (2 = 4); decide)), fun w2 n2 => ?_⟩
            have g2 := same_new n2 (.tup [.int o1, .int o2])
            refine ⟨w1, w2, [.int o3, .int o4], [.int o1, .int o2], rfl, rfl, SqT.of (g2 _ _ upd_same), SqT.of upd_same, (by intro z; cases z), sz (by decide : 4 ≤ 100000), (fun z => by cases z), fun _ w3 n3 => ?_⟩
            have g3 := same_new n3 (.tup [.int o3, .int o4, .int o1, .int o2])
            have gA := g1.trans (g2.trans g3)
            exact q w3 _ o3 o4 o1 o2 (hB4.same gA) (bta.trans (But.of gA)) ⟨upd_same, by omega, fun z => ho.2.2 ⟨z.1.symm, z.2.symm⟩⟩
          · refine iteDF (fun z => c2 (V.int.inj z)) ?_
            exact ⟨_, rfl, q fr _ _ _ _ _ hB4 bta hf4⟩
end
end DM

namespace DM
open PySem L2
/-! ### what is alike, piece by piece -/
theorem alike_tup {n : Nat} {H : Hp} {p q : Addr} {xs ys : List V} (hp : H p = some (.tup xs)) (hq : H q = some (.tup ys)) (hl : xs.length = ys.length) (h1 : xs.length ≤ 1000) (h : ∀ (i : Nat) (x y : V), xs[i]? = some x → ys[i]? = some y → Alike n H x y) : Alike (n + 1) H (.ref p) (.ref q) := .inr (.inl ⟨p, q, xs, ys, rfl, rfl, hp, hq, hl, h1, h⟩)
theorem alike_lst {n : Nat} {H : Hp} {p q : Addr} {xs ys : List V} (hp : H p = some (.lst xs)) (hq : H q = some (.lst ys)) (hl : xs.length = ys.length) (h1 : xs.length ≤ 1000) (h : ∀ (i : Nat) (x y : V), xs[i]? = some x → ys[i]? = some y → Alike n H x y) : Alike (n + 1) H (.ref p) (.ref q) := .inr (.inr ⟨p, q, xs, ys, rfl, rfl, hp, hq, hl, h1, h⟩)
theorem two_of {P : V → V → Prop} {a b c d : V} (h0 : P a c) (h1 : P b d) : ∀ (i : Nat) (x y : V), ([a, b] : List V)[i]? = some x → ([c, d] : List V)[i]? = some y → P x y
  | 0, _, _, hx, hy => by cases hx; cases hy; exact h0
  | 1, _, _, hx, hy => by cases hx; cases hy; exact h1
theorem three_of {P : V → V → Prop} {a b e c d f : V} (h0 : P a c) (h1 : P b d) (h2 : P e f) : ∀ (i : Nat) (x y : V), ([a, b, e] : List V)[i]? = some x → ([c, d, f] : List V)[i]? = some y → P x y
  | 0, _, _, hx, hy => by cases hx; cases hy; exact h0
  | 1, _, _, hx, hy => by cases hx; cases hy; exact h1
  | 2, _, _, hx, hy => by cases hx; cases hy; exact h2
theorem alike_ints {n : Nat} {H : Hp} {p q : Addr} {a b : Int} (hp : H p = some (.tup [.int a, .int b])) (hq : H q = some (.tup [.int a, .int b])) : Alike (n + 1) H (.ref p) (.ref q) := alike_tup hp hq rfl (by show 2 ≤ 1000; decide) alike_pair
end DM

namespace DM
/-! ### lowest terms are one for equal fractions -/
theorem low_neg (a b : Int) (hb : b ≠ 0) : lowA (-a) (-b) = lowA a b ∧ lowB (-a) (-b) = lowB a b := by
  unfold lowA lowB
  rw [Int.neg_gcd, Int.gcd_neg]
  rcases Int.lt_trichotomy b 0 with h | h | h
  · rw [if_neg (show ¬ -b < 0 by omega), if_pos h, if_neg (show ¬ -b < 0 by omega), if_pos h]
    exact ⟨rfl, rfl⟩
  · exact absurd h hb
  · rw [if_pos (show -b < 0 by omega), if_neg (show ¬ b < 0 by omega), if_pos (show -b < 0 by omega), if_neg (show ¬ b < 0 by omega), Int.neg_neg, Int.neg_neg]
    exact ⟨rfl, rfl⟩
theorem low_scale {a b k : Int} (hb : 0 < b) (hk : 0 < k) : lowA (k * a) (k * b) = lowA a b ∧ lowB (k * a) (k * b) = lowB a b := by
  have hkb := Int.mul_pos hk hb
  unfold lowA lowB
  rw [if_neg (show ¬ k * b < 0 by omega), if_neg (show ¬ b < 0 by omega), if_neg (show ¬ k * b < 0 by omega), if_neg (show ¬ b < 0 by omega), Int.gcd_mul_left]
  have e : ((k.natAbs * Int.gcd a b : Nat) : Int) = k * ((Int.gcd a b : Nat) : Int) := by
    rw [Int.natCast_mul]
    congr 1
    omega
  rw [e, Int.mul_ediv_mul_of_pos _ _ hk, Int.mul_ediv_mul_of_pos _ _ hk]
  exact ⟨rfl, rfl⟩
theorem low_eq_pos {a b c d : Int} (hb : 0 < b) (hd : 0 < d) (h : a * d = c * b) : lowA a b = lowA c d ∧ lowB a b = lowB c d := by
  have h1 := low_scale (a := a) hb hd
  have h2 := low_scale (a := c) hd hb
  have e1 : d * a = b * c := by rw [Int.mul_comm d a, h, Int.mul_comm]
  have e2 : d * b = b * d := Int.mul_comm ..
  rw [e1, e2] at h1
  exact ⟨h1.1.symm.trans h2.1, h1.2.symm.trans h2.2⟩
theorem low_eq {a b c d : Int} (hb : b ≠ 0) (hd : d ≠ 0) (h : a * d = c * b) : lowA a b = lowA c d ∧ lowB a b = lowB c d := by
  have n1 := low_neg a b hb
  have n2 := low_neg c d hd
  rcases Int.lt_trichotomy b 0 with z | z | z
  · rcases Int.lt_trichotomy d 0 with y | y | y
    · have r := low_eq_pos (a := -a) (b := -b) (c := -c) (d := -d) (by omega) (by omega) (by rw [Int.neg_mul_neg, Int.neg_mul_neg]; exact h)
      rw [n1.1, n1.2, n2.1, n2.2] at r
      exact r
    · exact absurd y hd
    · have r := low_eq_pos (a := -a) (b := -b) (c := c) (d := d) (by omega) y (by rw [Int.neg_mul, Int.mul_neg, h])
      rw [n1.1, n1.2] at r
      exact r
  · exact absurd z hb
  · rcases Int.lt_trichotomy d 0 with y | y | y
    · have r := low_eq_pos (a := a) (b := b) (c := -c) (d := -d) z (by omega) (by rw [Int.neg_mul, Int.mul_neg, h])
      rw [n2.1, n2.2] at r
      exact r
    · exact absurd y hd
    · exact low_eq_pos z y h
/-! ### where two strokes meet, as the law reckons it -/
def minP (p q : Int × Int) : Int × Int := if ltP q.1 q.2 p.1 p.2 then q else p
def maxP (p q : Int × Int) : Int × Int := if ltP p.1 p.2 q.1 q.2 then q else p
inductive Met where
  | no
  | pt (a b c d : Int)
  | along (x1 y1 x2 y2 : Int)
deriving DecidableEq
def meetL (x1 y1 x2 y2 u1 v1 u2 v2 : Int) : Met :=
  let l0 := crs x1 y1 x2 y2 u1 v1
  let l1 := crs x1 y1 x2 y2 u2 v2
  let r0 := crs u1 v1 u2 v2 x1 y1
  let r1 := crs u1 v1 u2 v2 x2 y2
  if l0 = 0 ∧ l1 = 0 then
    let lo := maxP (minP (x1, y1) (x2, y2)) (minP (u1, v1) (u2, v2))
    let hi := minP (maxP (x1, y1) (x2, y2)) (maxP (u1, v1) (u2, v2))
    if ltP lo.1 lo.2 hi.1 hi.2 then .along lo.1 lo.2 hi.1 hi.2 else if lo.1 = hi.1 ∧ lo.2 = hi.2 then .pt lo.1 1 lo.2 1 else .no
  else if l0 * l1 > 0 ∨ r0 * r1 > 0 then .no
  else .pt (lowA (u1 * (l0 - l1) + (u2 - u1) * l0) (l0 - l1)) (lowB (u1 * (l0 - l1) + (u2 - u1) * l0) (l0 - l1)) (lowA (v1 * (l0 - l1) + (v2 - v1) * l0) (l0 - l1)) (lowB (v1 * (l0 - l1) + (v2 - v1) * l0) (l0 - l1))
end DM
namespace DM
open PySem L2
/-- such a meeting as it lies in the heap -/
def MetAt (H : Hp) (v : V) : Met → Prop
  | .no => v = .non
  | .pt a b c d => ∃ p q px py : Addr, v = .ref p ∧ H p = some (.tup [.str "at", .ref q]) ∧ H q = some (.tup [.ref px, .ref py]) ∧ H px = some (.tup [.int a, .int b]) ∧ H py = some (.tup [.int c, .int d])
  | .along x1 y1 x2 y2 => ∃ p p1 p2 : Addr, v = .ref p ∧ H p = some (.tup [.str "along", .ref p1, .ref p2]) ∧ H p1 = some (.tup [.int x1, .int y1]) ∧ H p2 = some (.tup [.int x2, .int y2])
theorem MetAt.same {H H' : Hp} {v : V} : ∀ {m : Met}, MetAt H v m → Same H H' → MetAt H' v m
  | .no, h, _ => h
  | .pt .., ⟨p, q, px, py, a, b, c, d, e⟩, s => ⟨p, q, px, py, a, s _ _ b, s _ _ c, s _ _ d, s _ _ e⟩
  | .along .., ⟨p, p1, p2, a, b, c, d⟩, s => ⟨p, p1, p2, a, s _ _ b, s _ _ c, s _ _ d⟩
theorem MetAt.alike {H : Hp} : ∀ {m : Met} {v u : V}, MetAt H v m → MetAt H u m → Alike 3 H v u
  | .no, _, _, h, h' => by cases h; cases h'; exact Alike.scal rfl
  | .pt .., _, _, ⟨p, q, px, py, rfl, b, c, d, e⟩, ⟨p', q', px', py', rfl, b', c', d', e'⟩ => alike_tup b b' rfl (by show 2 ≤ 1000; decide) (two_of (P := Alike 2 H) (Alike.scal rfl) (alike_tup c c' rfl (by show 2 ≤ 1000; decide) (two_of (P := Alike 1 H) (alike_ints d d') (alike_ints e e'))))
  | .along .., _, _, ⟨p, p1, p2, rfl, b, c, d⟩, ⟨p', p1', p2', rfl, b', c', d'⟩ => alike_tup b b' rfl (by show 3 ≤ 1000; decide) (three_of (P := Alike 2 H) (Alike.scal rfl) (alike_ints c c') (alike_ints d d'))
def spMeet : Sp := fun vs H Q _ => ∃ (p q : Addr) (x1 y1 x2 y2 u1 v1 u2 v2 : Int), vs = [.ref p, .ref q] ∧ Stk H p x1 y1 x2 y2 ∧ Stk H q u1 v1 u2 v2 ∧ ∀ (r : V) (H' : Hp), Same H H' → MetAt H' r (meetL x1 y1 x2 y2 u1 v1 u2 v2) → Q r H'
theorem min_at {H : Hp} {p q : Addr} {a b : Int × Int} (hp : H p = some (.tup [.int a.1, .int a.2])) (hq : H q = some (.tup [.int b.1, .int b.2])) : H (if ltP b.1 b.2 a.1 a.2 then q else p) = some (.tup [.int (minP a b).1, .int (minP a b).2]) := by
  unfold minP
  by_cases c : ltP b.1 b.2 a.1 a.2
  · rw [if_pos c, if_pos c]; exact hq
  · rw [if_neg c, if_neg c]; exact hp
theorem max_at {H : Hp} {p q : Addr} {a b : Int × Int} (hp : H p = some (.tup [.int a.1, .int a.2])) (hq : H q = some (.tup [.int b.1, .int b.2])) : H (if ltP a.1 a.2 b.1 b.2 then q else p) = some (.tup [.int (maxP a b).1, .int (maxP a b).2]) := by
  unfold maxP
  by_cases c : ltP a.1 a.2 b.1 b.2
  · rw [if_pos c, if_pos c]; exact hq
  · rw [if_neg c, if_neg c]; exact hp
theorem lex_pair (a b c d : Int) : HT.lexLt [a, b] [c, d] = decide (ltP a b c d) := by
  unfold ltP
  simp only [HT.lexLt]
  by_cases h : a = c
  · subst h
    simp
    try (by_cases k : b < d <;> simp [k] <;> omega)
  · simp [h]
theorem crs_small {x1 y1 x2 y2 x3 y3 : Int} (h1 : -40 ≤ x1 ∧ x1 ≤ 40 ∧ -40 ≤ y1 ∧ y1 ≤ 40) (h2 : -40 ≤ x2 ∧ x2 ≤ 40 ∧ -40 ≤ y2 ∧ y2 ≤ 40) (h3 : -40 ≤ x3 ∧ x3 ≤ 40 ∧ -40 ≤ y3 ∧ y3 ≤ 40) : -12800 ≤ crs x1 y1 x2 y2 x3 y3 ∧ crs x1 y1 x2 y2 x3 y3 ≤ 12800 := by
  have key : ∀ a b : Int, -80 ≤ a → a ≤ 80 → -80 ≤ b → b ≤ 80 → -6400 ≤ a * b ∧ a * b ≤ 6400 := fun a b ha ha' hb hb' => by
    have e : (a * b).natAbs = a.natAbs * b.natAbs := Int.natAbs_mul a b
    have e2 : a.natAbs * b.natAbs ≤ 80 * 80 := Nat.mul_le_mul (by omega) (by omega)
    omega
  unfold crs
  have k1 := key (x2 - x1) (y3 - y1) (by omega) (by omega) (by omega) (by omega)
  have k2 := key (y2 - y1) (x3 - x1) (by omega) (by omega) (by omega) (by omega)
  omega
end DM

namespace DM
open PySem L2
theorem dp_ints {K : PySem.W.Frag} {H : Hp} {p : Addr} {x y : Int} (h : H p = some (.lst [.int x, .int y])) : Dp K H (.ref p) (.list [.int x, .int y]) := .lst (SqL.of h) (.cons (.int x) (.cons (.int y) .nil))
theorem eqv_ints (a b c d : Int) : PyData.eqv (.list [.int a, .int b]) (.list [.int c, .int d]) = decide (a = c ∧ b = d) := by
  simp only [PyData.eqv, PyData.eqvAll, Bool.and_true, Bool.decide_and]
  rfl
theorem shaped_ints (a b : Int) : SeqAt.shaped (.list [.int a, .int b]) = true := by
  first | rfl | simp [SeqAt.shaped, PyData.canLay0, PyData.depth]
section
variable {P : Program} {w : World} {K : PySem.W.Frag} {mg : Str → Option Value} {base : Heap} {f : Addr} {fd : FuncData}
abbrev s_meet : Stmt := top 22
theorem sc_meet : FnScope ["_law_one", "_law_other", "_law_ends", "_law_left", "_law_right", "_law_low_here", "_law_high", "_law_whole", "_law_x"] ["_law_one", "_law_other"] (defScope s_meet) := ⟨rfl, rfl, rfl, by decide +kernel, rfl, by decide +kernel, by decide +kernel⟩
theorem ok_meet (B : Blt mg) (c_cross : Cal P w K mg base 1 "_law_cross" ["_law_one", "_law_two", "_law_three"] (spCross K)) (c_low : Cal P w K mg base 2 "_law_low" ["_law_over", "_law_under"] spLowN) (F : Fun K "_law_meet" "_law_meet" s_meet f fd) : FnOk P w K mg base CX0 3 f fd ["_law_one", "_law_other"] spMeet := by
  refine F.ok sc_meet (fun vs H Q E h => ?_) (fun cdv A outer s H vs Q E hr h => ?_)
  · obtain ⟨p, q, x1, y1, x2, y2, u1, v1, u2, v2, rfl, _⟩ := h
    rfl
  obtain ⟨p, o, x1, y1, x2, y2, u1, v1, u2, v2, rfl, hS, hT, q⟩ := h
  have hp := hS.1
  have ho := hT.1
  have bs := hS.2.1
  have bt := hT.2.1
  refine ⟨_, (pss_cons (ps_set (i := 2) sc_meet.nd rfl (Or.inl rfl) (pe_lst (pa_cons (pe_slice sl_tup (pv 0) po_none (po_some pe_int)) (pa_cons (pe_slice sl_tup (pv 0) (po_some pe_int) po_none) (pa_cons (pe_slice sl_tup (pv 1) po_none (po_some pe_int)) (pa_cons (pe_slice sl_tup (pv 1) (po_some pe_int) po_none) pa_nil))))))
    (pss_cons (ps_set (i := 3) sc_meet.nd rfl (Or.inl rfl) (pe_lst (pa_cons (pe_cal c_cross hr (pa_cons (pe_ix ix_list (pv 2) pe_int (fun _ _ => rfl)) (pa_cons (pe_ix ix_list (pv 2) pe_int (fun _ _ => rfl)) (pa_cons (pe_ix ix_list (pv 2) pe_int (fun _ _ => rfl)) pa_nil)))) (pa_cons (pe_cal c_cross hr (pa_cons (pe_ix ix_list (pv 2) pe_int (fun _ _ => rfl)) (pa_cons (pe_ix ix_list (pv 2) pe_int (fun _ _ => rfl)) (pa_cons (pe_ix ix_list (pv 2) pe_int (fun _ _ => rfl)) pa_nil)))) pa_nil))))
    (pss_cons (ps_set (i := 4) sc_meet.nd rfl (Or.inl rfl) (pe_lst (pa_cons (pe_cal c_cross hr (pa_cons (pe_ix ix_list (pv 2) pe_int (fun _ _ => rfl)) (pa_cons (pe_ix ix_list (pv 2) pe_int (fun _ _ => rfl)) (pa_cons (pe_ix ix_list (pv 2) pe_int (fun _ _ => rfl)) pa_nil)))) (pa_cons (pe_cal c_cross hr (pa_cons (pe_ix ix_list (pv 2) pe_int (fun _ _ => rfl)) (pa_cons (pe_ix ix_list (pv 2) pe_int (fun _ _ => rfl)) (pa_cons (pe_ix ix_list (pv 2) pe_int (fun _ _ => rfl)) pa_nil)))) pa_nil))))
    (pss_cons (ps_if (pt_cmpR (op_eqD hr.units) (pv 3) (pe_lst (pa_cons pe_int (pa_cons pe_int pa_nil))) (nomark _))
    (pss_cons (ps_set (i := 5) sc_meet.nd rfl (Or.inl rfl) (pe_callB (cr_max2 rfl hr.units) rfl B.max bt_max (pa_cons (pe_callB (cr_min2 rfl hr.units) rfl B.min bt_min (pa_cons (pe_ix ix_list (pv 2) pe_int (fun _ _ => rfl)) (pa_cons (pe_ix ix_list (pv 2) pe_int (fun _ _ => rfl)) pa_nil))) (pa_cons (pe_callB (cr_min2 rfl hr.units) rfl B.min bt_min (pa_cons (pe_ix ix_list (pv 2) pe_int (fun _ _ => rfl)) (pa_cons (pe_ix ix_list (pv 2) pe_int (fun _ _ => rfl)) pa_nil))) pa_nil))))
    (pss_cons (ps_set (i := 6) sc_meet.nd rfl (Or.inl rfl) (pe_callB (cr_min2 rfl hr.units) rfl B.min bt_min (pa_cons (pe_callB (cr_max2 rfl hr.units) rfl B.max bt_max (pa_cons (pe_ix ix_list (pv 2) pe_int (fun _ _ => rfl)) (pa_cons (pe_ix ix_list (pv 2) pe_int (fun _ _ => rfl)) pa_nil))) (pa_cons (pe_callB (cr_max2 rfl hr.units) rfl B.max bt_max (pa_cons (pe_ix ix_list (pv 2) pe_int (fun _ _ => rfl)) (pa_cons (pe_ix ix_list (pv 2) pe_int (fun _ _ => rfl)) pa_nil))) pa_nil))))
    (pss_cons (ps_if (pt_cmpR (op_ltT hr.units0) (pv 5) (pv 6) (nomark _))
    (pss_one (ps_ret (pe_tup (pa_cons pe_str (pa_cons (pv 5) (pa_cons (pv 6) pa_nil))))))
    pss_nil)
    (pss_one (ps_ret (pe_ifExp (pt_cmpR (op_eqD hr.units) (pv 5) (pv 6) (nomark _)) (pe_tup (pa_cons pe_str (pa_cons (pe_tup (pa_cons (pe_tup (pa_cons (pe_ix ix_tup (pv 5) pe_int (fun _ _ => rfl)) (pa_cons pe_int pa_nil))) (pa_cons (pe_tup (pa_cons (pe_ix ix_tup (pv 5) pe_int (fun _ _ => rfl)) (pa_cons pe_int pa_nil))) pa_nil))) pa_nil))) pe_non))))))
    pss_nil)
    (pss_cons (ps_if (PW.pt (pw_or (pt_cmpR op_gt (pe_op op_mul (pe_ix ix_list (pv 3) pe_int (fun _ _ => rfl)) (pe_ix ix_list (pv 3) pe_int (fun _ _ => rfl))) pe_int (nomark _)) (pw_or1 (pt_cmpR op_gt (pe_op op_mul (pe_ix ix_list (pv 4) pe_int (fun _ _ => rfl)) (pe_ix ix_list (pv 4) pe_int (fun _ _ => rfl))) pe_int (nomark _)))))
    (pss_one (ps_ret pe_non))
    pss_nil)
    (pss_cons (ps_set (i := 7) sc_meet.nd rfl (Or.inl rfl) (pe_op op_sub (pe_ix ix_list (pv 3) pe_int (fun _ _ => rfl)) (pe_ix ix_list (pv 3) pe_int (fun _ _ => rfl))))
    (pss_cons (ps_set (i := 8) sc_meet.nd rfl (Or.inl rfl) (pe_cal c_low hr (pa_cons (pe_op op_add (pe_op op_mul (pe_ix ix_tup (pv 1) pe_int (fun _ _ => rfl)) (pv 7)) (pe_op op_mul (pe_op op_sub (pe_ix ix_tup (pv 1) pe_int (fun _ _ => rfl)) (pe_ix ix_tup (pv 1) pe_int (fun _ _ => rfl))) (pe_ix ix_list (pv 3) pe_int (fun _ _ => rfl)))) (pa_cons (pv 7) pa_nil))))
    (pss_one (ps_ret (pe_tup (pa_cons pe_str (pa_cons (pe_tup (pa_cons (pv 8) (pa_cons (pe_cal c_low hr (pa_cons (pe_op op_add (pe_op op_mul (pe_ix ix_tup (pv 1) pe_int (fun _ _ => rfl)) (pv 7)) (pe_op op_mul (pe_op op_sub (pe_ix ix_tup (pv 1) pe_int (fun _ _ => rfl)) (pe_ix ix_tup (pv 1) pe_int (fun _ _ => rfl))) (pe_ix ix_list (pv 3) pe_int (fun _ _ => rfl)))) (pa_cons (pv 7) pa_nil))) pa_nil))) pa_nil)))))))))))), ?_⟩
  -- the four ends
  refine ⟨_, rfl, _, rfl, p, _, rfl, SqT.of hp, (fun z => absurd z.2 (by show ¬ (2 = 4); decide)), fun e0 n0 => ?_⟩
  have g0 := same_new n0 (.tup [.int x1, .int y1])
  refine ⟨_, rfl, _, rfl, p, _, rfl, SqT.of (g0 _ _ hp), (fun z => absurd z.1 (by show ¬ (2 = 0); decide)), fun e1 n1 => ?_⟩
  have g1 := same_new n1 (.tup [.int x2, .int y2])
  refine ⟨_, rfl, _, rfl, o, _, rfl, SqT.of (g1 _ _ (g0 _ _ ho)), (fun z => absurd z.2 (by show ¬ (2 = 4); decide)), fun e2 n2 => ?_⟩
  have g2 := same_new n2 (.tup [.int u1, .int v1])
  refine ⟨_, rfl, _, rfl, o, _, rfl, SqT.of (g2 _ _ (g1 _ _ (g0 _ _ ho))), (fun z => absurd z.1 (by show ¬ (2 = 0); decide)), fun e3 n3 => ?_⟩
  have g3 := same_new n3 (.tup [.int u2, .int v2])
  refine ⟨sz (by decide : 4 ≤ 100000), fun el nl => ?_⟩
  have gl := same_new nl (.lst [.ref e0, .ref e1, .ref e2, .ref e3])
  have k0 : Pt _ e0 x1 y1 := ⟨gl _ _ (g3 _ _ (g2 _ _ (g1 _ _ upd_same))), by omega⟩
  have k1 : Pt _ e1 x2 y2 := ⟨gl _ _ (g3 _ _ (g2 _ _ upd_same)), by omega⟩
  have k2 : Pt _ e2 u1 v1 := ⟨gl _ _ (g3 _ _ upd_same), by omega⟩
  have k3 : Pt _ e3 u2 v2 := ⟨gl _ _ upd_same, by omega⟩
  have kl := new_at gl
  have gA := g0.trans (g1.trans (g2.trans (g3.trans gl)))
  have ho := gA _ _ ho
  -- sides
  refine ⟨_, rfl, el, _, _, _, rfl, rfl, SqL.of kl, rfl, _, rfl, el, _, _, _, rfl, rfl, SqL.of kl, rfl, _, rfl, el, _, _, _, rfl, rfl, SqL.of kl, rfl, e0, e1, e2, x1, y1, x2, y2, u1, v1, rfl, k0, k1, k2, ?_⟩
  refine ⟨_, rfl, el, _, _, _, rfl, rfl, SqL.of kl, rfl, _, rfl, el, _, _, _, rfl, rfl, SqL.of kl, rfl, _, rfl, el, _, _, _, rfl, rfl, SqL.of kl, rfl, e0, e1, e3, x1, y1, x2, y2, u2, v2, rfl, k0, k1, k3, ?_⟩
  refine ⟨sz (by decide : 2 ≤ 100000), fun ll nll => ?_⟩
  have gll := same_new nll (.lst [.int (crs x1 y1 x2 y2 u1 v1), .int (crs x1 y1 x2 y2 u2 v2)])
  have c0 := k0.same gll
  have c1 := k1.same gll
  have c2 := k2.same gll
  have c3 := k3.same gll
  have cl := gll _ _ kl
  refine ⟨_, rfl, el, _, _, _, rfl, rfl, SqL.of cl, rfl, _, rfl, el, _, _, _, rfl, rfl, SqL.of cl, rfl, _, rfl, el, _, _, _, rfl, rfl, SqL.of cl, rfl, e2, e3, e0, u1, v1, u2, v2, x1, y1, rfl, c2, c3, c0, ?_⟩
  refine ⟨_, rfl, el, _, _, _, rfl, rfl, SqL.of cl, rfl, _, rfl, el, _, _, _, rfl, rfl, SqL.of cl, rfl, _, rfl, el, _, _, _, rfl, rfl, SqL.of cl, rfl, e2, e3, e1, u1, v1, u2, v2, x2, y2, rfl, c2, c3, c1, ?_⟩
  refine ⟨sz (by decide : 2 ≤ 100000), fun rl nrl => ?_⟩
  have grl := same_new nrl (.lst [.int (crs u1 v1 u2 v2 x1 y1), .int (crs u1 v1 u2 v2 x2 y2)])
  have hll := grl _ _ (new_at gll)
  have hrl := new_at grl
  have f0 := c0.same grl
  have f1 := c1.same grl
  have f2 := c2.same grl
  have f3 := c3.same grl
  have fl := grl _ _ cl
  have ho := grl _ _ (gll _ _ ho)
  have gB := gA.trans (gll.trans grl)
  have b0 := crs_small (x1 := x1) (y1 := y1) (x2 := x2) (y2 := y2) (x3 := u1) (y3 := v1) (by omega) (by omega) (by omega)
  have b1 := crs_small (x1 := x1) (y1 := y1) (x2 := x2) (y2 := y2) (x3 := u2) (y3 := v2) (by omega) (by omega) (by omega)
  have b2 := crs_small (x1 := u1) (y1 := v1) (x2 := u2) (y2 := v2) (x3 := x1) (y3 := y1) (by omega) (by omega) (by omega)
  unfold meetL at q
  dsimp only at q
  -- on one line?
  refine ⟨_, rfl, sz (by decide : 2 ≤ 100000), fun zl nzl => ?_⟩
  have gz := same_new nzl (.lst [.int 0, .int 0])
  refine ⟨_, _, dp_ints (gz _ _ hll), dp_ints upd_same, shaped_ints _ _, shaped_ints _ _, _, rfl, ?_⟩
  rw [eqv_ints]
  have i0 := f0.same gz
  have i1 := f1.same gz
  have i2 := f2.same gz
  have i3 := f3.same gz
  have il := gz _ _ fl
  have hll := gz _ _ hll
  have hrl := gz _ _ hrl
  have ho := gz _ _ ho
  have gC := gB.trans gz
  by_cases c : crs x1 y1 x2 y2 u1 v1 = 0 ∧ crs x1 y1 x2 y2 u2 v2 = 0
  · refine iteDT c ?_
    rw [if_pos c] at q
    refine ⟨_, rfl, el, _, _, _, rfl, rfl, SqL.of il, rfl, _, rfl, el, _, _, _, rfl, rfl, SqL.of il, rfl, e0, e1, x1, y1, x2, y2, rfl, SqT.of i0.1, SqT.of i1.1, ?_⟩
    refine ⟨_, rfl, el, _, _, _, rfl, rfl, SqL.of il, rfl, _, rfl, el, _, _, _, rfl, rfl, SqL.of il, rfl, e2, e3, u1, v1, u2, v2, rfl, SqT.of i2.1, SqT.of i3.1, ?_⟩
    have m1 := min_at (a := (x1, y1)) (b := (x2, y2)) i0.1 i1.1
    have m2 := min_at (a := (u1, v1)) (b := (u2, v2)) i2.1 i3.1
    have M1 := max_at (a := (x1, y1)) (b := (x2, y2)) i0.1 i1.1
    have M2 := max_at (a := (u1, v1)) (b := (u2, v2)) i2.1 i3.1
    refine ⟨_, _, _, _, _, _, rfl, SqT.of m1, SqT.of m2, ?_⟩
    have hlo := max_at m1 m2
    refine ⟨_, rfl, el, _, _, _, rfl, rfl, SqL.of il, rfl, _, rfl, el, _, _, _, rfl, rfl, SqL.of il, rfl, e0, e1, x1, y1, x2, y2, rfl, SqT.of i0.1, SqT.of i1.1, ?_⟩
    refine ⟨_, rfl, el, _, _, _, rfl, rfl, SqL.of il, rfl, _, rfl, el, _, _, _, rfl, rfl, SqL.of il, rfl, e2, e3, u1, v1, u2, v2, rfl, SqT.of i2.1, SqT.of i3.1, ?_⟩
    refine ⟨_, _, _, _, _, _, rfl, SqT.of M1, SqT.of M2, ?_⟩
    have hhi := min_at M1 M2
    generalize maxP (minP (x1, y1) (x2, y2)) (minP (u1, v1) (u2, v2)) = lo at *
    generalize minP (maxP (x1, y1) (x2, y2)) (maxP (u1, v1) (u2, v2)) = hi at *
    refine ⟨_, rfl, _, rfl, _, _, [lo.1, lo.2], [hi.1, hi.2], rfl, rfl, SqT.of hlo, SqT.of hhi, _, rfl, ?_⟩
    rw [lex_pair]
    by_cases d : ltP lo.1 lo.2 hi.1 hi.2
    · refine iteDT d ?_
      rw [if_pos d] at q
      refine ⟨_, rfl, _, rfl, sz (by decide : 3 ≤ 100000), fun r nr => ?_⟩
      exact q (.ref r) _ (gC.trans (same_new nr _)) ⟨r, _, _, rfl, upd_same, same_new nr _ _ _ hlo, same_new nr _ _ _ hhi⟩
    · refine iteDF d ?_
      rw [if_neg d] at q
      refine ⟨_, rfl, _, rfl, _, _, dp_pair hlo, dp_pair hhi, shaped_pair _ _, shaped_pair _ _, _, rfl, ?_⟩
      rw [eqv_pair]
      by_cases d' : lo.1 = hi.1 ∧ lo.2 = hi.2
      · refine iteDT d' ?_
        rw [if_pos d'] at q
        refine ⟨_, rfl, _, _, _, _, rfl, rfl, SqT.of hlo, rfl, sz (by decide : 2 ≤ 100000), fun r1 n1 => ?_⟩
        refine ⟨_, rfl, _, _, _, _, rfl, rfl, SqT.of (same_new n1 _ _ _ hlo), rfl, sz (by decide : 2 ≤ 100000), fun r2 n2 => ?_⟩
        refine ⟨sz (by decide : 2 ≤ 100000), fun r3 n3 => ⟨sz (by decide : 2 ≤ 100000), fun r4 n4 => ?_⟩⟩
        exact q (.ref r4) _ (gC.trans ((same_new n1 _).trans ((same_new n2 _).trans ((same_new n3 _).trans (same_new n4 _))))) ⟨r4, r3, r1, r2, rfl, upd_same, same_new n4 _ _ _ upd_same, same_new n4 _ _ _ (same_new n3 _ _ _ (same_new n2 _ _ _ upd_same)), same_new n4 _ _ _ (same_new n3 _ _ _ upd_same)⟩
      · refine iteDF d' ?_
        rw [if_neg d'] at q
        exact q _ _ gC rfl
  · refine iteDF c ?_
    rw [if_neg c] at q
    refine ⟨_, rfl, ll, _, _, _, rfl, rfl, SqL.of hll, rfl, _, rfl, ll, _, _, _, rfl, rfl, SqL.of hll, rfl, _, _, rfl, rfl, .inl ⟨by omega, by omega⟩, _, _, rfl, rfl, _, rfl, ?_⟩
    by_cases d1 : crs x1 y1 x2 y2 u1 v1 * crs x1 y1 x2 y2 u2 v2 > 0
    · refine iteDT d1 (iteT ?_)
      rw [if_pos (Or.inl d1)] at q
      exact q _ _ gC rfl
    · refine iteDF d1 ?_
      refine ⟨_, rfl, rl, _, _, _, rfl, rfl, SqL.of hrl, rfl, _, rfl, rl, _, _, _, rfl, rfl, SqL.of hrl, rfl, _, _, rfl, rfl, .inl ⟨by omega, by omega⟩, _, _, rfl, rfl, _, rfl, ?_⟩
      by_cases d2 : crs u1 v1 u2 v2 x1 y1 * crs u1 v1 u2 v2 x2 y2 > 0
      · refine iteDT d2 ?_
        rw [if_pos (Or.inr d2)] at q
        exact q _ _ gC rfl
      · refine iteDF d2 ?_
        rw [if_neg (fun z => z.elim d1 d2)] at q
        generalize crs x1 y1 x2 y2 u1 v1 = l0 at *
        generalize crs x1 y1 x2 y2 u2 v2 = l1 at *
        have hw : l0 - l1 ≠ 0 := fun z => by
          have e : l0 = l1 := by omega
          subst e
          by_cases y : l0 = 0
          · exact c ⟨y, y⟩
          · rcases Int.lt_or_lt_of_ne y with y | y
            · exact d1 (Int.mul_pos_of_neg_of_neg y y)
            · exact d1 (Int.mul_pos y y)
        have hwb : (l0 - l1).natAbs ≤ 1000000000 := by omega
        refine ⟨_, rfl, ll, _, _, _, rfl, rfl, SqL.of hll, rfl, _, rfl, ll, _, _, _, rfl, rfl, SqL.of hll, rfl, _, _, rfl, rfl, ?_⟩
        refine ⟨_, rfl, o, _, _, _, rfl, rfl, SqT.of ho, rfl, _, rfl, _, _, rfl, rfl, .inl ⟨by omega, by omega⟩, _, rfl, o, _, _, _, rfl, rfl, SqT.of ho, rfl, _, rfl, o, _, _, _, rfl, rfl, SqT.of ho, rfl, _, _, rfl, rfl, _, rfl, ll, _, _, _, rfl, rfl, SqL.of hll, rfl, _, _, rfl, rfl, .inl ⟨by omega, by omega⟩, _, _, rfl, rfl, _, rfl, _, _, rfl, hw, hwb, fun px H3 s3 h3 => ?_⟩
        have ho3 := s3 _ _ ho
        have hll3 := s3 _ _ hll
        refine ⟨_, rfl, _, rfl, o, _, _, _, rfl, rfl, SqT.of ho3, rfl, _, rfl, _, _, rfl, rfl, .inl ⟨by omega, by omega⟩, _, rfl, o, _, _, _, rfl, rfl, SqT.of ho3, rfl, _, rfl, o, _, _, _, rfl, rfl, SqT.of ho3, rfl, _, _, rfl, rfl, _, rfl, ll, _, _, _, rfl, rfl, SqL.of hll3, rfl, _, _, rfl, rfl, .inl ⟨by omega, by omega⟩, _, _, rfl, rfl, _, rfl, _, _, rfl, hw, hwb, fun py H4 s4 h4 => ?_⟩
        refine ⟨sz (by decide : 2 ≤ 100000), fun r3 n3 => ⟨sz (by decide : 2 ≤ 100000), fun r4 n4 => ?_⟩⟩
        exact q (.ref r4) _ (gC.trans (s3.trans (s4.trans ((same_new n3 _).trans (same_new n4 _))))) ⟨r4, r3, px, py, rfl, upd_same, same_new n4 _ _ _ upd_same, same_new n4 _ _ _ (same_new n3 _ _ _ (s4 _ _ h3)), same_new n4 _ _ _ (same_new n3 _ _ _ h4)⟩
end
end DM

namespace DM
/-! ### either way about, turned about -/
theorem minP_comm (p q : Int × Int) : minP p q = minP q p := by
  obtain ⟨a, b⟩ := p
  obtain ⟨c, d⟩ := q
  unfold minP; dsimp only
  by_cases h1 : ltP c d a b
  · rw [if_pos h1, if_neg (show ¬ ltP a b c d by unfold ltP at *; omega)]
  · rw [if_neg h1]
    by_cases h2 : ltP a b c d
    · rw [if_pos h2]
    · rw [if_neg h2]
      unfold ltP at h1 h2
      rw [show a = c by omega, show b = d by omega]
theorem maxP_comm (p q : Int × Int) : maxP p q = maxP q p := by
  obtain ⟨a, b⟩ := p
  obtain ⟨c, d⟩ := q
  unfold maxP; dsimp only
  by_cases h1 : ltP a b c d
  · rw [if_pos h1, if_neg (show ¬ ltP c d a b by unfold ltP at *; omega)]
  · rw [if_neg h1]
    by_cases h2 : ltP c d a b
    · rw [if_pos h2]
    · rw [if_neg h2]
      unfold ltP at h1 h2
      rw [show a = c by omega, show b = d by omega]
theorem line_swap {x1 y1 x2 y2 u1 v1 u2 v2 : Int} (hne : ¬ (x1 = x2 ∧ y1 = y2)) (h0 : crs x1 y1 x2 y2 u1 v1 = 0) (h1 : crs x1 y1 x2 y2 u2 v2 = 0) : crs u1 v1 u2 v2 x1 y1 = 0 ∧ crs u1 v1 u2 v2 x2 y2 = 0 := by
  have key : (u2 - x1) * (v1 - y1) - (v2 - y1) * (u1 - x1) = 0 := by
    unfold crs at h0 h1
    have hab : ¬ (x2 - x1 = 0 ∧ y2 - y1 = 0) := fun z => hne (by omega)
    generalize x2 - x1 = a at *
    generalize y2 - y1 = b at *
    generalize u1 - x1 = s at *
    generalize v1 - y1 = t at *
    generalize u2 - x1 = m at *
    generalize v2 - y1 = n at *
    have e0 : a * t = b * s := by omega
    have e1 : a * n = b * m := by omega
    by_cases ha : a = 0
    · subst ha
      rw [Int.zero_mul] at e0 e1
      have hb : b ≠ 0 := fun z => hab ⟨rfl, z⟩
      have s0 : s = 0 := (Int.mul_eq_zero.mp e0.symm).resolve_left hb
      have m0 : m = 0 := (Int.mul_eq_zero.mp e1.symm).resolve_left hb
      rw [s0, m0, Int.zero_mul, Int.mul_zero]
      rfl
    · have k : a * (m * t - n * s) = 0 := by
        rw [Int.mul_sub]
        have f1 : a * (m * t) = m * (a * t) := by simp only [Int.mul_left_comm]
        have f2 : a * (n * s) = (a * n) * s := by rw [Int.mul_assoc]
        rw [f1, f2, e0, e1]
        have f3 : m * (b * s) = b * m * s := by rw [Int.mul_left_comm, Int.mul_assoc]
        omega
      exact (Int.mul_eq_zero.mp k).resolve_left ha
  have r0 : crs u1 v1 u2 v2 x1 y1 = 0 := by
    have e : crs u1 v1 u2 v2 x1 y1 = - ((u2 - x1) * (v1 - y1) - (v2 - y1) * (u1 - x1)) := by
      unfold crs
      simp only [Int.sub_mul, Int.mul_sub, Int.mul_comm]
      omega
    rw [e, key]
    rfl
  refine ⟨r0, ?_⟩
  have e : crs u1 v1 u2 v2 x2 y2 = crs u1 v1 u2 v2 x1 y1 + crs x1 y1 x2 y2 u1 v1 - crs x1 y1 x2 y2 u2 v2 := by
    unfold crs
    simp only [Int.sub_mul, Int.mul_sub, Int.mul_comm]
    omega
  rw [e, r0, h0, h1]
  rfl
theorem w_ne {l0 l1 : Int} (c : ¬ (l0 = 0 ∧ l1 = 0)) (d : ¬ l0 * l1 > 0) : l0 - l1 ≠ 0 := fun z => by
  have e : l0 = l1 := by omega
  subst e
  by_cases y : l0 = 0
  · exact c ⟨y, y⟩
  · rcases Int.lt_or_lt_of_ne y with y | y
    · exact d (Int.mul_pos_of_neg_of_neg y y)
    · exact d (Int.mul_pos y y)
/-- the same place from either stroke -/
theorem cross_x (x1 y1 x2 y2 u1 v1 u2 v2 : Int) : (x1 * (crs u1 v1 u2 v2 x1 y1 - crs u1 v1 u2 v2 x2 y2) + (x2 - x1) * crs u1 v1 u2 v2 x1 y1) = - (u1 * (crs x1 y1 x2 y2 u1 v1 - crs x1 y1 x2 y2 u2 v2) + (u2 - u1) * crs x1 y1 x2 y2 u1 v1) := by
  unfold crs
  simp only [Int.sub_mul, Int.mul_sub, Int.mul_assoc, Int.mul_comm, Int.mul_left_comm]
  omega
theorem cross_y (x1 y1 x2 y2 u1 v1 u2 v2 : Int) : (y1 * (crs u1 v1 u2 v2 x1 y1 - crs u1 v1 u2 v2 x2 y2) + (y2 - y1) * crs u1 v1 u2 v2 x1 y1) = - (v1 * (crs x1 y1 x2 y2 u1 v1 - crs x1 y1 x2 y2 u2 v2) + (v2 - v1) * crs x1 y1 x2 y2 u1 v1) := by
  unfold crs
  simp only [Int.sub_mul, Int.mul_sub, Int.mul_assoc, Int.mul_comm, Int.mul_left_comm]
  omega
theorem cross_w (x1 y1 x2 y2 u1 v1 u2 v2 : Int) : crs u1 v1 u2 v2 x1 y1 - crs u1 v1 u2 v2 x2 y2 = - (crs x1 y1 x2 y2 u1 v1 - crs x1 y1 x2 y2 u2 v2) := by
  unfold crs
  simp only [Int.sub_mul, Int.mul_sub, Int.mul_comm]
  omega
theorem meet_swap {x1 y1 x2 y2 u1 v1 u2 v2 : Int} (hne : ¬ (x1 = x2 ∧ y1 = y2)) (hne' : ¬ (u1 = u2 ∧ v1 = v2)) : meetL u1 v1 u2 v2 x1 y1 x2 y2 = meetL x1 y1 x2 y2 u1 v1 u2 v2 := by
  unfold meetL
  dsimp only
  by_cases c : crs x1 y1 x2 y2 u1 v1 = 0 ∧ crs x1 y1 x2 y2 u2 v2 = 0
  · rw [if_pos c, if_pos (line_swap hne c.1 c.2), maxP_comm (minP (u1, v1) (u2, v2)), minP_comm (maxP (u1, v1) (u2, v2))]
  · have c' : ¬ (crs u1 v1 u2 v2 x1 y1 = 0 ∧ crs u1 v1 u2 v2 x2 y2 = 0) := fun z => c (line_swap hne' z.1 z.2)
    rw [if_neg c, if_neg c']
    by_cases d : crs x1 y1 x2 y2 u1 v1 * crs x1 y1 x2 y2 u2 v2 > 0 ∨ crs u1 v1 u2 v2 x1 y1 * crs u1 v1 u2 v2 x2 y2 > 0
    · rw [if_pos d, if_pos d.symm]
    · rw [if_neg d, if_neg (fun z => d z.symm)]
      have w0 := w_ne c (fun z => d (.inl z))
      rw [cross_x x1 y1 x2 y2 u1 v1 u2 v2, cross_y x1 y1 x2 y2 u1 v1 u2 v2, cross_w x1 y1 x2 y2 u1 v1 u2 v2]
      have n1 := low_neg (u1 * (crs x1 y1 x2 y2 u1 v1 - crs x1 y1 x2 y2 u2 v2) + (u2 - u1) * crs x1 y1 x2 y2 u1 v1) _ w0
      have n2 := low_neg (v1 * (crs x1 y1 x2 y2 u1 v1 - crs x1 y1 x2 y2 u2 v2) + (v2 - v1) * crs x1 y1 x2 y2 u1 v1) _ w0
      rw [n1.1, n1.2, n2.1, n2.2]
theorem crs_rev (x1 y1 x2 y2 u v : Int) : crs x2 y2 x1 y1 u v = - crs x1 y1 x2 y2 u v := by
  unfold crs
  simp only [Int.sub_mul, Int.mul_sub, Int.mul_comm]
  omega
theorem meet_rev (x1 y1 x2 y2 u1 v1 u2 v2 : Int) : meetL x2 y2 x1 y1 u1 v1 u2 v2 = meetL x1 y1 x2 y2 u1 v1 u2 v2 := by
  unfold meetL
  dsimp only
  rw [crs_rev, crs_rev x1 y1 x2 y2 u2 v2, minP_comm (x2, y2), maxP_comm (x2, y2)]
  by_cases c : crs x1 y1 x2 y2 u1 v1 = 0 ∧ crs x1 y1 x2 y2 u2 v2 = 0
  · rw [if_pos c, if_pos (by omega)]
  · rw [if_neg c, if_neg (by omega), Int.neg_mul_neg, Int.mul_comm (crs u1 v1 u2 v2 x2 y2)]
    by_cases d : crs x1 y1 x2 y2 u1 v1 * crs x1 y1 x2 y2 u2 v2 > 0 ∨ crs u1 v1 u2 v2 x1 y1 * crs u1 v1 u2 v2 x2 y2 > 0
    · rw [if_pos d, if_pos d]
    · rw [if_neg d, if_neg d]
      have w0 := w_ne c (fun z => d (.inl z))
      have e : ∀ a b : Int, a * (-crs x1 y1 x2 y2 u1 v1 - -crs x1 y1 x2 y2 u2 v2) + b * -crs x1 y1 x2 y2 u1 v1 = -(a * (crs x1 y1 x2 y2 u1 v1 - crs x1 y1 x2 y2 u2 v2) + b * crs x1 y1 x2 y2 u1 v1) := fun a b => by
        rw [show -crs x1 y1 x2 y2 u1 v1 - -crs x1 y1 x2 y2 u2 v2 = -(crs x1 y1 x2 y2 u1 v1 - crs x1 y1 x2 y2 u2 v2) by omega, Int.mul_neg, Int.mul_neg]
        omega
      rw [e, e, show -crs x1 y1 x2 y2 u1 v1 - -crs x1 y1 x2 y2 u2 v2 = -(crs x1 y1 x2 y2 u1 v1 - crs x1 y1 x2 y2 u2 v2) by omega]
      have n1 := low_neg (u1 * (crs x1 y1 x2 y2 u1 v1 - crs x1 y1 x2 y2 u2 v2) + (u2 - u1) * crs x1 y1 x2 y2 u1 v1) _ w0
      have n2 := low_neg (v1 * (crs x1 y1 x2 y2 u1 v1 - crs x1 y1 x2 y2 u2 v2) + (v2 - v1) * crs x1 y1 x2 y2 u1 v1) _ w0
      rw [n1.1, n1.2, n2.1, n2.2]
end DM

namespace DM
open PySem L2
/-! ### a def called with its defaults left out -/
def CalD (P : Program) (w : World) (K : PySem.W.Frag) (mg : Str → Option Value) (base : Heap) (k : Nat) (x : Str) (ps : List Str) (sp : Sp) (dvs : List V) : Prop :=
  ∃ (f : Addr) (fd : FuncData) (ds : List Value), FnOk P w K mg base CX0 k f fd ps sp ∧ Binds K fd ps ds ∧ Vals dvs ds ∧ PySem.W.keepIn K (.ref f) = true ∧ mg x = some (.ref f)
theorem pe_calD {X : Cx} {k k' : Nat} {x : Str} {ps : List Str} {sp : Sp} {dvs : List V} {e : Expr} {es : List Expr} {t : TA} {p pos : Pos} (C : CalD X.prog X.w X.K X.mg X.base k x ps sp dvs) (hr : Room k' X.A) (ha : PA X (e :: es) t)
    (hk : k ≤ k' := by decide) (hg : Gl X x := by rfl) (hdb : (x == ("__debug__" : Str)) = false := by decide) (he : starEach (e :: es) X.env = (false, eval e X.env) :: starEach es X.env := by rfl) (hpl : (backTo pos (starEach es X.env)).any (·.1) = false := by rfl) :
    PE X (.Call (.Name x p) (e :: es) [] pos) (tCall sp dvs E0 t) := by
  obtain ⟨f, fd, ds, F, b, v, kp, hm⟩ := C
  exact pe_call F (hr.mono hk) hg hm kp b v pass0 ha hdb he hpl
end DM

namespace DM
open PySem L2
section
variable {P : Program} {w : World} {K : PySem.W.Frag} {mg : Str → Option Value} {base : Heap} {f : Addr} {fd : FuncData}
abbrev s_common_measure : Stmt := top 4
theorem sc_common_measure : FnScope ["one", "other"] ["one", "other"] (defScope s_common_measure) := ⟨rfl, rfl, rfl, by decide +kernel, rfl, by decide +kernel, by decide +kernel⟩
theorem ok_common_measure (F : Fun K "common_measure" "common_measure" s_common_measure f fd) : FnOk P w K mg base CX0 1 f fd ["one", "other"] spGcd := by
  refine F.ok sc_common_measure (fun vs H Q E h => ?_) (fun cdv A outer s H vs Q E hr h => ?_)
  · obtain ⟨a, b, rfl, _⟩ := h
    rfl
  obtain ⟨a, b, rfl, ha, hb, q⟩ := h
  refine ⟨_, (pss_cons (ps_while PassesOwn.never (pt_cmpR op_ne (pv 1) pe_int (nomark _))
    (pss_one (ps_par (i := 0) (j := 1) (by rfl) sc_common_measure.nd rfl rfl (by decide) rfl rfl (pa_cons (pv 1) (pa_cons (pe_op op_mod (pv 0) (pv 1)) pa_nil)) (by rfl))))
    (pss_one (ps_ret (pv 0)))), ?_⟩
  refine while_by (fun σ H' => H' = H ∧ ∃ x y : Int, σ = [some (.int x), some (.int y)] ∧ 0 ≤ x ∧ 0 ≤ y ∧ Int.gcd x y = Int.gcd a b) (fun σ _ => match σ with | [_, some (.int y)] => y.toNat | _ => 0) ⟨rfl, a, b, rfl, ha, hb, rfl⟩ ?_ ?_
  · rintro σ H' ⟨rfl, x, y, rfl, hx, hy, hg⟩
    refine ⟨_, rfl, rfl, _, rfl, ?_⟩
    by_cases c : y = 0
    · subst c
      refine iteNS rfl ?_
      refine ⟨_, rfl, ?_⟩
      have e := gcd_end hx
      rw [hg] at e
      rw [e] at q
      exact q
    · have c' : ¬ V.int y = V.int 0 := fun z => c (V.int.inj z)
      have e1 : (!decide (V.int y = V.int 0)) = true := by rw [decide_eq_false c']; rfl
      refine if_pos' e1 ?_
      have hy' : 0 < y := by omega
      refine ⟨_, rfl, _, rfl, _, rfl, _, _, rfl, rfl, hy', _, _, rfl, ?_⟩
      refine ⟨⟨rfl, y, x % y, rfl, hy, Int.emod_nonneg _ c, ?_⟩, ?_⟩
      · rw [gcd_step hx hy']
        exact hg
      · show (x % y).toNat < y.toNat
        have := Int.emod_lt_of_pos x hy'
        omega
  · rintro σ H Q Q' hq ⟨v, h1, h2, k, h3, h4⟩
    exact ⟨v, h1, h2, k, h3, hq _ _ h4⟩
abbrev s_lowest : Stmt := top 5
theorem sc_lowest : FnScope ["over", "under", "measure"] ["over", "under"] (defScope s_lowest) := ⟨rfl, rfl, rfl, by decide +kernel, rfl, by decide +kernel, by decide +kernel⟩
theorem low_body (B : Blt mg) (c_common_measure : Cal P w K mg base 1 "common_measure" ["one", "other"] spGcd) {a b : Int} {cdv : Value} {A : Around} {outer : List Env} {s : Shared} {H : Hp} {Q : VK} {E : XK} (hr : Room 1 (A.deeper (PyProof.Rows.envOfC "lowest" (defScope s_lowest) s.heap.objs.size f cdv))) (hb0 : b ≠ 0) (hb1 : b.natAbs < 4611686018427387904)
    (q : ∀ (p : Addr) (H' : Hp), Same H H' → H' p = some (.tup [.int (lowA a b), .int (lowB a b)]) → Q (.ref p) H') :
    ∃ t, PSs (cxOf CX0 P w K mg base ["over", "under", "measure"] "lowest" (defScope s_lowest) f cdv A outer s H E).nox (defBody s_lowest) t ∧ t { nx := fun _ H' => Q .non H', rt := Q } (start ["over", "under", "measure"] [.int a, .int b]) H := by
  refine ⟨_, (pss_cons (ps_if (pt_cmpR op_eq (pv 1) pe_int (nomark _))
    (pss_one ps_never)
    pss_nil)
    (pss_cons (ps_if (pt_cmpR op_lt (pv 1) pe_int (nomark _))
    (pss_one (ps_par (i := 0) (j := 1) (by rfl) sc_lowest.nd rfl rfl (by decide) rfl rfl (pa_cons (pe_un un_neg (pv 0)) (pa_cons (pe_un un_neg (pv 1)) pa_nil)) (by rfl)))
    pss_nil)
    (pss_cons (ps_set (i := 2) sc_lowest.nd rfl (Or.inl rfl) (pe_cal c_common_measure hr (pa_cons (pe_callB call_abs rfl B.abs bt_abs (pa_cons (pv 0) pa_nil)) (pa_cons (pv 1) pa_nil))))
    (pss_one (ps_ret (pe_tup (pa_cons (pe_op op_fdivW (pv 0) (pv 2)) (pa_cons (pe_op op_fdivW (pv 1) (pv 2)) pa_nil)))))))), ?_⟩
  have c0 : ¬ V.int b = V.int 0 := fun z => hb0 (V.int.inj z)
  refine ⟨_, rfl, rfl, _, rfl, ?_⟩
  refine iteDF c0 ?_
  dsimp only [tNext]
  refine seq_with (fun σ' H' => H' = H ∧ σ' = [some (.int (if b < 0 then -a else a)), some (.int (if b < 0 then -b else b)), none]) (fun R hR => ?_) ?_
  · refine ⟨_, rfl, _, _, rfl, rfl, _, rfl, ?_⟩
    refine ite2 (fun c => ?_) (fun c => ?_)
    · have c' : b < 0 := of_decide_eq_true c
      refine ⟨_, rfl, _, rfl, _, rfl, _, rfl, _, _, rfl, hR _ _ ⟨rfl, ?_⟩⟩
      rw [if_pos c', if_pos c']
      rfl
    · have c' : ¬ b < 0 := of_decide_eq_false (Bool.eq_false_iff.mpr c)
      refine hR _ _ ⟨rfl, ?_⟩
      rw [if_neg c', if_neg c']
      rfl
  · rintro σ H' ⟨rfl, rfl⟩
    have h1 : 0 ≤ (if (if b < 0 then -a else a) < 0 then -(if b < 0 then -a else a) else (if b < 0 then -a else a)) := by split <;> omega
    have h2 : 0 ≤ (if b < 0 then -b else b) := by split <;> omega
    have e : Int.gcd (if (if b < 0 then -a else a) < 0 then -(if b < 0 then -a else a) else (if b < 0 then -a else a)) (if b < 0 then -b else b) = Int.gcd a b := by
      rw [gcd_abs1]
      split <;> simp only [Int.neg_gcd, Int.gcd_neg]
    refine ⟨_, rfl, _, rfl, _, rfl, _, _, rfl, h1, h2, ?_⟩
    refine ⟨_, rfl, _, rfl, _, _, rfl, rfl, ?_, _, rfl, _, rfl, _, _, rfl, rfl, ?_, sz (by decide : 2 ≤ 100000), fun p hp => ?_⟩
    · rw [e]; exact gcd_wide hb0 hb1
    · rw [e]; exact gcd_wide hb0 hb1
    · refine q p _ (same_new hp _) ?_
      rw [upd_same]
      unfold lowA lowB
      rw [e]
theorem ok_lowest (B : Blt mg) (c_common_measure : Cal P w K mg base 1 "common_measure" ["one", "other"] spGcd) {dvs : List V} {kws : List (Str × V)} (F : FunD K "lowest" "lowest" (defArgs s_lowest) (defBody s_lowest) (defScope s_lowest) dvs kws f fd) : FnOk P w K mg base CX0 2 f fd ["over", "under"] spLow := by
  refine F.ok sc_lowest (fun vs H Q E h => ?_) (fun cdv A outer s H vs Q E hr h => ?_)
  · obtain ⟨a, b, rfl, _⟩ := h
    rfl
  obtain ⟨a, b, rfl, hb0, hb1, q⟩ := h
  obtain ⟨t, z1, z2⟩ := low_body (P := P) (w := w) (base := base) B c_common_measure hr hb0 hb1 q
  exact ⟨t, z1.nox, z2⟩
end
end DM

namespace DM
/-! ### the program's own meeting, its mathematics -/
section
variable {x1 y1 x2 y2 u1 v1 u2 v2 : Int}
theorem mp_area (x1 y1 x2 y2 u1 v1 u2 v2 : Int) : (x2 - x1) * (v2 - v1) - (y2 - y1) * (u2 - u1) = crs u1 v1 u2 v2 x1 y1 - crs u1 v1 u2 v2 x2 y2 := by
  unfold crs
  simp only [Int.sub_mul, Int.mul_sub, Int.mul_comm]
  omega
theorem mp_one (x1 y1 u1 v1 u2 v2 : Int) : (u1 - x1) * (v2 - v1) - (v1 - y1) * (u2 - u1) = crs u1 v1 u2 v2 x1 y1 := by
  unfold crs
  simp only [Int.sub_mul, Int.mul_sub, Int.mul_comm]
  omega
theorem mp_other (x1 y1 x2 y2 u1 v1 : Int) : (u1 - x1) * (y2 - y1) - (v1 - y1) * (x2 - x1) = - crs x1 y1 x2 y2 u1 v1 := by
  unfold crs
  simp only [Int.sub_mul, Int.mul_sub, Int.mul_comm]
  omega
theorem line_same (h : (x2 - x1) * (v2 - v1) - (y2 - y1) * (u2 - u1) = 0) : crs x1 y1 x2 y2 u1 v1 = crs x1 y1 x2 y2 u2 v2 := by
  have a := mp_area x1 y1 x2 y2 u1 v1 u2 v2
  have b := cross_w x1 y1 x2 y2 u1 v1 u2 v2
  omega
theorem mp_apart (h : (x2 - x1) * (v2 - v1) - (y2 - y1) * (u2 - u1) = 0) (h' : (u1 - x1) * (y2 - y1) ≠ (v1 - y1) * (x2 - x1)) : meetL x1 y1 x2 y2 u1 v1 u2 v2 = .no := by
  have e := line_same h
  have e' := mp_other x1 y1 x2 y2 u1 v1
  have n : crs x1 y1 x2 y2 u1 v1 ≠ 0 := by omega
  have pos : crs x1 y1 x2 y2 u1 v1 * crs x1 y1 x2 y2 u2 v2 > 0 := by
    rw [← e]
    rcases Int.lt_or_lt_of_ne n with z | z
    · exact Int.mul_pos_of_neg_of_neg z z
    · exact Int.mul_pos z z
  unfold meetL
  dsimp only
  rw [if_neg (fun z => n z.1), if_pos (.inl pos)]
theorem mp_line (h : (x2 - x1) * (v2 - v1) - (y2 - y1) * (u2 - u1) = 0) (h' : (u1 - x1) * (y2 - y1) = (v1 - y1) * (x2 - x1)) : meetL x1 y1 x2 y2 u1 v1 u2 v2 =
    (if ltP (maxP (minP (x1, y1) (x2, y2)) (minP (u1, v1) (u2, v2))).1 (maxP (minP (x1, y1) (x2, y2)) (minP (u1, v1) (u2, v2))).2 (minP (maxP (x1, y1) (x2, y2)) (maxP (u1, v1) (u2, v2))).1 (minP (maxP (x1, y1) (x2, y2)) (maxP (u1, v1) (u2, v2))).2 then
      .along (maxP (minP (x1, y1) (x2, y2)) (minP (u1, v1) (u2, v2))).1 (maxP (minP (x1, y1) (x2, y2)) (minP (u1, v1) (u2, v2))).2 (minP (maxP (x1, y1) (x2, y2)) (maxP (u1, v1) (u2, v2))).1 (minP (maxP (x1, y1) (x2, y2)) (maxP (u1, v1) (u2, v2))).2
     else if (maxP (minP (x1, y1) (x2, y2)) (minP (u1, v1) (u2, v2))).1 = (minP (maxP (x1, y1) (x2, y2)) (maxP (u1, v1) (u2, v2))).1 ∧ (maxP (minP (x1, y1) (x2, y2)) (minP (u1, v1) (u2, v2))).2 = (minP (maxP (x1, y1) (x2, y2)) (maxP (u1, v1) (u2, v2))).2 then
      .pt (maxP (minP (x1, y1) (x2, y2)) (minP (u1, v1) (u2, v2))).1 1 (maxP (minP (x1, y1) (x2, y2)) (minP (u1, v1) (u2, v2))).2 1 else .no) := by
  have e := line_same h
  have e' := mp_other x1 y1 x2 y2 u1 v1
  unfold meetL
  dsimp only
  rw [if_pos ⟨by omega, by omega⟩]
theorem sides_of {a b : Int} (h : 0 < b - a) : ¬ a * b > 0 ↔ a ≤ 0 ∧ 0 ≤ b := by
  constructor
  · intro n
    constructor
    · rcases Int.lt_or_le 0 a with z | z
      · exact absurd (Int.mul_pos z (by omega)) n
      · exact z
    · rcases Int.lt_or_le b 0 with z | z
      · exact absurd (Int.mul_pos_of_neg_of_neg (by omega) z) n
      · exact z
  · rintro ⟨h1, h2⟩ h3
    have := Int.mul_nonpos_of_nonpos_of_nonneg h1 h2
    omega
/-- O, T, A: how far along each, of how much; A above nought -/
theorem mp_cross {A O T : Int} (hA : 0 < A) (h : (A = crs u1 v1 u2 v2 x1 y1 - crs u1 v1 u2 v2 x2 y2 ∧ O = crs u1 v1 u2 v2 x1 y1 ∧ T = - crs x1 y1 x2 y2 u1 v1) ∨ (A = -(crs u1 v1 u2 v2 x1 y1 - crs u1 v1 u2 v2 x2 y2) ∧ O = -crs u1 v1 u2 v2 x1 y1 ∧ T = crs x1 y1 x2 y2 u1 v1)) :
    meetL x1 y1 x2 y2 u1 v1 u2 v2 = if 0 ≤ O ∧ O ≤ A ∧ 0 ≤ T ∧ T ≤ A then .pt (lowA (x1 * A + O * (x2 - x1)) A) (lowB (x1 * A + O * (x2 - x1)) A) (lowA (y1 * A + O * (y2 - y1)) A) (lowB (y1 * A + O * (y2 - y1)) A) else .no := by
  have w := cross_w x1 y1 x2 y2 u1 v1 u2 v2
  have cx := cross_x x1 y1 x2 y2 u1 v1 u2 v2
  have cy := cross_y x1 y1 x2 y2 u1 v1 u2 v2
  unfold meetL
  dsimp only
  generalize crs x1 y1 x2 y2 u1 v1 = l0 at *
  generalize crs x1 y1 x2 y2 u2 v2 = l1 at *
  generalize crs u1 v1 u2 v2 x1 y1 = r0 at *
  generalize crs u1 v1 u2 v2 x2 y2 = r1 at *
  have n0 : l0 - l1 ≠ 0 := by omega
  rw [if_neg (show ¬ (l0 = 0 ∧ l1 = 0) by omega)]
  have ex : ∀ a b : Int, a * A + O * (b - a) = a * A + (b - a) * O := fun a b => by rw [Int.mul_comm O]
  rw [ex, ex]
  rcases h with ⟨eA, eO, eT⟩ | ⟨eA, eO, eT⟩
  · have s1 := sides_of (a := l0) (b := l1) (by omega)
    have s2 := sides_of (a := r1) (b := r0) (by omega)
    rw [Int.mul_comm] at s2
    by_cases d : l0 * l1 > 0 ∨ r0 * r1 > 0
    · rw [if_pos d, if_neg (by omega)]
    · rw [if_neg d, if_pos (by omega)]
      rw [eO, eA, cx, cy, w]
      have a1 := low_neg (u1 * (l0 - l1) + (u2 - u1) * l0) (l0 - l1) n0
      have a2 := low_neg (v1 * (l0 - l1) + (v2 - v1) * l0) (l0 - l1) n0
      rw [a1.1, a1.2, a2.1, a2.2]
  · have s1 := sides_of (a := l1) (b := l0) (by omega)
    have s2 := sides_of (a := r0) (b := r1) (by omega)
    rw [Int.mul_comm] at s1
    by_cases d : l0 * l1 > 0 ∨ r0 * r1 > 0
    · rw [if_pos d, if_neg (by omega)]
    · rw [if_neg d, if_pos (by omega)]
      have k : ∀ a b : Int, a * -(r0 - r1) + (b - a) * -r0 = -(a * (r0 - r1) + (b - a) * r0) := fun a b => by rw [Int.mul_neg, Int.mul_neg]; omega
      rw [eO, eA, k, k, cx, cy, w, Int.neg_neg, Int.neg_neg, Int.neg_neg]
theorem low_whole (a : Int) : lowA a 1 = a ∧ lowB a 1 = 1 := by
  unfold lowA lowB
  rw [if_neg (by decide), if_neg (by decide), Int.gcd_one_right]
  exact ⟨Int.ediv_one a, rfl⟩
end
end DM

namespace DM
open PySem L2
section
variable {X : Cx}
def rGtP (K : PySem.W.Frag) : R2 := fun x y H Q => ∃ (p q : Addr) (a b c d : Int), x = .ref p ∧ y = .ref q ∧ SqT K H p [.int a, .int b] ∧ SqT K H q [.int c, .int d] ∧ Q (.bl (decide (ltP c d a b))) H
theorem op_gtP (hu : X.A.units + 64 < cLine) : OpR X (compareOp .Gt) (rGtP X.K) := by
  intro pins s σ H x y v u Q I rx ry want
  obtain ⟨p, q, a, b, c, d, rfl, rfl, hp, hq, last⟩ := want
  cases (show v = Value.ref p from rx)
  cases (show u = Value.ref q from ry)
  refine PySem.W.gt_datum (α := Int × Int) (x := (a, b)) (y := (c, d)) (held_pair I hp) (held_pair I hq) (Nat.lt_of_le_of_lt (by show X.A.units + 1 ≤ X.A.units + 64; omega) hu) ?_
  rw [lt_pair]
  exact ⟨.bl _, H, I, rfl, last⟩
end
def spLine : Sp := fun vs H Q _ => ∃ (p q : Addr) (x1 y1 x2 y2 u1 v1 u2 v2 : Int), vs = [.ref p, .ref q] ∧ Stk H p x1 y1 x2 y2 ∧ Stk H q u1 v1 u2 v2 ∧ (x2 - x1) * (v2 - v1) - (y2 - y1) * (u2 - u1) = 0 ∧ ∀ (r : V) (H' : Hp), Same H H' → MetAt H' r (meetL x1 y1 x2 y2 u1 v1 u2 v2) → Q r H'
section
variable {P : Program} {w : World} {K : PySem.W.Frag} {mg : Str → Option Value} {base : Heap} {f : Addr} {fd : FuncData}
abbrev s_meet_in_line : Stmt := top 8
theorem sc_meet_in_line : FnScope ["one", "other", "x1", "y1", "x2", "y2", "x3", "y3", "x4", "y4", "begin", "end"] ["one", "other"] (defScope s_meet_in_line) := ⟨rfl, rfl, rfl, by decide +kernel, rfl, by decide +kernel, by decide +kernel⟩
theorem ok_meet_in_line (B : Blt mg) (d_lowest : CalD P w K mg base 2 "lowest" ["over", "under"] spLow [.int 1]) (F : Fun K "meet_in_line" "meet_in_line" s_meet_in_line f fd) : FnOk P w K mg base CX0 3 f fd ["one", "other"] spLine := by
  refine F.ok sc_meet_in_line (fun vs H Q E h => ?_) (fun cdv A outer s H vs Q E hr h => ?_)
  · obtain ⟨p, q, x1, y1, x2, y2, u1, v1, u2, v2, rfl, _⟩ := h
    rfl
  obtain ⟨p, o, x1, y1, x2, y2, u1, v1, u2, v2, rfl, hS, hT, h0, q⟩ := h
  have hp := hS.1
  have ho := hT.1
  have bs := hS.2.1
  have bt := hT.2.1
  refine ⟨_, (pss_cons (ps_asg (pv 0) (pg_tup rfl (pgs_cons (pg_name (i := 2) sc_meet_in_line.nd rfl (Or.inl rfl)) (pgs_cons (pg_name (i := 3) sc_meet_in_line.nd rfl (Or.inl rfl)) (pgs_cons (pg_name (i := 4) sc_meet_in_line.nd rfl (Or.inl rfl)) (pgs_cons (pg_name (i := 5) sc_meet_in_line.nd rfl (Or.inl rfl)) pgs_nil))))))
    (pss_cons (ps_asg (pv 1) (pg_tup rfl (pgs_cons (pg_name (i := 6) sc_meet_in_line.nd rfl (Or.inl rfl)) (pgs_cons (pg_name (i := 7) sc_meet_in_line.nd rfl (Or.inl rfl)) (pgs_cons (pg_name (i := 8) sc_meet_in_line.nd rfl (Or.inl rfl)) (pgs_cons (pg_name (i := 9) sc_meet_in_line.nd rfl (Or.inl rfl)) pgs_nil))))))
    (pss_cons (ps_if (pt_cmpR op_ne (pe_op op_mul (pe_op op_sub (pv 6) (pv 2)) (pe_op op_sub (pv 5) (pv 3))) (pe_op op_mul (pe_op op_sub (pv 7) (pv 3)) (pe_op op_sub (pv 4) (pv 2))) (nomark _))
    (pss_one (ps_ret pe_non))
    pss_nil)
    (pss_cons (ps_set (i := 10) sc_meet_in_line.nd rfl (Or.inl rfl) (pe_callB (cr_max2 rfl hr.units) rfl B.max bt_max (pa_cons (pe_callB (cr_min2 rfl hr.units) rfl B.min bt_min (pa_cons (pe_tup (pa_cons (pv 2) (pa_cons (pv 3) pa_nil))) (pa_cons (pe_tup (pa_cons (pv 4) (pa_cons (pv 5) pa_nil))) pa_nil))) (pa_cons (pe_callB (cr_min2 rfl hr.units) rfl B.min bt_min (pa_cons (pe_tup (pa_cons (pv 6) (pa_cons (pv 7) pa_nil))) (pa_cons (pe_tup (pa_cons (pv 8) (pa_cons (pv 9) pa_nil))) pa_nil))) pa_nil))))
    (pss_cons (ps_set (i := 11) sc_meet_in_line.nd rfl (Or.inl rfl) (pe_callB (cr_min2 rfl hr.units) rfl B.min bt_min (pa_cons (pe_callB (cr_max2 rfl hr.units) rfl B.max bt_max (pa_cons (pe_tup (pa_cons (pv 2) (pa_cons (pv 3) pa_nil))) (pa_cons (pe_tup (pa_cons (pv 4) (pa_cons (pv 5) pa_nil))) pa_nil))) (pa_cons (pe_callB (cr_max2 rfl hr.units) rfl B.max bt_max (pa_cons (pe_tup (pa_cons (pv 6) (pa_cons (pv 7) pa_nil))) (pa_cons (pe_tup (pa_cons (pv 8) (pa_cons (pv 9) pa_nil))) pa_nil))) pa_nil))))
    (pss_cons (ps_if (pt_cmpR (op_gtP hr.units) (pv 10) (pv 11) (nomark _))
    (pss_one (ps_ret pe_non))
    pss_nil)
    (pss_cons (ps_if (pt_cmpR (op_eqD hr.units) (pv 10) (pv 11) (nomark _))
    (pss_one (ps_ret (pe_tup (pa_cons pe_str (pa_cons (pe_tup (pa_cons (pe_calD d_lowest hr (pa_cons (pe_ix ix_tup (pv 10) pe_int (fun _ _ => rfl)) pa_nil)) (pa_cons (pe_calD d_lowest hr (pa_cons (pe_ix ix_tup (pv 10) pe_int (fun _ _ => rfl)) pa_nil)) pa_nil))) pa_nil)))))
    pss_nil)
    (pss_one (ps_ret (pe_tup (pa_cons pe_str (pa_cons (pv 10) (pa_cons (pv 11) pa_nil))))))))))))), ?_⟩
  refine seq_with (fun σ' H' => H = H' ∧ σ' = [some (.ref p), some (.ref o), some (.int x1), some (.int y1), some (.int x2), some (.int y2), none, none, none, none, none, none]) (fun R hR => ⟨_, rfl, p, _, rfl, SqT.of hp, rfl, _, _, rfl, _, _, rfl, _, _, rfl, _, _, rfl, rfl, hR _ _ ⟨rfl, rfl⟩⟩) ?_
  rintro _ _ ⟨rfl, rfl⟩
  refine seq_with (fun σ' H' => H = H' ∧ σ' = [some (.ref p), some (.ref o), some (.int x1), some (.int y1), some (.int x2), some (.int y2), some (.int u1), some (.int v1), some (.int u2), some (.int v2), none, none]) (fun R hR => ⟨_, rfl, o, _, rfl, SqT.of ho, rfl, _, _, rfl, _, _, rfl, _, _, rfl, _, _, rfl, rfl, hR _ _ ⟨rfl, rfl⟩⟩) ?_
  rintro _ _ ⟨rfl, rfl⟩
  refine ⟨_, rfl, _, rfl, _, _, rfl, rfl, _, rfl, _, rfl, _, _, rfl, rfl, _, _, rfl, rfl, .inl ⟨by omega, by omega⟩, ?_⟩
  refine ⟨_, rfl, _, rfl, _, _, rfl, rfl, _, rfl, _, rfl, _, _, rfl, rfl, _, _, rfl, rfl, .inl ⟨by omega, by omega⟩, rfl, _, rfl, ?_⟩
  by_cases c : (u1 - x1) * (y2 - y1) = (v1 - y1) * (x2 - x1)
  · refine iteNS (congrArg V.int c) ?_
    rw [mp_line h0 c] at q
    -- begin
    refine ⟨_, rfl, _, rfl, sz (by decide : 2 ≤ 100000), fun e0 n0 => ?_⟩
    have g0 := same_new n0 (.tup [.int x1, .int y1])
    refine ⟨_, rfl, _, rfl, sz (by decide : 2 ≤ 100000), fun e1 n1 => ?_⟩
    have g1 := same_new n1 (.tup [.int x2, .int y2])
    have i0 := g1 _ _ (new_at g0)
    have i1 := new_at g1
    refine ⟨e0, e1, x1, y1, x2, y2, rfl, SqT.of i0, SqT.of i1, ?_⟩
    have m1 := min_at (a := (x1, y1)) (b := (x2, y2)) i0 i1
    refine ⟨_, rfl, _, rfl, sz (by decide : 2 ≤ 100000), fun e2 n2 => ?_⟩
    have g2 := same_new n2 (.tup [.int u1, .int v1])
    refine ⟨_, rfl, _, rfl, sz (by decide : 2 ≤ 100000), fun e3 n3 => ?_⟩
    have g3 := same_new n3 (.tup [.int u2, .int v2])
    have i2 := g3 _ _ (new_at g2)
    have i3 := new_at g3
    refine ⟨e2, e3, u1, v1, u2, v2, rfl, SqT.of i2, SqT.of i3, ?_⟩
    have m2 := min_at (a := (u1, v1)) (b := (u2, v2)) i2 i3
    have m1 := g3 _ _ (g2 _ _ m1)
    refine ⟨_, _, _, _, _, _, rfl, SqT.of m1, SqT.of m2, ?_⟩
    have hlo := max_at m1 m2
    have gA := g0.trans (g1.trans (g2.trans g3))
    -- end
    refine ⟨_, rfl, _, rfl, sz (by decide : 2 ≤ 100000), fun e4 n4 => ?_⟩
    have g4 := same_new n4 (.tup [.int x1, .int y1])
    refine ⟨_, rfl, _, rfl, sz (by decide : 2 ≤ 100000), fun e5 n5 => ?_⟩
    have g5 := same_new n5 (.tup [.int x2, .int y2])
    have i4 := g5 _ _ (new_at g4)
    have i5 := new_at g5
    refine ⟨e4, e5, x1, y1, x2, y2, rfl, SqT.of i4, SqT.of i5, ?_⟩
    have M1 := max_at (a := (x1, y1)) (b := (x2, y2)) i4 i5
    refine ⟨_, rfl, _, rfl, sz (by decide : 2 ≤ 100000), fun e6 n6 => ?_⟩
    have g6 := same_new n6 (.tup [.int u1, .int v1])
    refine ⟨_, rfl, _, rfl, sz (by decide : 2 ≤ 100000), fun e7 n7 => ?_⟩
    have g7 := same_new n7 (.tup [.int u2, .int v2])
    have i6 := g7 _ _ (new_at g6)
    have i7 := new_at g7
    refine ⟨e6, e7, u1, v1, u2, v2, rfl, SqT.of i6, SqT.of i7, ?_⟩
    have M2 := max_at (a := (u1, v1)) (b := (u2, v2)) i6 i7
    have M1 := g7 _ _ (g6 _ _ M1)
    refine ⟨_, _, _, _, _, _, rfl, SqT.of M1, SqT.of M2, ?_⟩
    have hhi := min_at M1 M2
    have gB := g4.trans (g5.trans (g6.trans g7))
    have hlo := gB _ _ hlo
    have gC := gA.trans gB
    generalize maxP (minP (x1, y1) (x2, y2)) (minP (u1, v1) (u2, v2)) = lo at *
    generalize minP (maxP (x1, y1) (x2, y2)) (maxP (u1, v1) (u2, v2)) = hi at *
    refine ⟨_, rfl, _, rfl, _, _, lo.1, lo.2, hi.1, hi.2, rfl, rfl, SqT.of hlo, SqT.of hhi, _, rfl, ?_⟩
    by_cases d : ltP hi.1 hi.2 lo.1 lo.2
    · refine iteDT d ?_
      rw [if_neg (show ¬ ltP lo.1 lo.2 hi.1 hi.2 by unfold ltP at *; omega), if_neg (show ¬ (lo.1 = hi.1 ∧ lo.2 = hi.2) by unfold ltP at *; omega)] at q
      exact q _ _ gC rfl
    · refine iteDF d ?_
      refine ⟨_, rfl, _, rfl, _, _, dp_pair hlo, dp_pair hhi, shaped_pair _ _, shaped_pair _ _, _, rfl, ?_⟩
      rw [eqv_pair]
      by_cases d' : lo.1 = hi.1 ∧ lo.2 = hi.2
      · refine iteDT d' ?_
        rw [if_neg (show ¬ ltP lo.1 lo.2 hi.1 hi.2 by unfold ltP at *; omega), if_pos d'] at q
        refine ⟨_, rfl, _, _, _, _, rfl, rfl, SqT.of hlo, rfl, lo.1, 1, rfl, by decide, by decide, fun r1 H1 s1 h1 => ?_⟩
        refine ⟨_, rfl, _, _, _, _, rfl, rfl, SqT.of (s1 _ _ hlo), rfl, lo.2, 1, rfl, by decide, by decide, fun r2 H2 s2 h2 => ?_⟩
        rw [(low_whole lo.1).1, (low_whole lo.1).2] at h1
        rw [(low_whole lo.2).1, (low_whole lo.2).2] at h2
        refine ⟨sz (by decide : 2 ≤ 100000), fun r3 n3 => ⟨sz (by decide : 2 ≤ 100000), fun r4 n4 => ?_⟩⟩
        exact q (.ref r4) _ (gC.trans (s1.trans (s2.trans ((same_new n3 _).trans (same_new n4 _))))) ⟨r4, r3, r1, r2, rfl, upd_same, same_new n4 _ _ _ upd_same, same_new n4 _ _ _ (same_new n3 _ _ _ (s2 _ _ h1)), same_new n4 _ _ _ (same_new n3 _ _ _ h2)⟩
      · refine iteDF d' ?_
        rw [if_pos (show ltP lo.1 lo.2 hi.1 hi.2 by unfold ltP at *; omega)] at q
        refine ⟨_, rfl, _, rfl, sz (by decide : 3 ≤ 100000), fun r nr => ?_⟩
        exact q (.ref r) _ (gC.trans (same_new nr _)) ⟨r, _, _, rfl, upd_same, same_new nr _ _ _ hlo, same_new nr _ _ _ hhi⟩
  · refine if_pos' (by rw [decide_eq_false (fun z => c (V.int.inj z))]; rfl) ?_
    rw [mp_apart h0 c] at q
    exact q _ _ (Same.refl H) rfl
abbrev s_p_meet : Stmt := top 7
theorem sc_p_meet : FnScope ["one", "other", "x1", "y1", "x2", "y2", "x3", "y3", "x4", "y4", "area", "along_one", "along_other", "x", "y"] ["one", "other"] (defScope s_p_meet) := ⟨rfl, rfl, rfl, by decide +kernel, rfl, by decide +kernel, by decide +kernel⟩
theorem ok_p_meet (c_lowest : Cal P w K mg base 2 "lowest" ["over", "under"] spLow) (c_meet_in_line : Cal P w K mg base 3 "meet_in_line" ["one", "other"] spLine) (F : Fun K "meet" "meet" s_p_meet f fd) : FnOk P w K mg base CX0 4 f fd ["one", "other"] spMeet := by
  refine F.ok sc_p_meet (fun vs H Q E h => ?_) (fun cdv A outer s H vs Q E hr h => ?_)
  · obtain ⟨p, q, x1, y1, x2, y2, u1, v1, u2, v2, rfl, _⟩ := h
    rfl
  obtain ⟨p, o, x1, y1, x2, y2, u1, v1, u2, v2, rfl, hS, hT, q⟩ := h
  have hp := hS.1
  have ho := hT.1
  have bs := hS.2.1
  have bt := hT.2.1
  refine ⟨_, (pss_cons (ps_asg (pv 0) (pg_tup rfl (pgs_cons (pg_name (i := 2) sc_p_meet.nd rfl (Or.inl rfl)) (pgs_cons (pg_name (i := 3) sc_p_meet.nd rfl (Or.inl rfl)) (pgs_cons (pg_name (i := 4) sc_p_meet.nd rfl (Or.inl rfl)) (pgs_cons (pg_name (i := 5) sc_p_meet.nd rfl (Or.inl rfl)) pgs_nil))))))
    (pss_cons (ps_asg (pv 1) (pg_tup rfl (pgs_cons (pg_name (i := 6) sc_p_meet.nd rfl (Or.inl rfl)) (pgs_cons (pg_name (i := 7) sc_p_meet.nd rfl (Or.inl rfl)) (pgs_cons (pg_name (i := 8) sc_p_meet.nd rfl (Or.inl rfl)) (pgs_cons (pg_name (i := 9) sc_p_meet.nd rfl (Or.inl rfl)) pgs_nil))))))
    (pss_cons (ps_set (i := 10) sc_p_meet.nd rfl (Or.inl rfl) (pe_op op_sub (pe_op op_mul (pe_op op_sub (pv 4) (pv 2)) (pe_op op_sub (pv 9) (pv 7))) (pe_op op_mul (pe_op op_sub (pv 5) (pv 3)) (pe_op op_sub (pv 8) (pv 6)))))
    (pss_cons (ps_if (pt_cmpR op_eq (pv 10) pe_int (nomark _))
    (pss_one (ps_ret (pe_cal c_meet_in_line hr (pa_cons (pv 0) (pa_cons (pv 1) pa_nil)))))
    pss_nil)
    (pss_cons (ps_set (i := 11) sc_p_meet.nd rfl (Or.inl rfl) (pe_op op_sub (pe_op op_mul (pe_op op_sub (pv 6) (pv 2)) (pe_op op_sub (pv 9) (pv 7))) (pe_op op_mul (pe_op op_sub (pv 7) (pv 3)) (pe_op op_sub (pv 8) (pv 6)))))
    (pss_cons (ps_set (i := 12) sc_p_meet.nd rfl (Or.inl rfl) (pe_op op_sub (pe_op op_mul (pe_op op_sub (pv 6) (pv 2)) (pe_op op_sub (pv 5) (pv 3))) (pe_op op_mul (pe_op op_sub (pv 7) (pv 3)) (pe_op op_sub (pv 4) (pv 2)))))
    (pss_cons (ps_if (pt_cmpR op_lt (pv 10) pe_int (nomark _))
    (pss_one (ps_par3 (i := 10) (j := 11) (l := 12) (by rfl) sc_p_meet.nd rfl rfl rfl (by decide) (by decide) (by decide) rfl rfl rfl (pa_cons (pe_un un_neg (pv 10)) (pa_cons (pe_un un_neg (pv 11)) (pa_cons (pe_un un_neg (pv 12)) pa_nil))) (by rfl)))
    pss_nil)
    (pss_cons (ps_if (pt_not (PW.pt (pw_and (pt_chain op_le op_le pe_int (pv 11) (pv 10)) (pw_and1 (pt_chain op_le op_le pe_int (pv 12) (pv 10))))))
    (pss_one (ps_ret pe_non))
    pss_nil)
    (pss_cons (ps_set (i := 13) sc_p_meet.nd rfl (Or.inl rfl) (pe_cal c_lowest hr (pa_cons (pe_op op_add (pe_op op_mul (pv 2) (pv 10)) (pe_op op_mul (pv 11) (pe_op op_sub (pv 4) (pv 2)))) (pa_cons (pv 10) pa_nil))))
    (pss_cons (ps_set (i := 14) sc_p_meet.nd rfl (Or.inl rfl) (pe_cal c_lowest hr (pa_cons (pe_op op_add (pe_op op_mul (pv 3) (pv 10)) (pe_op op_mul (pv 11) (pe_op op_sub (pv 5) (pv 3)))) (pa_cons (pv 10) pa_nil))))
    (pss_one (ps_ret (pe_tup (pa_cons pe_str (pa_cons (pe_tup (pa_cons (pv 13) (pa_cons (pv 14) pa_nil))) pa_nil))))))))))))))), ?_⟩
  refine seq_with (fun σ' H' => H = H' ∧ σ' = [some (.ref p), some (.ref o), some (.int x1), some (.int y1), some (.int x2), some (.int y2), none, none, none, none, none, none, none, none, none]) (fun R hR => ⟨_, rfl, p, _, rfl, SqT.of hp, rfl, _, _, rfl, _, _, rfl, _, _, rfl, _, _, rfl, rfl, hR _ _ ⟨rfl, rfl⟩⟩) ?_
  rintro _ _ ⟨rfl, rfl⟩
  refine seq_with (fun σ' H' => H = H' ∧ σ' = [some (.ref p), some (.ref o), some (.int x1), some (.int y1), some (.int x2), some (.int y2), some (.int u1), some (.int v1), some (.int u2), some (.int v2), none, none, none, none, none]) (fun R hR => ⟨_, rfl, o, _, rfl, SqT.of ho, rfl, _, _, rfl, _, _, rfl, _, _, rfl, _, _, rfl, rfl, hR _ _ ⟨rfl, rfl⟩⟩) ?_
  rintro _ _ ⟨rfl, rfl⟩
  refine ⟨_, rfl, _, rfl, _, _, rfl, rfl, _, rfl, _, rfl, _, _, rfl, rfl, _, _, rfl, rfl, .inl ⟨by omega, by omega⟩, ?_⟩
  refine ⟨_, rfl, _, rfl, _, _, rfl, rfl, _, rfl, _, rfl, _, _, rfl, rfl, _, _, rfl, rfl, .inl ⟨by omega, by omega⟩, _, _, rfl, rfl, ?_⟩
  refine ⟨_, rfl, rfl, _, rfl, ?_⟩
  by_cases c : (x2 - x1) * (v2 - v1) - (y2 - y1) * (u2 - u1) = 0
  · refine iteDT (congrArg V.int c) ?_
    exact ⟨_, rfl, _, rfl, p, o, x1, y1, x2, y2, u1, v1, u2, v2, rfl, hS, hT, c, q⟩
  refine iteDF (fun z => c (V.int.inj z)) ?_
  refine ⟨_, rfl, _, rfl, _, _, rfl, rfl, _, rfl, _, rfl, _, _, rfl, rfl, _, _, rfl, rfl, .inl ⟨by omega, by omega⟩, ?_⟩
  refine ⟨_, rfl, _, rfl, _, _, rfl, rfl, _, rfl, _, rfl, _, _, rfl, rfl, _, _, rfl, rfl, .inl ⟨by omega, by omega⟩, _, _, rfl, rfl, ?_⟩
  refine ⟨_, rfl, _, rfl, _, _, rfl, rfl, _, rfl, _, rfl, _, _, rfl, rfl, _, _, rfl, rfl, .inl ⟨by omega, by omega⟩, ?_⟩
  refine ⟨_, rfl, _, rfl, _, _, rfl, rfl, _, rfl, _, rfl, _, _, rfl, rfl, _, _, rfl, rfl, .inl ⟨by omega, by omega⟩, _, _, rfl, rfl, ?_⟩
  have k1 := crs_small (x1 := u1) (y1 := v1) (x2 := u2) (y2 := v2) (x3 := x1) (y3 := y1) (by omega) (by omega) (by omega)
  have k2 := crs_small (x1 := u1) (y1 := v1) (x2 := u2) (y2 := v2) (x3 := x2) (y3 := y2) (by omega) (by omega) (by omega)
  have z1 := mp_area x1 y1 x2 y2 u1 v1 u2 v2
  have z2 := mp_one x1 y1 u1 v1 u2 v2
  have z3 := mp_other x1 y1 x2 y2 u1 v1
  dsimp only [gName, tNext]
  refine seq_with (fun σ' H' => H' = H ∧ ∃ A O T : Int, σ' = [some (.ref p), some (.ref o), some (.int x1), some (.int y1), some (.int x2), some (.int y2), some (.int u1), some (.int v1), some (.int u2), some (.int v2), some (.int A), some (.int O), some (.int T), none, none] ∧ 0 < A ∧ A ≤ 25600 ∧ -25600 ≤ O ∧ O ≤ 25600 ∧ ((A = crs u1 v1 u2 v2 x1 y1 - crs u1 v1 u2 v2 x2 y2 ∧ O = crs u1 v1 u2 v2 x1 y1 ∧ T = - crs x1 y1 x2 y2 u1 v1) ∨ (A = -(crs u1 v1 u2 v2 x1 y1 - crs u1 v1 u2 v2 x2 y2) ∧ O = -crs u1 v1 u2 v2 x1 y1 ∧ T = crs x1 y1 x2 y2 u1 v1))) (fun R hR => ?_) ?_
  · refine ⟨_, rfl, _, _, rfl, rfl, _, rfl, ?_⟩
    by_cases d : (x2 - x1) * (v2 - v1) - (y2 - y1) * (u2 - u1) < 0
    · refine iteDT d ?_
      refine ⟨_, rfl, _, rfl, _, rfl, _, rfl, _, rfl, _, rfl, _, _, _, rfl, hR _ _ ⟨rfl, _, _, _, rfl, by omega, by omega, by omega, by omega, .inr ⟨by omega, by omega, by omega⟩⟩⟩
    · refine iteDF d ?_
      exact hR _ _ ⟨rfl, _, _, _, rfl, by omega, by omega, by omega, by omega, .inl ⟨by omega, by omega, by omega⟩⟩
  · rintro σ H' ⟨rfl, A, O, T, rfl, hA, hA', hO, hO', hc⟩
    rw [mp_cross hA hc] at q
    refine ⟨_, rfl, _, _, rfl, rfl, _, rfl, ?_⟩
    by_cases d1 : 0 ≤ O
    · refine iteDT d1 ?_
      refine ⟨_, rfl, _, _, rfl, rfl, _, rfl, ?_⟩
      by_cases d2 : O ≤ A
      · refine iteDT d2 ?_
        refine ⟨_, rfl, _, _, rfl, rfl, _, rfl, ?_⟩
        by_cases d3 : 0 ≤ T
        · refine iteDT d3 ?_
          refine ⟨_, rfl, _, _, rfl, rfl, _, rfl, ?_⟩
          by_cases d4 : T ≤ A
          · refine iteNS d4 ?_
            rw [if_pos ⟨d1, d2, d3, d4⟩] at q
            refine ⟨_, rfl, _, rfl, _, _, rfl, rfl, .inl ⟨by omega, by omega⟩, _, rfl, _, rfl, _, rfl, _, _, rfl, rfl, _, _, rfl, rfl, .inl ⟨by omega, by omega⟩, _, _, rfl, rfl, _, rfl, _, A, rfl, by omega, by omega, fun px H1 s1 h1 => ?_⟩
            refine ⟨_, rfl, _, rfl, _, _, rfl, rfl, .inl ⟨by omega, by omega⟩, _, rfl, _, rfl, _, rfl, _, _, rfl, rfl, _, _, rfl, rfl, .inl ⟨by omega, by omega⟩, _, _, rfl, rfl, _, rfl, _, A, rfl, by omega, by omega, fun py H2 s2 h2 => ?_⟩
            refine ⟨_, rfl, _, rfl, sz (by decide : 2 ≤ 100000), fun r3 n3 => ⟨sz (by decide : 2 ≤ 100000), fun r4 n4 => ?_⟩⟩
            exact q (.ref r4) _ (s1.trans (s2.trans ((same_new n3 _).trans (same_new n4 _)))) ⟨r4, r3, px, py, rfl, upd_same, same_new n4 _ _ _ upd_same, same_new n4 _ _ _ (same_new n3 _ _ _ (s2 _ _ h1)), same_new n4 _ _ _ (same_new n3 _ _ _ h2)⟩
          · refine if_pos' (by rw [decide_eq_false d4]; rfl) ?_
            rw [if_neg (fun z => d4 z.2.2.2)] at q
            exact q _ _ (Same.refl _) rfl
        · refine iteDF d3 ?_
          rw [if_neg (fun z => d3 z.2.2.1)] at q
          exact ⟨_, rfl, iteT (q _ _ (Same.refl _) rfl)⟩
      · refine iteDF d2 ?_
        rw [if_neg (fun z => d2 z.2.1)] at q
        exact q _ _ (Same.refl _) rfl
    · refine iteDF d1 ?_
      rw [if_neg (fun z => d1 z.1)] at q
      exact ⟨_, rfl, iteF (q _ _ (Same.refl _) rfl)⟩
end
end DM

namespace DM
open PySem L2
section
variable {P : Program} {w : World} {K : PySem.W.Frag} {mg : Str → Option Value} {base : Heap} {f : Addr} {fd : FuncData}
abbrev s_law : Stmt := top 23
theorem sc_law : FnScope ["_law_script", "_law_bag_here", "_law_turn", "_law_base_here", "_law_wide", "_law_one", "_law_other", "_law_due"] ["_law_script"] (defScope s_law) := ⟨rfl, rfl, rfl, by decide +kernel, rfl, by decide +kernel, by decide +kernel⟩
theorem ok_law (B : Blt mg) (c_bag : Cal P w K mg base 1 "_law_bag" ["_law_script"] (spBag K)) (c_pull : Cal P w K mg base 1 "_law_pull" ["_law_bag_here", "_law_amount"] spPull) (c_of : Cal P w K mg base 2 "_law_of" ["_law_bag_here", "_law_things"] spOf) (c_like : Cal P w K mg base 5 "_law_like" ["_law_found", "_law_due"] (spLike 4)) (c_base : Cal P w K mg base 3 "_law_base" ["_law_bag_here"] spBase)
    (c_stroke : Cal P w K mg base 3 "_law_stroke" ["_law_bag_here", "_law_base_here", "_law_wide"] spStroke) (c_beside : Cal P w K mg base 4 "_law_beside" ["_law_bag_here", "_law_base_here", "_law_wide", "_law_some"] spBeside) (c_meet : Cal P w K mg base 3 "_law_meet" ["_law_one", "_law_other"] spMeet) (c_p_meet : Cal P w K mg base 4 "meet" ["one", "other"] spMeet) (F : Fun K "law" "law" s_law f fd) : FnOk P w K mg base CX0 6 f fd ["_law_script"] (spLaw K) := by
  refine F.ok sc_law (fun vs H Q E h => ?_) (fun cdv A outer s H vs Q E hr h => ?_)
  · obtain ⟨a, ns, rfl, _⟩ := h
    rfl
  obtain ⟨a, ns, rfl, hS, h63, q⟩ := h
  refine ⟨_, (pss_cons (ps_set (i := 1) sc_law.nd rfl (Or.inl rfl) (pe_cal c_bag hr (pa_cons (pv 0) pa_nil)))
    (pss_cons (ps_for PassesOwn.never rfl (pi_range1 rfl B.range (pa_cons pe_int pa_nil)) (pg_name (i := 2) sc_law.nd rfl (Or.inl rfl))
    (pss_cons (ps_par (i := 3) (j := 4) (by rfl) sc_law.nd rfl rfl (by decide) rfl rfl (pa_cons (pe_cal c_base hr (pa_cons (pv 1) pa_nil)) (pa_cons (pe_cal c_of hr (pa_cons (pv 1) (pa_cons (pe_lst (pa_cons pe_int (pa_cons pe_int (pa_cons pe_int (pa_cons pe_int pa_nil))))) pa_nil))) pa_nil)) (by rfl))
    (pss_cons (ps_set (i := 5) sc_law.nd rfl (Or.inl rfl) (pe_cal c_stroke hr (pa_cons (pv 1) (pa_cons (pv 3) (pa_cons (pv 4) pa_nil)))))
    (pss_cons (ps_set (i := 6) sc_law.nd rfl (Or.inl rfl) (pe_cal c_beside hr (pa_cons (pv 1) (pa_cons (pv 3) (pa_cons (pv 4) (pa_cons (pe_lst (pa_cons (pv 5) pa_nil)) pa_nil))))))
    (pss_cons (ps_if (pt_cmpR op_eq (pe_cal c_pull hr (pa_cons (pv 1) (pa_cons pe_int pa_nil))) pe_int (nomark _))
    (pss_one (ps_set (i := 6) sc_law.nd rfl (Or.inl rfl) (pe_cal c_of hr (pa_cons (pv 1) (pa_cons (pe_lst (pa_cons (pv 5) (pa_cons (pe_op op_catT (pe_slice sl_tup (pv 5) (po_some pe_int) po_none) (pe_slice sl_tup (pv 5) po_none (po_some pe_int))) pa_nil))) pa_nil)))))
    pss_nil)
    (pss_cons (ps_set (i := 7) sc_law.nd rfl (Or.inl rfl) (pe_cal c_meet hr (pa_cons (pv 5) (pa_cons (pv 6) pa_nil))))
    (pss_cons (ps_if (pt_not (pt_val (pe_cal c_like hr (pa_cons (pe_lst (pa_cons (pe_cal c_p_meet hr (pa_cons (pv 5) (pa_cons (pv 6) pa_nil))) (pa_cons (pe_cal c_p_meet hr (pa_cons (pv 6) (pa_cons (pv 5) pa_nil))) pa_nil))) (pa_cons (pe_lst (pa_cons (pv 7) (pa_cons (pv 7) pa_nil))) pa_nil)))))
    (pss_one (ps_ret pe_bl))
    pss_nil)
    (pss_one (ps_if (pt_not (pt_val (pe_cal c_like hr (pa_cons (pe_cal c_p_meet hr (pa_cons (pe_op op_catT (pe_slice sl_tup (pv 5) (po_some pe_int) po_none) (pe_slice sl_tup (pv 5) po_none (po_some pe_int))) (pa_cons (pv 6) pa_nil))) (pa_cons (pv 7) pa_nil)))))
    (pss_one (ps_ret pe_bl))
    pss_nil)))))))))
    (pss_one (ps_ret (pe_cal c_like hr (pa_cons (pe_cal c_p_meet hr (pa_cons (pe_tup (pa_cons pe_int (pa_cons pe_int (pa_cons pe_int (pa_cons pe_int pa_nil))))) (pa_cons (pe_tup (pa_cons pe_int (pa_cons pe_int (pa_cons pe_int (pa_cons pe_int pa_nil))))) pa_nil))) (pa_cons (pe_tup (pa_cons pe_str (pa_cons (pe_tup (pa_cons (pe_tup (pa_cons pe_int (pa_cons pe_int pa_nil))) (pa_cons (pe_tup (pa_cons pe_int (pa_cons pe_int pa_nil))) pa_nil))) pa_nil))) pa_nil))))))), ?_⟩
  refine ⟨_, rfl, a, ns, rfl, hS, h63, fun b l H1 sm1 nb nl hB => ?_⟩
  refine ⟨6, rfl, by decide, by decide, for_range (lo := 0) (n := (6 : Int).toNat) (fun _ σ H' => (∃ c2 c3 c4 c5 c6 c7, σ = [some (.ref a), some (.ref b), c2, c3, c4, c5, c6, c7]) ∧ BagAt H' b l) ⟨⟨_, _, _, _, _, _, rfl⟩, hB⟩ ?_ ?_⟩
  · rintro i σ H2 hi ⟨⟨c2, c3, c4, c5, c6, c7, rfl⟩, hB2⟩
    refine ⟨_, rfl, b, _, rfl, hB2, fun pb H3 x0 y0 hB3 bt3 hpb => ?_⟩
    refine ⟨_, rfl, sz (by decide : 4 ≤ 100000), fun p8 n8 => ?_⟩
    have g8 := same_new n8 (.lst [.int 1, .int 2, .int 5, .int 40])
    refine ⟨b, _, p8, _, rfl, hB3.same g8, upd_same, (hB3.new n8).1, by show 0 < 4; decide, by show 4 ≤ 1000; decide, fun v H4 hB4 bt4 hv => ?_⟩
    obtain ⟨m, rfl, m0, m1⟩ : ∃ m : Int, v = .int m ∧ 0 < m ∧ m ≤ 1000 := by
      simp only [List.mem_cons, List.not_mem_nil, or_false] at hv
      rcases hv with rfl | rfl | rfl | rfl <;> exact ⟨_, rfl, by decide, by decide⟩
    have hpb4 := bt4 _ _ (bag_tup (hB3.same g8) (g8 _ _ hpb)) (g8 _ _ hpb)
    refine ⟨_, _, rfl, ?_⟩
    -- the strokes
    refine ⟨_, rfl, _, rfl, _, rfl, b, _, pb, x0, y0, m, rfl, hB4, hpb4, m0, m1, fun s1 H5 x1 y1 x2 y2 hB5 bt5 hs1 => ?_⟩
    have hpb5 := bt5 _ _ (bag_tup hB4 hpb4) hpb4
    refine ⟨_, rfl, _, rfl, _, rfl, _, rfl, sz (by decide : 1 ≤ 100000), fun pl nl => ?_⟩
    have gl := same_new nl (.lst [.ref s1])
    refine ⟨b, _, pb, pl, x0, y0, m, _, rfl, hB5.same gl, gl _ _ hpb5, m0, m1, upd_same, (hB5.new nl).1, by show 1 ≤ 1000; decide, (fun v hv => ?_), fun s2 H6 u1 v1 u2 v2 hB6 bt6 hs2 => ?_⟩
    · simp only [List.mem_cons, List.not_mem_nil, or_false] at hv
      exact ⟨s1, x1, y1, x2, y2, hv, hs1.same gl⟩
    have hs1 := (hs1.same gl).but (hB5.same gl) bt6
    dsimp only [gName]
    refine seq_with (fun σ' H' => ∃ (c2 : Option V) (t : Addr) (u1 v1 u2 v2 : Int), σ' = [some (.ref a), some (.ref b), c2, some (.ref pb), some (.int m), some (.ref s1), some (.ref t), c7] ∧ BagAt H' b l ∧ Stk H' s1 x1 y1 x2 y2 ∧ Stk H' t u1 v1 u2 v2) (fun R hR => ?_) ?_
    · refine ⟨_, rfl, b, _, _, rfl, hB6, by decide, by decide, fun r H7 hB7 bt7 r0 r1 => ?_⟩
      have k1 := hs1.but hB6 bt7
      have k2 := hs2.but hB6 bt7
      refine ⟨rfl, _, rfl, ite2 (fun c => ?_) (fun c => ?_)⟩
      · refine ⟨_, rfl, _, rfl, _, rfl, _, rfl, s1, _, rfl, SqT.of k1.1, (fun z => absurd z.1 (by show ¬ (2 = 0); decide)), fun w1 n1 => ?_⟩
        have g1 := same_new n1 (.tup [.int x2, .int y2])
        refine ⟨_, rfl, _, rfl, s1, _, rfl, SqT.of (g1 _ _ k1.1), (fun z => absurd z.2 (by show ¬ (2 = 4); decide)), fun w2 n2 => ?_⟩
        have g2 := same_new n2 (.tup [.int x1, .int y1])
        refine ⟨w1, w2, [.int x2, .int y2], [.int x1, .int y1], rfl, rfl, SqT.of (g2 _ _ upd_same), SqT.of upd_same, (by intro z; cases z), sz (by decide : 4 ≤ 100000), (fun z => by cases z), fun _ w3 n3 => ?_⟩
        have g3 := same_new n3 (.tup [.int x2, .int y2, .int x1, .int y1])
        have bk := k1.2.1
        have k3 : Stk _ w3 x2 y2 x1 y1 := ⟨new_at g3, by omega, fun z => k1.2.2 ⟨z.1.symm, z.2.symm⟩⟩
        have gA := g1.trans (g2.trans g3)
        refine ⟨sz (by decide : 2 ≤ 100000), fun w4 n4 => ?_⟩
        have g4 := same_new n4 (.lst [.ref s1, .ref w3])
        have hB8 := (hB7.same gA).same g4
        refine ⟨b, _, w4, _, rfl, hB8, upd_same, ((hB7.same gA).new n4).1, by show 0 < 2; decide, by show 2 ≤ 1000; decide, fun v H9 hB9 bt9 hv => ?_⟩
        have k1' := ((k1.same gA).same g4).but hB8 bt9
        have k3' := (k3.same g4).but hB8 bt9
        simp only [List.mem_cons, List.not_mem_nil, or_false] at hv
        rcases hv with rfl | rfl
        · exact hR _ _ ⟨_, s1, _, _, _, _, rfl, hB9, k1', k1'⟩
        · exact hR _ _ ⟨_, w3, _, _, _, _, rfl, hB9, k1', k3'⟩
      · exact hR _ _ ⟨_, s2, _, _, _, _, rfl, hB7, k1, k2⟩
    · rintro σ J ⟨c2, t, u1, v1, u2, v2, rfl, hB7, k1, k2⟩
      refine ⟨_, rfl, _, rfl, s1, t, x1, y1, x2, y2, u1, v1, u2, v2, rfl, k1, k2, fun due J1 t1 hd => ?_⟩
      dsimp only [gName]
      refine seq_with (fun σ' H' => (∃ c2, σ' = [some (.ref a), some (.ref b), c2, some (.ref pb), some (.int m), some (.ref s1), some (.ref t), some due]) ∧ Same J1 H') (fun R hR => ?_) ?_
      · refine ⟨_, rfl, _, rfl, s1, t, x1, y1, x2, y2, u1, v1, u2, v2, rfl, k1.same t1, k2.same t1, fun r1 J2 t2 hr1 => ?_⟩
        have t12 := t1.trans t2
        refine ⟨_, rfl, _, rfl, t, s1, u1, v1, u2, v2, x1, y1, x2, y2, rfl, k2.same t12, k1.same t12, fun r2 J3 t3 hr2 => ?_⟩
        rw [meet_swap k1.2.2 k2.2.2] at hr2
        refine ⟨sz (by decide : 2 ≤ 100000), fun q1 n1 => ?_⟩
        have g1 := same_new n1 (.lst [r1, r2])
        refine ⟨_, rfl, _, rfl, sz (by decide : 2 ≤ 100000), fun q2 n2 => ?_⟩
        have g2 := same_new n2 (.lst [due, due])
        have g12 := g1.trans g2
        have hd' := (hd.same (t2.trans t3)).same g12
        refine ⟨_, _, rfl, alike_lst (g2 _ _ upd_same) upd_same rfl (by show 2 ≤ 1000; decide) (two_of (P := Alike 3 _) (((hr1.same t3).same g12).alike hd') ((hr2.same g12).alike hd')), fun J4 t4 => ⟨_, rfl, iteF ?_⟩⟩
        exact hR _ _ ⟨⟨_, rfl⟩, t2.trans (t3.trans (g12.trans t4))⟩
      · rintro σ J2 ⟨⟨c2, rfl⟩, t2⟩
        have t12 := t1.trans t2
        have k1 := k1.same t12
        have k2 := k2.same t12
        refine ⟨_, rfl, _, rfl, s1, _, rfl, SqT.of k1.1, (fun z => absurd z.1 (by show ¬ (2 = 0); decide)), fun w1 n1 => ?_⟩
        have g1 := same_new n1 (.tup [.int x2, .int y2])
        refine ⟨_, rfl, _, rfl, s1, _, rfl, SqT.of (g1 _ _ k1.1), (fun z => absurd z.2 (by show ¬ (2 = 4); decide)), fun w2 n2 => ?_⟩
        have g2 := same_new n2 (.tup [.int x1, .int y1])
        refine ⟨w1, w2, [.int x2, .int y2], [.int x1, .int y1], rfl, rfl, SqT.of (g2 _ _ upd_same), SqT.of upd_same, (by intro z; cases z), sz (by decide : 4 ≤ 100000), (fun z => by cases z), fun _ w3 n3 => ?_⟩
        have g3 := same_new n3 (.tup [.int x2, .int y2, .int x1, .int y1])
        have bk := k1.2.1
        have k3 : Stk _ w3 x2 y2 x1 y1 := ⟨new_at g3, by omega, fun z => k1.2.2 ⟨z.1.symm, z.2.symm⟩⟩
        have gA := g1.trans (g2.trans g3)
        refine ⟨_, rfl, w3, t, x2, y2, x1, y1, u1, v1, u2, v2, rfl, k3, k2.same gA, fun r3 J3 t3 hr3 => ?_⟩
        rw [meet_rev] at hr3
        have gB := gA.trans t3
        have hd' := (hd.same t2).same gB
        refine ⟨_, rfl, _, _, rfl, (hr3.alike hd').up, fun J4 t4 => ⟨_, rfl, iteF ?_⟩⟩
        exact ⟨⟨_, _, _, _, _, _, rfl⟩, hB7.same (t12.trans (gB.trans t4))⟩
  · rintro σ H2 ⟨⟨c2, c3, c4, c5, c6, c7, rfl⟩, hB⟩
    refine ⟨sz (by decide : 4 ≤ 100000), fun p1 n1 => ⟨sz (by decide : 4 ≤ 100000), fun p2 n2 => ?_⟩⟩
    refine ⟨p1, p2, 0, 0, 2, 2, 0, 1, 1, 0, rfl, ⟨same_new n2 _ _ _ upd_same, by decide, by decide⟩, ⟨upd_same, by decide, by decide⟩, fun r J1 s1 hr1 => ?_⟩
    have e : meetL 0 0 2 2 0 1 1 0 = .pt 1 2 1 2 := by decide +kernel
    rw [e] at hr1
    refine ⟨sz (by decide : 2 ≤ 100000), fun q1 n1 => ⟨sz (by decide : 2 ≤ 100000), fun q2 n2 => ⟨sz (by decide : 2 ≤ 100000), fun q3 n3 => ⟨sz (by decide : 2 ≤ 100000), fun q4 n4 => ?_⟩⟩⟩⟩
    have hd : MetAt _ (.ref q4) (.pt 1 2 1 2) := ⟨q4, q3, q1, q2, rfl, upd_same, same_new n4 _ _ _ upd_same, same_new n4 _ _ _ (same_new n3 _ _ _ (same_new n2 _ _ _ upd_same)), same_new n4 _ _ _ (same_new n3 _ _ _ upd_same)⟩
    have g := (same_new n1 (.tup [.int 1, .int 2])).trans ((same_new n2 (.tup [.int 1, .int 2])).trans ((same_new n3 (.tup [.ref q1, .ref q2])).trans (same_new n4 (.tup [.str "at", .ref q3]))))
    refine ⟨_, _, rfl, ((hr1.same g).alike hd).up, fun J4 t4 => q _⟩
end
end DM

namespace DM
open PySem L2
theorem all_mk {l : PySem.W.OpenLaw} {w : World} {K : PySem.W.Frag} {h : Heap} {mg : Str → Option Value} {fa f1 f2 f3 f4 f5 f6 f7 f8 f9 f10 f11 f12 f13 f14 f15 f16 f17 f18 : Addr} (X : K.In h) (G : h.Ns mainGlobals mg) (hfa : mg "law" = some (.ref fa))
    {od1 an1 od2 an2 od3 an3 od4 an4 od5 an5 od6 an6 od7 an7 od8 an8 od9 an9 od10 an10 od11 an11 od12 an12 od13 an13 od14 an14 od15 an15 od16 an16 od17 an17 od18 an18 : Option Addr} {sl1 sl2 sl3 sl4 sl5 sl6 sl7 sl8 sl9 sl10 sl11 sl12 sl13 sl14 sl15 sl16 sl17 sl18 : Array (Option Value)} {oc1 kV1 dc1 pm1 cd1 ct1 oc2 ocT2 kV2 dc2 pm2 cd2 ct2 oc3 kV3 dc3 pm3 cd3 ct3 oc4 kV4 dc4 pm4 cd4 ct4 oc5 kV5 dc5 pm5 cd5 ct5 oc6 kV6 dc6 pm6 cd6 ct6 oc7 kV7 dc7 pm7 cd7 ct7 oc8 kV8 dc8 pm8 cd8 ct8 oc9 kV9 dc9 pm9 cd9 ct9 oc10 kV10 dc10 pm10 cd10 ct10 oc11 kV11 dc11 pm11 cd11 ct11 oc12 kV12 dc12 pm12 cd12 ct12 oc13 kV13 dc13 pm13 cd13 ct13 oc14 kV14 dc14 pm14 cd14 ct14 oc15 kV15 dc15 pm15 cd15 ct15 oc16 kV16 dc16 pm16 cd16 ct16 oc17 kV17 dc17 pm17 cd17 ct17 oc18 kV18 dc18 pm18 cd18 ct18 : Value} 
    {T2 : Addr} {odT2 : Option Addr} {slT2 : Array (Option Value)} {nT2 : Nat} {tkT2 : Tok}
    (a1 : PySem.W.nsIn K mainGlobals "common_measure" = some (some (.ref f1))) (l1 : K.lookup f1 = some ⟨oc1, od1, .func (PySem.W.fnOf "common_measure" "common_measure" (defArgs s_common_measure) (defBody s_common_measure) (defScope s_common_measure) .none kV1 dc1 pm1 an1 cd1 ct1), sl1⟩) (c1 : PySem.W.codeIn K cd1 "common_measure" = true) (k1 : PySem.W.keepIn K (.ref f1) = true)
    (a2 : PySem.W.nsIn K mainGlobals "lowest" = some (some (.ref f2))) (l2 : K.lookup f2 = some ⟨oc2, od2, .func (PySem.W.fnOf "lowest" "lowest" (defArgs s_lowest) (defBody s_lowest) (defScope s_lowest) (.ref T2) kV2 dc2 pm2 an2 cd2 ct2), sl2⟩) (c2 : PySem.W.codeIn K cd2 "lowest" = true) (k2 : PySem.W.keepIn K (.ref f2) = true)
    (t2 : K.lookup T2 = some ⟨ocT2, odT2, .seq (List.toArray [.int 1 tkT2]) nT2, slT2⟩)
    (a3 : PySem.W.nsIn K mainGlobals "meet" = some (some (.ref f3))) (l3 : K.lookup f3 = some ⟨oc3, od3, .func (PySem.W.fnOf "meet" "meet" (defArgs s_p_meet) (defBody s_p_meet) (defScope s_p_meet) .none kV3 dc3 pm3 an3 cd3 ct3), sl3⟩) (c3 : PySem.W.codeIn K cd3 "meet" = true) (k3 : PySem.W.keepIn K (.ref f3) = true)
    (a4 : PySem.W.nsIn K mainGlobals "meet_in_line" = some (some (.ref f4))) (l4 : K.lookup f4 = some ⟨oc4, od4, .func (PySem.W.fnOf "meet_in_line" "meet_in_line" (defArgs s_meet_in_line) (defBody s_meet_in_line) (defScope s_meet_in_line) .none kV4 dc4 pm4 an4 cd4 ct4), sl4⟩) (c4 : PySem.W.codeIn K cd4 "meet_in_line" = true) (k4 : PySem.W.keepIn K (.ref f4) = true)
    (a5 : PySem.W.nsIn K mainGlobals "_law_bag" = some (some (.ref f5))) (l5 : K.lookup f5 = some ⟨oc5, od5, .func (PySem.W.fnOf "_law_bag" "_law_bag" (defArgs s_bag) (defBody s_bag) (defScope s_bag) .none kV5 dc5 pm5 an5 cd5 ct5), sl5⟩) (c5 : PySem.W.codeIn K cd5 "_law_bag" = true) (k5 : PySem.W.keepIn K (.ref f5) = true)
    (a6 : PySem.W.nsIn K mainGlobals "_law_pull" = some (some (.ref f6))) (l6 : K.lookup f6 = some ⟨oc6, od6, .func (PySem.W.fnOf "_law_pull" "_law_pull" (defArgs s_pull) (defBody s_pull) (defScope s_pull) .none kV6 dc6 pm6 an6 cd6 ct6), sl6⟩) (c6 : PySem.W.codeIn K cd6 "_law_pull" = true) (k6 : PySem.W.keepIn K (.ref f6) = true)
    (a7 : PySem.W.nsIn K mainGlobals "_law_of" = some (some (.ref f7))) (l7 : K.lookup f7 = some ⟨oc7, od7, .func (PySem.W.fnOf "_law_of" "_law_of" (defArgs s_of) (defBody s_of) (defScope s_of) .none kV7 dc7 pm7 an7 cd7 ct7), sl7⟩) (c7 : PySem.W.codeIn K cd7 "_law_of" = true) (k7 : PySem.W.keepIn K (.ref f7) = true)
    (a8 : PySem.W.nsIn K mainGlobals "_law_like" = some (some (.ref f8))) (l8 : K.lookup f8 = some ⟨oc8, od8, .func (PySem.W.fnOf "_law_like" "_law_like" (defArgs s_like) (defBody s_like) (defScope s_like) .none kV8 dc8 pm8 an8 cd8 ct8), sl8⟩) (c8 : PySem.W.codeIn K cd8 "_law_like" = true) (k8 : PySem.W.keepIn K (.ref f8) = true)
    (a9 : PySem.W.nsIn K mainGlobals "_law_common" = some (some (.ref f9))) (l9 : K.lookup f9 = some ⟨oc9, od9, .func (PySem.W.fnOf "_law_common" "_law_common" (defArgs s_common) (defBody s_common) (defScope s_common) .none kV9 dc9 pm9 an9 cd9 ct9), sl9⟩) (c9 : PySem.W.codeIn K cd9 "_law_common" = true) (k9 : PySem.W.keepIn K (.ref f9) = true)
    (a10 : PySem.W.nsIn K mainGlobals "_law_low" = some (some (.ref f10))) (l10 : K.lookup f10 = some ⟨oc10, od10, .func (PySem.W.fnOf "_law_low" "_law_low" (defArgs s_low) (defBody s_low) (defScope s_low) .none kV10 dc10 pm10 an10 cd10 ct10), sl10⟩) (c10 : PySem.W.codeIn K cd10 "_law_low" = true) (k10 : PySem.W.keepIn K (.ref f10) = true)
    (a11 : PySem.W.nsIn K mainGlobals "_law_clipped" = some (some (.ref f11))) (l11 : K.lookup f11 = some ⟨oc11, od11, .func (PySem.W.fnOf "_law_clipped" "_law_clipped" (defArgs s_clipped) (defBody s_clipped) (defScope s_clipped) .none kV11 dc11 pm11 an11 cd11 ct11), sl11⟩) (c11 : PySem.W.codeIn K cd11 "_law_clipped" = true) (k11 : PySem.W.keepIn K (.ref f11) = true)
    (a12 : PySem.W.nsIn K mainGlobals "_law_spot" = some (some (.ref f12))) (l12 : K.lookup f12 = some ⟨oc12, od12, .func (PySem.W.fnOf "_law_spot" "_law_spot" (defArgs s_spot) (defBody s_spot) (defScope s_spot) .none kV12 dc12 pm12 an12 cd12 ct12), sl12⟩) (c12 : PySem.W.codeIn K cd12 "_law_spot" = true) (k12 : PySem.W.keepIn K (.ref f12) = true)
    (a13 : PySem.W.nsIn K mainGlobals "_law_base" = some (some (.ref f13))) (l13 : K.lookup f13 = some ⟨oc13, od13, .func (PySem.W.fnOf "_law_base" "_law_base" (defArgs s_base) (defBody s_base) (defScope s_base) .none kV13 dc13 pm13 an13 cd13 ct13), sl13⟩) (c13 : PySem.W.codeIn K cd13 "_law_base" = true) (k13 : PySem.W.keepIn K (.ref f13) = true)
    (a14 : PySem.W.nsIn K mainGlobals "_law_stroke" = some (some (.ref f14))) (l14 : K.lookup f14 = some ⟨oc14, od14, .func (PySem.W.fnOf "_law_stroke" "_law_stroke" (defArgs s_stroke) (defBody s_stroke) (defScope s_stroke) .none kV14 dc14 pm14 an14 cd14 ct14), sl14⟩) (c14 : PySem.W.codeIn K cd14 "_law_stroke" = true) (k14 : PySem.W.keepIn K (.ref f14) = true)
    (a15 : PySem.W.nsIn K mainGlobals "_law_beside" = some (some (.ref f15))) (l15 : K.lookup f15 = some ⟨oc15, od15, .func (PySem.W.fnOf "_law_beside" "_law_beside" (defArgs s_beside) (defBody s_beside) (defScope s_beside) .none kV15 dc15 pm15 an15 cd15 ct15), sl15⟩) (c15 : PySem.W.codeIn K cd15 "_law_beside" = true) (k15 : PySem.W.keepIn K (.ref f15) = true)
    (a16 : PySem.W.nsIn K mainGlobals "_law_cross" = some (some (.ref f16))) (l16 : K.lookup f16 = some ⟨oc16, od16, .func (PySem.W.fnOf "_law_cross" "_law_cross" (defArgs s_cross) (defBody s_cross) (defScope s_cross) .none kV16 dc16 pm16 an16 cd16 ct16), sl16⟩) (c16 : PySem.W.codeIn K cd16 "_law_cross" = true) (k16 : PySem.W.keepIn K (.ref f16) = true)
    (a17 : PySem.W.nsIn K mainGlobals "_law_meet" = some (some (.ref f17))) (l17 : K.lookup f17 = some ⟨oc17, od17, .func (PySem.W.fnOf "_law_meet" "_law_meet" (defArgs s_meet) (defBody s_meet) (defScope s_meet) .none kV17 dc17 pm17 an17 cd17 ct17), sl17⟩) (c17 : PySem.W.codeIn K cd17 "_law_meet" = true) (k17 : PySem.W.keepIn K (.ref f17) = true)
    (a18 : PySem.W.nsIn K mainGlobals "law" = some (some (.ref f18))) (l18 : K.lookup f18 = some ⟨oc18, od18, .func (PySem.W.fnOf "law" "law" (defArgs s_law) (defBody s_law) (defScope s_law) .none kV18 dc18 pm18 an18 cd18 ct18), sl18⟩) (c18 : PySem.W.codeIn K cd18 "law" = true) (k18 : PySem.W.keepIn K (.ref f18) = true)
    (z_len : PySem.W.nsIn K mainGlobals "len" = some none)
    (z_isinstance : PySem.W.nsIn K mainGlobals "isinstance" = some none)
    (z_all : PySem.W.nsIn K mainGlobals "all" = some none)
    (z_list : PySem.W.nsIn K mainGlobals "list" = some none)
    (z_tuple : PySem.W.nsIn K mainGlobals "tuple" = some none)
    (z_dict : PySem.W.nsIn K mainGlobals "dict" = some none)
    (z_bool : PySem.W.nsIn K mainGlobals "bool" = some none)
    (z_range : PySem.W.nsIn K mainGlobals "range" = some none)
    (z_abs : PySem.W.nsIn K mainGlobals "abs" = some none)
    (z_any : PySem.W.nsIn K mainGlobals "any" = some none)
    (z_sorted : PySem.W.nsIn K mainGlobals "sorted" = some none)
    (z_int : PySem.W.nsIn K mainGlobals "int" = some none)
    (z_max : PySem.W.nsIn K mainGlobals "max" = some none)
    (z_min : PySem.W.nsIn K mainGlobals "min" = some none)
    (z_sum : PySem.W.nsIn K mainGlobals "sum" = some none)
    (z_zip : PySem.W.nsIn K mainGlobals "zip" = some none)
    (z_enumerate : PySem.W.nsIn K mainGlobals "enumerate" = some none)
    : ∃ fd : FuncData, (∀ (s : Shared) (v : Value), BindsTo s fd ⟨[v], []⟩ [("_law_script", v)]) ∧ ∀ base : Heap, K.In base → base.Ns mainGlobals mg → FnOk l.prog w K mg base CX0 6 fa fd ["_law_script"] (spLaw K) := by
  have e := hfa.symm.trans (PySem.W.mg_of X G a18)
  cases e
  have F_common_measure := fun_mk (st := s_common_measure) l1 c1 k1
  have b_common_measure := F_common_measure.binds (ps := ["one", "other"]) fun _ _ _ _ _ _ us hl => match us, hl with | [_, _], _ => rfl
  have m_common_measure := PySem.W.mg_of X G a1
  have F_lowest : FunD K "lowest" "lowest" (defArgs s_lowest) (defBody s_lowest) (defScope s_lowest) [.int 1] [] f2 _ := ⟨⟨_, _, _, _, _, _, _, _, _, _, rfl, l2, c2, .inr ⟨by decide, _, _, _, _, rfl, t2, rfl, (.cons ⟨_, rfl⟩ .nil)⟩, .inl rfl⟩, k2⟩
  obtain ⟨dslowest_0, vlowest_0, bblowest_0⟩ := F_lowest.binds1 (ps := ["over", "under"]) 1 0 (by decide) rfl fun _ _ _ _ _ _ _ us its hl hi => match us, its, hl, hi with | [_], [_], _, _ => ⟨_, rfl, rfl⟩
  obtain ⟨dslowest_1, vlowest_1, bblowest_1⟩ := F_lowest.binds1 (ps := ["over", "under"]) 2 1 (by decide) rfl fun _ _ _ _ _ _ _ us its hl hi => match us, its, hl, hi with | [_, _], [_], _, _ => ⟨_, rfl, rfl⟩
  have b_lowest := nil_binds vlowest_1 bblowest_1
  have m_lowest := PySem.W.mg_of X G a2
  have F_p_meet := fun_mk (st := s_p_meet) l3 c3 k3
  have b_p_meet := F_p_meet.binds (ps := ["one", "other"]) fun _ _ _ _ _ _ us hl => match us, hl with | [_, _], _ => rfl
  have m_p_meet := PySem.W.mg_of X G a3
  have F_meet_in_line := fun_mk (st := s_meet_in_line) l4 c4 k4
  have b_meet_in_line := F_meet_in_line.binds (ps := ["one", "other"]) fun _ _ _ _ _ _ us hl => match us, hl with | [_, _], _ => rfl
  have m_meet_in_line := PySem.W.mg_of X G a4
  have F_bag := fun_mk (st := s_bag) l5 c5 k5
  have b_bag := F_bag.binds (ps := ["_law_script"]) fun _ _ _ _ _ _ us hl => match us, hl with | [_], _ => rfl
  have m_bag := PySem.W.mg_of X G a5
  have F_pull := fun_mk (st := s_pull) l6 c6 k6
  have b_pull := F_pull.binds (ps := ["_law_bag_here", "_law_amount"]) fun _ _ _ _ _ _ us hl => match us, hl with | [_, _], _ => rfl
  have m_pull := PySem.W.mg_of X G a6
  have F_of := fun_mk (st := s_of) l7 c7 k7
  have b_of := F_of.binds (ps := ["_law_bag_here", "_law_things"]) fun _ _ _ _ _ _ us hl => match us, hl with | [_, _], _ => rfl
  have m_of := PySem.W.mg_of X G a7
  have F_like := fun_mk (st := s_like) l8 c8 k8
  have b_like := F_like.binds (ps := ["_law_found", "_law_due"]) fun _ _ _ _ _ _ us hl => match us, hl with | [_, _], _ => rfl
  have m_like := PySem.W.mg_of X G a8
  have F_common := fun_mk (st := s_common) l9 c9 k9
  have b_common := F_common.binds (ps := ["_law_one", "_law_other"]) fun _ _ _ _ _ _ us hl => match us, hl with | [_, _], _ => rfl
  have m_common := PySem.W.mg_of X G a9
  have F_low := fun_mk (st := s_low) l10 c10 k10
  have b_low := F_low.binds (ps := ["_law_over", "_law_under"]) fun _ _ _ _ _ _ us hl => match us, hl with | [_, _], _ => rfl
  have m_low := PySem.W.mg_of X G a10
  have F_clipped := fun_mk (st := s_clipped) l11 c11 k11
  have b_clipped := F_clipped.binds (ps := ["_law_number"]) fun _ _ _ _ _ _ us hl => match us, hl with | [_], _ => rfl
  have m_clipped := PySem.W.mg_of X G a11
  have F_spot := fun_mk (st := s_spot) l12 c12 k12
  have b_spot := F_spot.binds (ps := ["_law_bag_here", "_law_base_here", "_law_wide"]) fun _ _ _ _ _ _ us hl => match us, hl with | [_, _, _], _ => rfl
  have m_spot := PySem.W.mg_of X G a12
  have F_base := fun_mk (st := s_base) l13 c13 k13
  have b_base := F_base.binds (ps := ["_law_bag_here"]) fun _ _ _ _ _ _ us hl => match us, hl with | [_], _ => rfl
  have m_base := PySem.W.mg_of X G a13
  have F_stroke := fun_mk (st := s_stroke) l14 c14 k14
  have b_stroke := F_stroke.binds (ps := ["_law_bag_here", "_law_base_here", "_law_wide"]) fun _ _ _ _ _ _ us hl => match us, hl with | [_, _, _], _ => rfl
  have m_stroke := PySem.W.mg_of X G a14
  have F_beside := fun_mk (st := s_beside) l15 c15 k15
  have b_beside := F_beside.binds (ps := ["_law_bag_here", "_law_base_here", "_law_wide", "_law_some"]) fun _ _ _ _ _ _ us hl => match us, hl with | [_, _, _, _], _ => rfl
  have m_beside := PySem.W.mg_of X G a15
  have F_cross := fun_mk (st := s_cross) l16 c16 k16
  have b_cross := F_cross.binds (ps := ["_law_one", "_law_two", "_law_three"]) fun _ _ _ _ _ _ us hl => match us, hl with | [_, _, _], _ => rfl
  have m_cross := PySem.W.mg_of X G a16
  have F_meet := fun_mk (st := s_meet) l17 c17 k17
  have b_meet := F_meet.binds (ps := ["_law_one", "_law_other"]) fun _ _ _ _ _ _ us hl => match us, hl with | [_, _], _ => rfl
  have m_meet := PySem.W.mg_of X G a17
  have F_law := fun_mk (st := s_law) l18 c18 k18
  have b_law := F_law.binds (ps := ["_law_script"]) fun _ _ _ _ _ _ us hl => match us, hl with | [_], _ => rfl
  have m_law := PySem.W.mg_of X G a18
  have B : Blt mg := ⟨PySem.W.mg_none_of X G z_len, PySem.W.mg_none_of X G z_isinstance, PySem.W.mg_none_of X G z_all, PySem.W.mg_none_of X G z_list, PySem.W.mg_none_of X G z_tuple, PySem.W.mg_none_of X G z_dict, PySem.W.mg_none_of X G z_bool, PySem.W.mg_none_of X G z_range, PySem.W.mg_none_of X G z_abs, PySem.W.mg_none_of X G z_any, PySem.W.mg_none_of X G z_sorted, PySem.W.mg_none_of X G z_int, PySem.W.mg_none_of X G z_max, PySem.W.mg_none_of X G z_min, PySem.W.mg_none_of X G z_sum, PySem.W.mg_none_of X G z_zip, PySem.W.mg_none_of X G z_enumerate⟩
  refine ⟨PySem.W.fnOf "law" "law" (defArgs s_law) (defBody s_law) (defScope s_law) .none kV18 dc18 pm18 an18 cd18 ct18, fun s v => .of_eq rfl, fun base _ _ => ?_⟩
  have C_like : Cal l.prog w K mg base 5 "_law_like" ["_law_found", "_law_due"] (spLike 4) := ⟨_, _, ok_like B F_like b_like m_like 4, b_like, F_like.kp, m_like⟩
  have C_bag : Cal l.prog w K mg base 1 "_law_bag" ["_law_script"] (spBag K) := ⟨_, _, ok_bag B F_bag, b_bag, F_bag.kp, m_bag⟩
  have C_pull : Cal l.prog w K mg base 1 "_law_pull" ["_law_bag_here", "_law_amount"] spPull := ⟨_, _, ok_pull B F_pull, b_pull, F_pull.kp, m_pull⟩
  have C_of : Cal l.prog w K mg base 2 "_law_of" ["_law_bag_here", "_law_things"] spOf := ⟨_, _, ok_of B C_pull F_of, b_of, F_of.kp, m_of⟩
  have C_clipped : Cal l.prog w K mg base 1 "_law_clipped" ["_law_number"] spClip := ⟨_, _, ok_clipped B F_clipped, b_clipped, F_clipped.kp, m_clipped⟩
  have C_spot : Cal l.prog w K mg base 2 "_law_spot" ["_law_bag_here", "_law_base_here", "_law_wide"] spSpot := ⟨_, _, ok_spot C_pull C_clipped F_spot, b_spot, F_spot.kp, m_spot⟩
  have C_base : Cal l.prog w K mg base 3 "_law_base" ["_law_bag_here"] spBase := ⟨_, _, ok_base C_pull C_of F_base, b_base, F_base.kp, m_base⟩
  have C_stroke : Cal l.prog w K mg base 3 "_law_stroke" ["_law_bag_here", "_law_base_here", "_law_wide"] spStroke := ⟨_, _, ok_stroke C_spot F_stroke, b_stroke, F_stroke.kp, m_stroke⟩
  have C_common : Cal l.prog w K mg base 1 "_law_common" ["_law_one", "_law_other"] spCom := ⟨_, _, ok_common B F_common, b_common, F_common.kp, m_common⟩
  have C_low : Cal l.prog w K mg base 2 "_law_low" ["_law_over", "_law_under"] spLowP := ⟨_, _, ok_low C_common F_low, b_low, F_low.kp, m_low⟩
  have C_cross : Cal l.prog w K mg base 1 "_law_cross" ["_law_one", "_law_two", "_law_three"] (spCross K) := ⟨_, _, ok_cross F_cross, b_cross, F_cross.kp, m_cross⟩
  have C_low : Cal l.prog w K mg base 2 "_law_low" ["_law_over", "_law_under"] spLowN := ⟨_, _, ok_lowN C_common F_low, b_low, F_low.kp, m_low⟩
  have C_beside : Cal l.prog w K mg base 4 "_law_beside" ["_law_bag_here", "_law_base_here", "_law_wide", "_law_some"] spBeside := ⟨_, _, ok_beside B C_pull C_of C_stroke F_beside, b_beside, F_beside.kp, m_beside⟩
  have C_meet : Cal l.prog w K mg base 3 "_law_meet" ["_law_one", "_law_other"] spMeet := ⟨_, _, ok_meet B C_cross C_low F_meet, b_meet, F_meet.kp, m_meet⟩
  have C_common_measure : Cal l.prog w K mg base 1 "common_measure" ["one", "other"] spGcd := ⟨_, _, ok_common_measure F_common_measure, b_common_measure, F_common_measure.kp, m_common_measure⟩
  have C_lowest : Cal l.prog w K mg base 2 "lowest" ["over", "under"] spLow := ⟨_, _, ok_lowest B C_common_measure F_lowest, b_lowest, F_lowest.kp, m_lowest⟩
  have D_lowest : CalD l.prog w K mg base 2 "lowest" ["over", "under"] spLow [.int 1] := ⟨_, _, _, ok_lowest B C_common_measure F_lowest, bblowest_0, vlowest_0, F_lowest.kp, m_lowest⟩
  have C_meet_in_line : Cal l.prog w K mg base 3 "meet_in_line" ["one", "other"] spLine := ⟨_, _, ok_meet_in_line B D_lowest F_meet_in_line, b_meet_in_line, F_meet_in_line.kp, m_meet_in_line⟩
  have C_p_meet : Cal l.prog w K mg base 4 "meet" ["one", "other"] spMeet := ⟨_, _, ok_p_meet C_lowest C_meet_in_line F_p_meet, b_p_meet, F_p_meet.kp, m_p_meet⟩
  exact ok_law B C_bag C_pull C_of C_like C_base C_stroke C_beside C_meet C_p_meet F_law
theorem walk {l : PySem.W.OpenLaw} {q : Program} {loose : List Str} {XP : (Str → Option Value) → Heap → Prop} {YP : World → Heap → Prop} {d : DefRec} {K : Params → PySem.W.Frag} (hn : l.most = some 63) (hdf : d.params.defaults = [])
    (hY : ∀ (w : World) (h : Heap), YP w h → (K w.params).In h)
    (F : ∀ (w : World) (mg : Str → Option Value) (fa : Addr) (h : Heap), (K w.params).In h → h.Ns mainGlobals mg → mg d.name = some (.ref fa) →
      ∃ fd : FuncData, (∀ (s : Shared) (u : Value), BindsTo s fd ⟨[u], []⟩ [("_law_script", u)]) ∧ ∀ base : Heap, (K w.params).In base → base.Ns mainGlobals mg → FnOk l.prog w (K w.params) mg base CX0 6 fa fd ["_law_script"] (spLaw (K w.params))) :
    PySem.W.WalkO q loose XP YP l.row.toRowW d [] (fun f vs => PySem.call f vs) :=
  L2.walk_of (n := 63) (k := 6) (x := "_law_script") (CX := fun _ => CX0) (sp := fun w => spLaw (K w.params)) hn (by decide) hdf ⟨rfl, by decide, by decide⟩ hY F (fun _ _ a ns hl _ hS => ⟨a, ns, rfl, hS, hl, fun _ => rfl⟩) fun _ _ _ _ _ z => z
end DM
open PySem PySem.W PyProof.Rows
set_option maxRecDepth 100000 in
set_option maxHeartbeats 0 in
theorem PySem.Challenge.cw_dotmoor_k08_where_two_strokes_meet_holds : PySem.Challenge.rw_dotmoor_k08_where_two_strokes_meet.Holds := by
  w_on; o_law; k_head; (case hw => w_witness2)
  k_fill
  refine DM.walk (l := PySem.Challenge.rw_dotmoor_k08_where_two_strokes_meet) rfl rfl (fun w h Y => PySem.W.kIn_of Y) ?F
  case F =>
    intro w mg fa h KX G hmg
    refine' DM.all_mk KX G hmg ?a1 ?l1 ?c1 ?k1 ?a2 ?l2 ?c2 ?k2 ?t2 ?a3 ?l3 ?c3 ?k3 ?a4 ?l4 ?c4 ?k4 ?a5 ?l5 ?c5 ?k5 ?a6 ?l6 ?c6 ?k6 ?a7 ?l7 ?c7 ?k7 ?a8 ?l8 ?c8 ?k8 ?a9 ?l9 ?c9 ?k9 ?a10 ?l10 ?c10 ?k10 ?a11 ?l11 ?c11 ?k11 ?a12 ?l12 ?c12 ?k12 ?a13 ?l13 ?c13 ?k13 ?a14 ?l14 ?c14 ?k14 ?a15 ?l15 ?c15 ?k15 ?a16 ?l16 ?c16 ?k16 ?a17 ?l17 ?c17 ?k17 ?a18 ?l18 ?c18 ?k18 ?z_len ?z_isinstance ?z_all ?z_list ?z_tuple ?z_dict ?z_bool ?z_range ?z_abs ?z_any ?z_sorted ?z_int ?z_max ?z_min ?z_sum ?z_zip ?z_enumerate
    (case a1 => k_is)
    (case l1 => k_is)
    (case c1 => k_is)
    (case k1 => k_is)
    (case a2 => k_is)
    (case l2 => k_is)
    (case c2 => k_is)
    (case k2 => k_is)
    (case t2 => k_is)
    (case a3 => k_is)
    (case l3 => k_is)
    (case c3 => k_is)
    (case k3 => k_is)
    (case a4 => k_is)
    (case l4 => k_is)
    (case c4 => k_is)
    (case k4 => k_is)
    (case a5 => k_is)
    (case l5 => k_is)
    (case c5 => k_is)
    (case k5 => k_is)
    (case a6 => k_is)
    (case l6 => k_is)
    (case c6 => k_is)
    (case k6 => k_is)
    (case a7 => k_is)
    (case l7 => k_is)
    (case c7 => k_is)
    (case k7 => k_is)
    (case a8 => k_is)
    (case l8 => k_is)
    (case c8 => k_is)
    (case k8 => k_is)
    (case a9 => k_is)
    (case l9 => k_is)
    (case c9 => k_is)
    (case k9 => k_is)
    (case a10 => k_is)
    (case l10 => k_is)
    (case c10 => k_is)
    (case k10 => k_is)
    (case a11 => k_is)
    (case l11 => k_is)
    (case c11 => k_is)
    (case k11 => k_is)
    (case a12 => k_is)
    (case l12 => k_is)
    (case c12 => k_is)
    (case k12 => k_is)
    (case a13 => k_is)
    (case l13 => k_is)
    (case c13 => k_is)
    (case k13 => k_is)
    (case a14 => k_is)
    (case l14 => k_is)
    (case c14 => k_is)
    (case k14 => k_is)
    (case a15 => k_is)
    (case l15 => k_is)
    (case c15 => k_is)
    (case k15 => k_is)
    (case a16 => k_is)
    (case l16 => k_is)
    (case c16 => k_is)
    (case k16 => k_is)
    (case a17 => k_is)
    (case l17 => k_is)
    (case c17 => k_is)
    (case k17 => k_is)
    (case a18 => k_is)
    (case l18 => k_is)
    (case c18 => k_is)
    (case k18 => k_is)
    (case z_len => k_is)
    (case z_isinstance => k_is)
    (case z_all => k_is)
    (case z_list => k_is)
    (case z_tuple => k_is)
    (case z_dict => k_is)
    (case z_bool => k_is)
    (case z_range => k_is)
    (case z_abs => k_is)
    (case z_any => k_is)
    (case z_sorted => k_is)
    (case z_int => k_is)
    (case z_max => k_is)
    (case z_min => k_is)
    (case z_sum => k_is)
    (case z_zip => k_is)
    (case z_enumerate => k_is)

