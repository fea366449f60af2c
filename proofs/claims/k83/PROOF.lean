import PyProof.Rows.All
import Wide.All
import OpenK.AllK
import Wide.FinOn
import HandS.Codes
import HandS.ForMost
import HandS.Wide
import HandS.Zip
import HandS.IsInst
import HandS.Defaults
import HandS.Style
import HandS.ForExc
import HandS.Walk
import HandS.More
import HandS.CallLocal
import HandS.WideBits
import KE.BitLaws
import KE.KBits
import HandS.FStr
import PyProof.FitsInt
import HandS.TryOnly
import HandS.Star
import HandS.Flow
import HandS.OwnEq
import HandS.DeepEq
import HandS.Conv
import OpenK.KEqL
import KE.IntBitsLaws
import KE.GoesMore
import KE.KTurns
import HandS.Iter
import HandS.TupAny
import KE.KEqSeq
import KE.RegKSuper
import KE.RegKIsAll
import KE.RegKTryMore
import KE.KNestM
import HandS.EndTab
import KE.KStateDown
import HandS.Words
import HandS.WordsExc
import HandS.Head0
import HandS.Head1
import HandS.Head2
import HandS.HeadEnd
import HandS.HeadHook1
import HandS.HeadHook2
import HandS.HeadHook3
import HandS.HeadHook4
import PySem.Challenge.RW_echobound_k83_whole_no_sum_goes_over
set_option Elab.async false
set_option linter.all false
set_option maxRecDepth 100000
set_option maxHeartbeats 4000000
namespace E1
open PySem PySem.Spec PyProof.Rows L2
/-! ### a def of the text that is called by its name -/
def Cal (P : Program) (w : World) (K : PySem.W.Frag) (mg : Str → Option Value) (base : Heap) (k : Nat) (x : Str) (ps : List Str) (sp : Sp) : Prop :=
  ∃ (f : Addr) (fd : FuncData), mg x = some (.ref f) ∧ PySem.W.keepIn K (.ref f) = true ∧ Binds K fd ps [] ∧ FnOk P w K mg base CX0 k f fd ps sp
theorem pe_cal {X : Cx} {k j : Nat} {x : Str} {ps : List Str} {sp : Sp} {e : Expr} {es : List Expr} {t : TA} {p pos : Pos} (c : Cal X.prog X.w X.K X.mg X.base k x ps sp) (hr : Room j X.A) (ha : PA X (e :: es) t) (hle : k ≤ j := by decide) (hg : Gl X x := by rfl)
    (hdb : (x == ("__debug__" : Str)) = false := by decide) (he : starEach (e :: es) X.env = (false, eval e X.env) :: starEach es X.env := by rfl) (hpl : (backTo pos (starEach es X.env)).any (·.1) = false := by rfl) :
    PE X (.Call (.Name x p) (e :: es) [] pos) (tCall sp [] E0 t) := by
  obtain ⟨f, fd, h1, h2, h3, h4⟩ := c
  exact pe_call h4 (hr.mono hle) hg h1 h2 h3 .nil pass0 ha hdb he hpl
/-! ### heaps -/
def SameBut (a : Addr) (H H' : Hp) : Prop := ∀ b o, b ≠ a → H b = some o → H' b = some o
theorem SameBut.refl (a : Addr) (H : Hp) : SameBut a H H := fun _ _ _ h => h
theorem SameBut.trans {a : Addr} {H H1 H2 : Hp} (x : SameBut a H H1) (y : SameBut a H1 H2) : SameBut a H H2 := fun b o n h => y b o n (x b o n h)
theorem SameBut.of {a : Addr} {H H' : Hp} (s : Same H H') : SameBut a H H' := fun b o _ h => s b o h
theorem SameBut.upd {a : Addr} {H : Hp} {o : HO} : SameBut a H (upd H a o) := fun b _ n h => by
  rw [upd_ne n]
  exact h
theorem same_new {H : Hp} {p : Addr} {o : HO} (h : H p = none) : Same H (upd H p o) := fun b x e => by
  rw [upd_ne (ne_of_none e h)]
  exact e
theorem Same.tup {K : PySem.W.Frag} {H H' : Hp} {a : Addr} {xs : List V} (e : Same H H') (h : SqT K H a xs) : SqT K H' a xs := by
  rcases h with (h | ⟨o, h⟩) | h
  · exact .inl (.inl (e _ _ h))
  · exact .inl (.inr ⟨o, e _ _ h⟩)
  · exact .inr h
theorem a0 {α : Type} {x : α} {l : List α} : atI (x :: l) 0 = some x := atI_nat (j := 0) rfl
theorem a1 {α : Type} {x y : α} {l : List α} : atI (x :: y :: l) 1 = some y := atI_nat (j := 1) rfl
theorem a2 {α : Type} {x y z : α} {l : List α} : atI (x :: y :: z :: l) 2 = some z := atI_nat (j := 2) rfl
theorem toB {p : Prop} [Decidable p] (h : decide p = true) : p := of_decide_eq_true h
theorem toNB {p : Prop} [Decidable p] (h : ¬ decide p = true) : ¬ p := fun z => h (decide_eq_true z)
/-- a well: the digits left, a number that is mixed, how many were mixed (at most c) -/
def WellAt (H : Hp) (a : Addr) (c : Int) : Prop := ∃ x y z : Int, H a = some (.lst [.int x, .int y, .int z]) ∧ 0 ≤ y ∧ y < 2147483647 ∧ 0 ≤ z ∧ z ≤ c
theorem WellAt.mono {H : Hp} {a : Addr} {c d : Int} (h : WellAt H a c) (l : c ≤ d) : WellAt H a d := by
  obtain ⟨x, y, z, e, h1, h2, h3, h4⟩ := h
  exact ⟨x, y, z, e, h1, h2, h3, by omega⟩
theorem WellAt.same {H H' : Hp} {a : Addr} {c : Int} (h : WellAt H a c) (s : Same H H') : WellAt H' a c := by
  obtain ⟨x, y, z, e, h1, h2, h3, h4⟩ := h
  exact ⟨x, y, z, s _ _ e, h1, h2, h3, h4⟩
theorem WellAt.but {H H' : Hp} {a b : Addr} {c : Int} (h : WellAt H a c) (s : SameBut b H H') (n : a ≠ b) : WellAt H' a c := by
  obtain ⟨x, y, z, e, h1, h2, h3, h4⟩ := h
  exact ⟨x, y, z, s _ _ n e, h1, h2, h3, h4⟩
/-! ### promises of the law's helpers -/
def spCell (K : PySem.W.Frag) : Sp := fun vs H Q _ => ∃ (a : Addr) (ns : List Int) (k : Nat), vs = [.ref a, .int k] ∧ SqL K H a (ns.map V.int) ∧ Q (.int (ns.getD k 0)) H
def spWell : Sp := fun vs H Q _ => ∃ c : Int, vs = [.int c] ∧ ∀ p : Addr, H p = none → ∀ H', Same H H' → WellAt H' p 0 → Q (.ref p) H'
/-- a number from 0 to below m; the well has at most one more -/
def spDraw : Sp := fun vs H Q _ => ∃ (a : Addr) (c m : Int), vs = [.ref a, .int m] ∧ WellAt H a c ∧ c ≤ 1000000000 ∧ 0 < m ∧ m.natAbs < 2 ^ 9000 ∧
  ∀ (r : Int) (H' : Hp), 0 ≤ r → r < m → SameBut a H H' → (∀ b, H b = none → H' b = none) → WellAt H' a (c + 1) → Q (.int r) H'
def topS (i : Nat) : Stmt := PySem.Challenge.pw_echobound_k83_whole_no_sum_goes_over.main.body.getD i (.Pass ⟨0, 0, 0, 0⟩)
abbrev s__wall : Stmt := topS 0
abbrev s_is_whole : Stmt := topS 11
abbrev s_shared_divisor : Stmt := topS 12
abbrev s_lowest : Stmt := topS 13
abbrev s_times : Stmt := topS 14
abbrev s_divided : Stmt := topS 15
abbrev s_two_to : Stmt := topS 16
abbrev s_downward : Stmt := topS 18
abbrev s_upward : Stmt := topS 19
abbrev s_inward : Stmt := topS 20
abbrev s_outward : Stmt := topS 21
abbrev s_nearest_greater : Stmt := topS 22
abbrev s_nearest_even : Stmt := topS 23
abbrev s_nearest_far : Stmt := topS 24
abbrev s_is_manner : Stmt := topS 26
abbrev s_rounded : Stmt := topS 27
abbrev s_is_width : Stmt := topS 33
abbrev s_is_point : Stmt := topS 34
abbrev s_is_ends : Stmt := topS 35
abbrev s_is_place : Stmt := topS 45
abbrev s_is_factor : Stmt := topS 46
abbrev s_in_point : Stmt := topS 47
abbrev s_old_point : Stmt := topS 48
abbrev s_times_point : Stmt := topS 49
abbrev s_sum_point : Stmt := topS 50
abbrev s_move_point : Stmt := topS 51
abbrev s_keep_point : Stmt := topS 52
abbrev s_is_written_as_row : Stmt := topS 54
abbrev s_row_point : Stmt := topS 55
abbrev s_check_length : Stmt := topS 56
abbrev s_check_forms : Stmt := topS 57
abbrev s_is_hold : Stmt := topS 58
abbrev s_check_holds : Stmt := topS 59
abbrev s_checked_points : Stmt := topS 60
abbrev s_check_links : Stmt := topS 61
abbrev s_enter_form : Stmt := topS 63
abbrev s_swept : Stmt := topS 64
abbrev s_is_numbers : Stmt := topS 67
abbrev s_dot : Stmt := topS 69
abbrev s_check_taps : Stmt := topS 73
abbrev s_extremes : Stmt := topS 74
abbrev s_width_for : Stmt := topS 75
abbrev s_guard : Stmt := topS 76
abbrev s_is_state : Stmt := topS 78
abbrev s_check_state : Stmt := topS 79
abbrev s_check_word : Stmt := topS 80
abbrev s_first_state : Stmt := topS 81
abbrev s_sum_number : Stmt := topS 82
abbrev s_number_of_row : Stmt := topS 83
abbrev s_state_behind : Stmt := topS 84
abbrev s_turn_of : Stmt := topS 85
abbrev s_went_over : Stmt := topS 86
abbrev s_overs : Stmt := topS 87
abbrev s__law_cell_at : Stmt := topS 91
abbrev s__law_well : Stmt := topS 92
abbrev s__law_draw : Stmt := topS 93
abbrev s__law_net : Stmt := topS 94
abbrev s__law_word : Stmt := topS 95
abbrev s_law : Stmt := topS 96
abbrev s_overs_machines : Stmt := topS 87
section
variable {P : Program} {w : World} {K : PySem.W.Frag} {mg : Str → Option Value} {base : Heap}
theorem sc__law_cell_at : FnScope ["_law_script", "_law_k"] ["_law_script", "_law_k"] (defScope s__law_cell_at) := ⟨rfl, rfl, rfl, by decide +kernel, rfl, by decide +kernel, by decide +kernel⟩
theorem sc__law_well : FnScope ["_law_cell"] ["_law_cell"] (defScope s__law_well) := ⟨rfl, rfl, rfl, by decide +kernel, rfl, by decide +kernel, by decide +kernel⟩
theorem sc__law_draw : FnScope ["_law_well_here", "_law_many", "_law_found", "_law_number"] ["_law_well_here", "_law_many"] (defScope s__law_draw) := ⟨rfl, rfl, rfl, by decide +kernel, rfl, by decide +kernel, by decide +kernel⟩
theorem ok_cell {f : Addr} {fd : FuncData} {k : Nat} (F : Fun K "_law_cell_at" "_law_cell_at" s__law_cell_at f fd) (zl : mg "len" = none) : FnOk P w K mg base CX0 (k + 1) f fd ["_law_script", "_law_k"] (spCell K) := by
  refine F.ok sc__law_cell_at (fun vs H Q E h => ?_) (fun cdv A outer s H vs Q E hr h => ?_)
  · obtain ⟨a, ns, k, rfl, _⟩ := h
    rfl
  · obtain ⟨a, ns, k, rfl, hS, q⟩ := h
    refine ⟨_, (pss_cons (ps_if (pt_cmpR op_lt (pv 1) (pe_callB call_len_seq (by rfl) zl PySem.boot_len (pa_cons (pv 0) pa_nil)) (nomark _)) (pss_one (ps_ret (pe_ix ix_list (pv 0) (pv 1) (fun _ _ => rfl)))) pss_nil)
      (pss_one (ps_ret pe_int))), ?_⟩
    refine ⟨_, rfl, _, rfl, a, _, rfl, .inl hS, _, _, rfl, rfl, _, rfl, ite2 (fun c => ?_) (fun c => ?_)⟩
    · have hk : k < ns.length := by
        have := toB c
        rw [List.length_map] at this
        omega
      refine ⟨_, rfl, _, rfl, a, _, k, .int (ns.getD k 0), rfl, rfl, hS, atI_nat ?_, q⟩
      rw [List.getElem?_map, List.getElem?_eq_getElem hk, List.getD_eq_getElem?_getD, List.getElem?_eq_getElem hk]
      rfl
    · have hk : ¬ k < ns.length := fun z => by
        have := toNB c
        rw [List.length_map] at this
        omega
      have e : ns.getD k 0 = 0 := by
        rw [List.getD_eq_getElem?_getD, List.getElem?_eq_none (by omega)]
        rfl
      rw [e] at q
      exact q
theorem ok_well {f : Addr} {fd : FuncData} {k : Nat} (F : Fun K "_law_well" "_law_well" s__law_well f fd) (zi : mg "int" = none) : FnOk P w K mg base CX0 (k + 1) f fd ["_law_cell"] spWell := by
  refine F.ok sc__law_well (fun vs H Q E h => ?_) (fun cdv A outer s H vs Q E hr h => ?_)
  · obtain ⟨c, rfl, _⟩ := h
    rfl
  · obtain ⟨c, rfl, q⟩ := h
    refine ⟨_, (pss_one (ps_ret (pe_lst (pa_cons (pe_op op_mul (pv 0) (pe_callTy call_int1 (by rfl) zi (by decide +kernel) (pa_cons (pe_cmpR op_ge (pv 0) (pe_op op_pow pe_int pe_int) (nomark _)) pa_nil))) (pa_cons (pe_op op_mod (pv 0) pe_int) (pa_cons pe_int pa_nil)))))), ?_⟩
    refine ⟨_, rfl, _, rfl, _, _, rfl, rfl, ⟨by decide, by decide, by decide⟩, _, _, rfl, rfl, .inr ⟨_, rfl, _, _, rfl, rfl, .inr ?_, ?_⟩⟩
    · split <;> decide
    · refine ⟨_, rfl, _, _, rfl, rfl, (by show (0 : Int) < 2147483647; decide), (by show 3 ≤ sizeLine; decide), fun p hp => ?_⟩
      exact q p hp _ (same_new hp) ⟨_, _, _, upd_same, Int.emod_nonneg _ (by decide), Int.emod_lt_of_pos _ (by decide), Int.le_refl _, Int.le_refl _⟩
theorem ok_draw {f : Addr} {fd : FuncData} {k : Nat} (F : Fun K "_law_draw" "_law_draw" s__law_draw f fd) : FnOk P w K mg base CX0 (k + 1) f fd ["_law_well_here", "_law_many"] spDraw := by
  refine F.ok sc__law_draw (fun vs H Q E h => ?_) (fun cdv A outer s H vs Q E hr h => ?_)
  · obtain ⟨a, c, m, rfl, _⟩ := h
    rfl
  · obtain ⟨a, c, m, rfl, ⟨x, y, z, hw, y0, y1, z0, z1⟩, hc, m0, m1, q⟩ := h
    have fr : ∀ o b, H b = none → (upd H a o) b = none := fun o b hb => by
      rw [upd_ne (fun e => by rw [e, hw] at hb; cases hb)]
      exact hb
    refine ⟨_, (pss_cons (ps_if (pt_cmpR op_gt (pe_ix ix_list (pv 0) pe_int (fun _ _ => rfl)) pe_int (nomark _)) (pss_cons (ps_set (i := 2) sc__law_draw.nd rfl (.inl rfl) (pe_op op_mod (pe_ix ix_list (pv 0) pe_int (fun _ _ => rfl)) (pv 1)))
      (pss_cons (ps_asg (pe_op op_fdivW (pe_ix ix_list (pv 0) pe_int (fun _ _ => rfl)) (pv 1)) (pg_sub (pv 0) pe_int set_list))
      (pss_one (ps_ret (pv 2))))) pss_nil)
      (pss_cons (ps_asg (pe_op op_add (pe_ix ix_list (pv 0) pe_int (fun _ _ => rfl)) pe_int) (pg_sub (pv 0) pe_int set_list))
      (pss_cons (ps_set (i := 3) sc__law_draw.nd rfl (.inl rfl) (pe_op op_mod (pe_op op_pow (pe_op op_add (pe_op op_add (pe_ix ix_list (pv 0) pe_int (fun _ _ => rfl)) (pe_op op_mul pe_int (pe_ix ix_list (pv 0) pe_int (fun _ _ => rfl)))) pe_int) pe_int) pe_int))
      (pss_cons (ps_set (i := 3) sc__law_draw.nd rfl (.inl rfl) (pe_op op_mod (pe_op op_mul (pv 3) (pe_op op_add (pe_op op_fdiv (pv 3) pe_int) pe_int)) pe_int))
      (pss_one (ps_ret (pe_op op_mod (pe_op op_mod (pe_op op_mul (pv 3) (pe_op op_add (pe_op op_fdiv (pv 3) pe_int) pe_int)) pe_int) (pv 1)))))))), ?_⟩
    refine ⟨_, rfl, a, _, 0, .int x, rfl, rfl, SqL.of hw, a0, x, 0, rfl, rfl, _, rfl, ite2 (fun c => ?_) (fun c => ?_)⟩
    · refine ⟨_, rfl, a, _, 0, .int x, rfl, rfl, SqL.of hw, a0, _, rfl, x, m, rfl, rfl, m0, ?_⟩
      refine ⟨_, rfl, a, _, 0, .int x, rfl, rfl, SqL.of hw, a0, _, rfl, x, m, rfl, rfl, wide_div m0 m1 (by decide) (Nat.le_refl _), _, rfl, a, _, 0, 0, rfl, rfl, hw, rfl, ?_⟩
      refine ⟨_, rfl, q _ _ (Int.emod_nonneg _ (by omega)) (Int.emod_lt_of_pos _ m0) SameBut.upd (fr _) ⟨_, _, _, upd_same, y0, y1, z0, by omega⟩⟩
    · refine ⟨_, rfl, a, _, 2, .int z, rfl, rfl, SqL.of hw, a2, z, 1, rfl, rfl, _, rfl, a, _, 2, 2, rfl, rfl, hw, rfl, ?_⟩
      have hw2 : (upd H a (.lst [V.int x, V.int y, V.int (z + 1)])) a = some (.lst [V.int x, V.int y, V.int (z + 1)]) := upd_same
      have n5 : 0 ≤ y + 7919 * (z + 1) + 1 ∧ y + 7919 * (z + 1) + 1 < 18446744073709551616 := by omega
      refine ⟨_, rfl, a, _, 1, .int y, rfl, rfl, SqL.of hw2, a1, _, rfl, a, _, 2, .int (z + 1), rfl, rfl, SqL.of hw2, a2, _, _, rfl, rfl, .inl ⟨by decide, by decide⟩, _, _, rfl, rfl, _, _, rfl, rfl, _, _, rfl, rfl, ⟨by decide, by decide, ?_⟩, _, _, rfl, rfl, (by show (0 : Int) < 2147483647; decide), ?_⟩
      · show (y + 7919 * (z + 1) + 1).natAbs < 18446744073709551616
        omega
      · generalize hn : (y + 7919 * (z + 1) + 1) ^ (5 : Int).toNat % 2147483647 = n
        have n0 : 0 ≤ n := by rw [← hn]; exact Int.emod_nonneg _ (by decide)
        have n1 : n < 2147483647 := by rw [← hn]; exact Int.emod_lt_of_pos _ (by decide)
        refine ⟨_, rfl, _, rfl, _, _, rfl, rfl, ⟨by decide, by decide⟩, _, _, rfl, rfl, _, _, rfl, rfl, .inl ⟨by omega, by omega⟩, _, _, rfl, rfl, (by show (0 : Int) < 2147483629; decide), ?_⟩
        generalize hm : n * (n / 1009 + 69621) % 2147483629 = u
        have u0 : 0 ≤ u := by rw [← hm]; exact Int.emod_nonneg _ (by decide)
        have u1 : u < 2147483629 := by rw [← hm]; exact Int.emod_lt_of_pos _ (by decide)
        refine ⟨_, rfl, _, rfl, _, _, rfl, rfl, ⟨by decide, by decide⟩, _, _, rfl, rfl, _, _, rfl, rfl, .inl ⟨by omega, by omega⟩, _, _, rfl, rfl, (by show (0 : Int) < 2147483587; decide), _, rfl, _, _, rfl, rfl, m0, ?_⟩
        exact q _ _ (Int.emod_nonneg _ (by omega)) (Int.emod_lt_of_pos _ m0) SameBut.upd (fr _) ⟨_, _, _, upd_same, y0, y1, by omega, by omega⟩
end
end E1

namespace E1
open PySem PySem.Spec PyProof.Rows L2

def CalD (P : Program) (w : World) (K : PySem.W.Frag) (mg : Str → Option Value) (base : Heap) (k : Nat) (x : Str) (ps : List Str) (dvs : List V) (sp : Sp) : Prop :=
  ∃ (f : Addr) (fd : FuncData) (ds : List Value), mg x = some (.ref f) ∧ PySem.W.keepIn K (.ref f) = true ∧ Vals dvs ds ∧ Binds K fd ps ds ∧ FnOk P w K mg base CX0 k f fd ps sp
theorem pe_cald {X : Cx} {k j : Nat} {x : Str} {ps : List Str} {dvs : List V} {sp : Sp} {e : Expr} {es : List Expr} {t : TA} {p pos : Pos} (c : CalD X.prog X.w X.K X.mg X.base k x ps dvs sp) (hr : Room j X.A) (ha : PA X (e :: es) t) (hle : k ≤ j := by decide) (hg : Gl X x := by rfl)
    (hdb : (x == ("__debug__" : Str)) = false := by decide) (he : starEach (e :: es) X.env = (false, eval e X.env) :: starEach es X.env := by rfl) (hpl : (backTo pos (starEach es X.env)).any (·.1) = false := by rfl) :
    PE X (.Call (.Name x p) (e :: es) [] pos) (tCall sp dvs E0 t) := by
  obtain ⟨f, fd, ds, h1, h2, hd, h3, h4⟩ := c
  exact pe_call h4 (hr.mono hle) hg h1 h2 h3 hd pass0 ha hdb he hpl
def CalK (P : Program) (w : World) (K : PySem.W.Frag) (mg : Str → Option Value) (base : Heap) (k : Nat) (x : Str) (ps : List Str) (n : Nat) (ks : List Str) (gV : List V → List V → List V) (sp : Sp) : Prop :=
  ∃ (f : Addr) (fd : FuncData) (g : List Value → List Value → List Value), mg x = some (.ref f) ∧ PySem.W.keepIn K (.ref f) = true ∧ KBn K fd ps n ks g gV ∧ FnOk P w K mg base CX0 k f fd ps sp
theorem pe_calk {X : Cx} {k j n : Nat} {x : Str} {ps ks : List Str} {gV : List V → List V → List V} {sp : Sp} {e : Expr} {es : List Expr} {kws : List Keyword} {t tk : TA} {p pos : Pos} (c : CalK X.prog X.w X.K X.mg X.base k x ps n ks gV sp) (hr : Room j X.A)
    (ha : PA X (e :: es) t) (hkw : PK X kws tk) (hle : k ≤ j := by decide) (hg : Gl X x := by rfl) (hall : (backToKw pos (keywordEach kws X.env)).all (·.1.isSome) = true := by rfl) (hks : (backToKw pos (keywordEach kws X.env)).filterMap (·.1) = ks := by rfl)
    (hdb : (x == ("__debug__" : Str)) = false := by decide) (he : starEach (e :: es) X.env = (false, eval e X.env) :: starEach es X.env := by rfl)
    (hpl : ((backTo pos (starEach (e :: es) X.env)).any (·.1) || (backToKw pos (keywordEach kws X.env)).any (·.1.isNone)) = false := by rfl) :
    PE X (.Call (.Name x p) (e :: es) kws pos) (tCallN n ks.length sp gV E0 t tk) := by
  obtain ⟨f, fd, g, h1, h2, h3, h4⟩ := c
  exact pe_callN h4 (hr.mono hle) hg h1 h2 h3 pass0 ha hkw hall hks hdb he hpl
theorem pe_calk0 {X : Cx} {k j : Nat} {x : Str} {ps ks : List Str} {gV : List V → List V → List V} {sp : Sp} {kws : List Keyword} {tk : TA} {p pos : Pos} (c : CalK X.prog X.w X.K X.mg X.base k x ps 0 ks gV sp) (hr : Room j X.A)
    (hkw : PK X kws tk) (hle : k ≤ j := by decide) (hg : Gl X x := by rfl) (hall : (backToKw pos (keywordEach kws X.env)).all (·.1.isSome) = true := by rfl) (hks : (backToKw pos (keywordEach kws X.env)).filterMap (·.1) = ks := by rfl)
    (hdb : (x == ("__debug__" : Str)) = false := by decide)
    (hpl : ((backTo pos (starEach [] X.env)).any (·.1) || (backToKw pos (keywordEach kws X.env)).any (·.1.isNone)) = false := by rfl) :
    PE X (.Call (.Name x p) [] kws pos) (tCallN 0 ks.length sp gV E0 tNil tk) := by
  obtain ⟨f, fd, g, h1, h2, h3, h4⟩ := c
  refine ⟨fun pins s σ H Q I h => ?_⟩
  refine wpAny_Call_Name_kw (ld_glob I hg h1 ?_ hdb)
  refine PySem.W.callWith_KW0 (h₀ := X.base) I.ok.mod.kin h2 hall (thn (hkw.run pos pins s σ H _ I h) fun ws s2 ⟨zs, H2, I2, rz, l1, l2, q2⟩ => ⟨I2.kIn, ?_⟩) hpl
  rw [hks]
  exact run_fnN (vs := []) (us := []) h4 (hr.mono hle) h3 pass0 I2 .nil rz l1 l2 q2
/-- a class handed to isinstance -/
theorem isiB {K : PySem.W.Frag} {H : Hp} {x : V} {a b : String} {r : Bool} {Q : VK} (ty : TyX K H x (.type a)) (k : kitB a b = some r) (q : Q (.bl r) H) : rIsi K [x, .ty b] H Q :=
  ⟨x, .ty b, .type a, .type b, r, rfl, .ty _, ty, kit_ty k, q⟩
/-- whether a thing is a whole number -/
def WholeIs (K : PySem.W.Frag) (H : Hp) (x : V) (b : Bool) : Prop := (∃ i, x = .int i ∧ b = true) ∨ (∃ c, x = .bl c ∧ b = false) ∨ (b = false ∧ ∃ t : String, TyX K H x (.type t) ∧ kitB t "int" = some false)
theorem WholeIs.int {K : PySem.W.Frag} {H : Hp} (i : Int) : WholeIs K H (.int i) true := .inl ⟨i, rfl, rfl⟩
def spWhole (K : PySem.W.Frag) : Sp := fun vs H Q _ => ∃ (x : V) (b : Bool), vs = [x] ∧ WholeIs K H x b ∧ Q (.bl b) H
/-! ### the mathematics of fractions in lowest terms -/
def gI (t b : Int) : Int := (Int.gcd t b : Nat)
def lowT (t b : Int) : Int := (if b < 0 then -t else t) / gI t b
def lowB (t b : Int) : Int := (if b < 0 then -b else b) / gI t b
theorem gI_neg (t b : Int) : gI (-t) (-b) = gI t b := by
  unfold gI
  rw [Int.neg_gcd, Int.gcd_neg]
theorem gI_pos {t b : Int} (h : b ≠ 0) : 0 < gI t b := by
  have : 0 < Int.gcd t b := Int.gcd_pos_of_ne_zero_right t h
  unfold gI
  omega
theorem gI_le {t b : Int} (h : b ≠ 0) : (gI t b).natAbs ≤ b.natAbs := by
  have d : Int.gcd t b ∣ b.natAbs := Nat.gcd_dvd_right t.natAbs b.natAbs
  have := Nat.le_of_dvd (by omega) d
  unfold gI
  omega
def spShared : Sp := fun vs H Q _ => ∃ t b : Int, vs = [.int t, .int b] ∧ 0 ≤ b ∧ Q (.int (gI t b)) H
def spLow : Sp := fun vs H Q _ => ∃ t b : Int, vs = [.int t, .int b] ∧ b ≠ 0 ∧ b.natAbs < 2 ^ 4000 ∧ ∀ p, H p = none → Q (.ref p) (upd H p (.tup [.int (lowT t b), .int (lowB t b)]))
/-- two fractions at two places; the tops and bottoms told by f and d -/
def spTwo (K : PySem.W.Frag) (pre : Int → Int → Int → Int → Prop) (f d : Int → Int → Int → Int → Int) : Sp := fun vs H Q _ => ∃ (a c : Addr) (t u v x : Int), vs = [.ref a, .ref c] ∧ SqT K H a [.int t, .int u] ∧ SqT K H c [.int v, .int x] ∧
  pre t u v x ∧ 0 < u ∧ 0 < x ∧ t.natAbs < 2 ^ 1900 ∧ u.natAbs < 2 ^ 1900 ∧ v.natAbs < 2 ^ 1900 ∧ x.natAbs < 2 ^ 1900 ∧ ∀ p, H p = none → Q (.ref p) (upd H p (.tup [.int (lowT (f t u v x) (d t u v x)), .int (lowB (f t u v x) (d t u v x))]))
def spUnder (K : PySem.W.Frag) : Sp := fun vs H Q _ => ∃ (a c : Addr) (t u v x : Int), vs = [.ref a, .ref c] ∧ SqT K H a [.int t, .int u] ∧ SqT K H c [.int v, .int x] ∧
  t.natAbs < 2 ^ 1900 ∧ u.natAbs < 2 ^ 1900 ∧ v.natAbs < 2 ^ 1900 ∧ x.natAbs < 2 ^ 1900 ∧ Q (.bl (decide (t * x < v * u))) H
def absI (t : Int) : Int := if t < 0 then -t else t
def spSize (K : PySem.W.Frag) : Sp := fun vs H Q _ => ∃ (a : Addr) (t u : Int), vs = [.ref a] ∧ SqT K H a [.int t, .int u] ∧ ∀ p, H p = none → Q (.ref p) (upd H p (.tup [.int (absI t), .int u]))
def twoT (m : Int) : Int := if m < 0 then 1 else 2 ^ m.toNat
def twoB (m : Int) : Int := if m < 0 then 2 ^ (-m).toNat else 1
def spTwoTo : Sp := fun vs H Q _ => ∃ m : Int, vs = [.int m] ∧ -400 ≤ m ∧ m ≤ 400 ∧ ∀ p, H p = none → Q (.ref p) (upd H p (.tup [.int (twoT m), .int (twoB m)]))
def spIsFrac : Sp := fun vs H Q _ => ∃ (a : Addr) (t u : Int), vs = [.ref a] ∧ H a = some (.tup [.int t, .int u]) ∧ 1 ≤ u ∧ Q (.bl (decide (gI t u = 1))) H
theorem up {x : Nat} {a b : Nat} (h : x < 2 ^ a) (l : a ≤ b) : x < 2 ^ b := Nat.lt_of_lt_of_le h (Nat.pow_le_pow_right (by decide) l)
theorem up2 {x y : Nat} {a b : Nat} (h : x ≤ y) (h2 : y < 2 ^ a) (l : a ≤ b) : x < 2 ^ b := Nat.lt_of_le_of_lt h (up h2 l)
theorem same_but {H H1 H2 : Hp} {p : Addr} (s : Same H H1) (b : SameBut p H1 H2) (hp : H p = none) : Same H H2 := fun a o e => b a o (ne_of_none e hp) (s a o e)
theorem Same.free {H H' : Hp} {p : Addr} (s : Same H H') (h : H' p = none) : H p = none := by
  cases e : H p with
  | none => rfl
  | some o =>
    rw [s _ _ e] at h
    cases h
structure Zs (mg : Str → Option Value) : Prop where
  isinstance : mg "isinstance" = none
  int : mg "int" = none
  bool : mg "bool" = none
  abs : mg "abs" = none
  str : mg "str" = none
  len : mg "len" = none
  max : mg "max" = none
  tuple : mg "tuple" = none
  list : mg "list" = none
  enumerate : mg "enumerate" = none
  all : mg "all" = none
  sum : mg "sum" = none
  zip : mg "zip" = none
  range : mg "range" = none
section
variable {P : Program} {w : World} {K : PySem.W.Frag} {mg : Str → Option Value} {base : Heap}
theorem sc_is_whole : FnScope ["thing"] ["thing"] (defScope s_is_whole) := ⟨rfl, rfl, rfl, by decide +kernel, rfl, by decide +kernel, by decide +kernel⟩
theorem ok_is_whole {f : Addr} {fd : FuncData} {k : Nat} (F : Fun K "is_whole" "is_whole" s_is_whole f fd) (z : Zs mg) : FnOk P w K mg base CX0 (k + 1) f fd ["thing"] (spWhole K) := by
  refine F.ok sc_is_whole (fun vs H Q E h => ?_) (fun cdv A outer s H vs Q E hr h => ?_)
  · obtain ⟨x, b, rfl, _⟩ := h
    rfl
  · obtain ⟨x, b, rfl, hw, q⟩ := h
    refine ⟨_, (pss_one (ps_ret (pe_and (pe_callB call_isi (by rfl) z.isinstance (by decide +kernel) (pa_cons (pv 0) (pa_cons (pe_bltn (v := .ty "int") (by rfl) z.int (by decide +kernel) rfl) pa_nil))) (pe_one (pe_not (pe_callB call_isi (by rfl) z.isinstance (by decide +kernel) (pa_cons (pv 0) (pa_cons (pe_bltn (v := .ty "bool") (by rfl) z.bool (by decide +kernel) rfl) pa_nil)))))))), ?_⟩
    rcases hw with ⟨i, rfl, rfl⟩ | ⟨c, rfl, rfl⟩ | ⟨rfl, t, ty, kt⟩
    · exact ⟨_, rfl, _, .ty "int", _, _, true, rfl, .ty _, .base (.int i), kit_ty (by decide +kernel), _, rfl, iteT ⟨_, rfl, _, .ty "bool", _, _, false, rfl, .ty _, .base (.int i), kit_ty (by decide +kernel), _, rfl, q⟩⟩
    · exact ⟨_, rfl, _, .ty "int", _, _, true, rfl, .ty _, .base (.bl c), kit_ty (by decide +kernel), _, rfl, iteT ⟨_, rfl, _, .ty "bool", _, _, true, rfl, .ty _, .base (.bl c), kit_ty (by decide +kernel), _, rfl, q⟩⟩
    · exact ⟨_, rfl, _, .ty "int", _, _, false, rfl, .ty _, ty, kit_ty kt, _, rfl, iteF q⟩
theorem sc_shared_divisor : FnScope ["top", "bottom", "one", "other"] ["top", "bottom"] (defScope s_shared_divisor) := ⟨rfl, rfl, rfl, by decide +kernel, rfl, by decide +kernel, by decide +kernel⟩
theorem ok_shared_divisor {f : Addr} {fd : FuncData} {k : Nat} (F : Fun K "shared_divisor" "shared_divisor" s_shared_divisor f fd) (z : Zs mg) : FnOk P w K mg base CX0 (k + 1) f fd ["top", "bottom"] spShared := by
  refine F.ok sc_shared_divisor (fun vs H Q E h => ?_) (fun cdv A outer s H vs Q E hr h => ?_)
  · obtain ⟨t, b, rfl, _⟩ := h
    rfl
  · obtain ⟨t, b, rfl, hb, q⟩ := h
    refine ⟨_, (pss_cons (ps_set (i := 2) sc_shared_divisor.nd rfl (.inl rfl) (pe_callB call_abs (by rfl) z.abs (by decide +kernel) (pa_cons (pv 0) pa_nil)))
      (pss_cons (ps_set (i := 3) sc_shared_divisor.nd rfl (.inl rfl) (pv 1))
      (pss_cons (ps_while PassesOwn.never (pt_truth (pv 3) (by intro _; rfl)) (pss_one (ps_par (i := 2) (j := 3) (by rfl) sc_shared_divisor.nd rfl rfl (by decide) rfl rfl (pa_cons (pv 3) (pa_cons (pe_op op_mod (pv 2) (pv 3)) pa_nil)) (by rfl))))
      (pss_one (ps_ret (pv 2)))))), ?_⟩
    refine ⟨_, rfl, _, rfl, ?_⟩
    refine ⟨_, rfl, ?_⟩
    dsimp only [gName, tSeq]
    refine while_by (fun σ H' => H' = H ∧ ∃ m n : Nat, σ = [some (.int t), some (.int b), some (.int (m : Int)), some (.int (n : Int))] ∧ Nat.gcd m n = Int.gcd t b)
      (fun σ _ => match σ with | [_, _, _, some (.int r)] => r.toNat | _ => 0) ⟨rfl, t.natAbs, b.natAbs, ?_, rfl⟩ (fun σ H1 hP => ?_) (fun σ H Q Q' m hh => ?_)
    · have e1 : (if t < 0 then -t else t) = (t.natAbs : Int) := by split <;> omega
      have e2 : b = (b.natAbs : Int) := by omega
      show [some (V.int t), some (V.int b), some (V.int (if t < 0 then -t else t)), some (V.int b)] = _
      rw [e1, ← e2]
    · obtain ⟨rfl, m, n, rfl, hg⟩ := hP
      refine ⟨_, rfl, _, rfl, ?_⟩
      by_cases hn : n = 0
      · subst hn
        have e : ((((0 : Nat) : Int)) != 0) = false := rfl
        rw [e]
        refine iteF ⟨_, rfl, ?_⟩
        rw [Nat.gcd_zero_right] at hg
        have e2 : (m : Int) = gI t b := by
          unfold gI
          rw [hg]
        rw [e2]
        exact q
      · have e : ((n : Int) != 0) = true := by
          rw [bne_iff_ne]
          omega
        rw [e]
        refine iteT ⟨_, rfl, _, rfl, _, rfl, _, _, rfl, rfl, (by omega), _, _, rfl, ⟨⟨rfl, n, m % n, rfl, ?_⟩, ?_⟩⟩
        · rw [← hg, Nat.gcd_comm n (m % n), ← Nat.gcd_rec n m, Nat.gcd_comm]
        · show ((m : Int) % (n : Int)).toNat < ((n : Int)).toNat
          have := Int.emod_lt_of_pos (m : Int) (show (0 : Int) < n by omega)
          have := Int.emod_nonneg (m : Int) (show (n : Int) ≠ 0 by omega)
          omega
    · obtain ⟨v, e, kk, tv, hq⟩ := hh
      exact ⟨v, e, kk, tv, m _ _ hq⟩
theorem sc_lowest : FnScope ["top", "bottom", "shared"] ["top", "bottom"] (defScope s_lowest) := ⟨rfl, rfl, rfl, by decide +kernel, rfl, by decide +kernel, by decide +kernel⟩
theorem ok_lowest {f : Addr} {fd : FuncData} (F : Fun K "lowest" "lowest" s_lowest f fd) (c_shared_divisor : Cal P w K mg base 1 "shared_divisor" ["top", "bottom"] spShared) : FnOk P w K mg base CX0 2 f fd ["top", "bottom"] spLow := by
  refine F.ok sc_lowest (fun vs H Q E h => ?_) (fun cdv A outer s H vs Q E hr h => ?_)
  · obtain ⟨t, b, rfl, _⟩ := h
    rfl
  · obtain ⟨t, b, rfl, hb, hl, q⟩ := h
    refine ⟨_, (pss_cons (ps_if (pt_cmpR op_lt (pv 1) pe_int (nomark _)) (pss_cons (ps_set (i := 0) sc_lowest.nd rfl (.inl rfl) (pe_un un_neg (pv 0)))
      (pss_one (ps_set (i := 1) sc_lowest.nd rfl (.inl rfl) (pe_un un_neg (pv 1))))) pss_nil)
      (pss_cons (ps_set (i := 2) sc_lowest.nd rfl (.inl rfl) (pe_cal c_shared_divisor hr (pa_cons (pv 0) (pa_cons (pv 1) pa_nil))))
      (pss_one (ps_ret (pe_tup (pa_cons (pe_op op_fdivW (pv 0) (pv 2)) (pa_cons (pe_op op_fdivW (pv 1) (pv 2)) pa_nil))))))), ?_⟩
    have g0 := gI_pos (t := t) hb
    have g1 : (gI t b).natAbs < 2 ^ 4000 := Nat.lt_of_le_of_lt (gI_le hb) hl
    refine ⟨_, rfl, _, _, rfl, rfl, _, rfl, ite2 (fun c => ?_) (fun c => ?_)⟩
    · have hc := toB c
      refine ⟨_, rfl, _, rfl, ?_⟩
      refine ⟨_, rfl, _, rfl, ?_⟩
      refine ⟨_, rfl, _, rfl, -t, -b, rfl, by omega, ?_⟩
      rw [gI_neg]
      refine ⟨_, rfl, _, rfl, _, _, rfl, rfl, wide_div g0 g1 (by decide) (by decide), _, rfl, _, rfl, _, _, rfl, rfl, wide_div g0 g1 (by decide) (by decide), (by show 2 ≤ sizeLine; decide), fun p hp => ?_⟩
      have := q p hp
      unfold lowT lowB at this
      rw [if_pos hc, if_pos hc] at this
      exact this
    · have hc := toNB c
      refine ⟨_, rfl, _, rfl, t, b, rfl, by omega, ?_⟩
      refine ⟨_, rfl, _, rfl, _, _, rfl, rfl, wide_div g0 g1 (by decide) (by decide), _, rfl, _, rfl, _, _, rfl, rfl, wide_div g0 g1 (by decide) (by decide), (by show 2 ≤ sizeLine; decide), fun p hp => ?_⟩
      have := q p hp
      unfold lowT lowB at this
      rw [if_neg hc, if_neg hc] at this
      exact this
theorem sc_times : FnScope ["one", "other"] ["one", "other"] (defScope s_times) := ⟨rfl, rfl, rfl, by decide +kernel, rfl, by decide +kernel, by decide +kernel⟩
theorem ok_times {f : Addr} {fd : FuncData} (F : Fun K "times" "times" s_times f fd) (c_lowest : Cal P w K mg base 2 "lowest" ["top", "bottom"] spLow) : FnOk P w K mg base CX0 3 f fd ["one", "other"] (spTwo K (fun t u v x => True) (fun t u v x => t * v) (fun t u v x => u * x)) := by
  refine F.ok sc_times (fun vs H Q E h => ?_) (fun cdv A outer s H vs Q E hr h => ?_)
  · obtain ⟨a, c, t, u, v, x, rfl, _⟩ := h
    rfl
  · obtain ⟨a, c, t, u, v, x, rfl, ha, hc, pr, hu, hx, b1, b2, b3, b4, q⟩ := h
    refine ⟨_, (pss_one (ps_ret (pe_cal c_lowest hr (pa_cons (pe_op op_mulW (pe_ix ix_tup (pv 0) pe_int (fun _ _ => rfl)) (pe_ix ix_tup (pv 1) pe_int (fun _ _ => rfl))) (pa_cons (pe_op op_mulW (pe_ix ix_tup (pv 0) pe_int (fun _ _ => rfl)) (pe_ix ix_tup (pv 1) pe_int (fun _ _ => rfl))) pa_nil))))), ?_⟩
    have nz : u * x ≠ 0 := Int.mul_ne_zero (by omega) (by omega)
    refine ⟨_, rfl, a, _, 0, .int t, rfl, rfl, ha, a0, _, rfl, c, _, 0, .int v, rfl, rfl, hc, a0, _, _, rfl, rfl, wide_mul b1 b3 (by decide) (by decide) (by decide), _, rfl, a, _, 1, .int u, rfl, rfl, ha, a1, _, rfl, c, _, 1, .int x, rfl, rfl, hc, a1, _, _, rfl, rfl, wide_mul b2 b4 (by decide) (by decide) (by decide), _, _, rfl, nz, ?_, q⟩
    exact Nat.lt_of_lt_of_le (wide_lt b2 b4) (Nat.pow_le_pow_right (by decide) (by decide))
theorem sc_divided : FnScope ["one", "other"] ["one", "other"] (defScope s_divided) := ⟨rfl, rfl, rfl, by decide +kernel, rfl, by decide +kernel, by decide +kernel⟩
theorem ok_divided {f : Addr} {fd : FuncData} (F : Fun K "divided" "divided" s_divided f fd) (c_lowest : Cal P w K mg base 2 "lowest" ["top", "bottom"] spLow) : FnOk P w K mg base CX0 3 f fd ["one", "other"] (spTwo K (fun t u v x => v ≠ 0) (fun t u v x => t * x) (fun t u v x => u * v)) := by
  refine F.ok sc_divided (fun vs H Q E h => ?_) (fun cdv A outer s H vs Q E hr h => ?_)
  · obtain ⟨a, c, t, u, v, x, rfl, _⟩ := h
    rfl
  · obtain ⟨a, c, t, u, v, x, rfl, ha, hc, pr, hu, hx, b1, b2, b3, b4, q⟩ := h
    refine ⟨_, (pss_cons (ps_if (pt_cmpR op_eq (pe_ix ix_tup (pv 1) pe_int (fun _ _ => rfl)) pe_int (nomark _)) (pss_one ps_never) pss_nil)
      (pss_one (ps_ret (pe_cal c_lowest hr (pa_cons (pe_op op_mulW (pe_ix ix_tup (pv 0) pe_int (fun _ _ => rfl)) (pe_ix ix_tup (pv 1) pe_int (fun _ _ => rfl))) (pa_cons (pe_op op_mulW (pe_ix ix_tup (pv 0) pe_int (fun _ _ => rfl)) (pe_ix ix_tup (pv 1) pe_int (fun _ _ => rfl))) pa_nil)))))), ?_⟩
    have nz : u * v ≠ 0 := Int.mul_ne_zero (by omega) pr
    refine ⟨_, rfl, c, _, 0, .int v, rfl, rfl, hc, a0, rfl, _, rfl, ite2 (fun c' => absurd (V.int.inj (toB c')) pr) (fun _ => ?_)⟩
    refine ⟨_, rfl, a, _, 0, .int t, rfl, rfl, ha, a0, _, rfl, c, _, 1, .int x, rfl, rfl, hc, a1, _, _, rfl, rfl, wide_mul b1 b4 (by decide) (by decide) (by decide), _, rfl, a, _, 1, .int u, rfl, rfl, ha, a1, _, rfl, c, _, 0, .int v, rfl, rfl, hc, a0, _, _, rfl, rfl, wide_mul b2 b3 (by decide) (by decide) (by decide), _, _, rfl, nz, ?_, q⟩
    exact Nat.lt_of_lt_of_le (wide_lt b2 b3) (Nat.pow_le_pow_right (by decide) (by decide))
theorem sc_two_to : FnScope ["many"] ["many"] (defScope s_two_to) := ⟨rfl, rfl, rfl, by decide +kernel, rfl, by decide +kernel, by decide +kernel⟩
theorem ok_two_to {f : Addr} {fd : FuncData} (F : Fun K "two_to" "two_to" s_two_to f fd) (z : Zs mg) (c_is_whole : Cal P w K mg base 1 "is_whole" ["thing"] (spWhole K)) (g_GREATEST_POWER : ∃ t, mg "GREATEST_POWER" = some (.int 400 t)) : FnOk P w K mg base CX0 2 f fd ["many"] spTwoTo := by
  refine F.ok sc_two_to (fun vs H Q E h => ?_) (fun cdv A outer s H vs Q E hr h => ?_)
  · obtain ⟨m, rfl, _⟩ := h
    rfl
  · obtain ⟨m, rfl, m0, m1, q⟩ := h
    obtain ⟨tok, gP⟩ := g_GREATEST_POWER
    refine ⟨_, (pss_cons (ps_if (PW.pt (pw_or (pt_not (pt_val (pe_cal c_is_whole hr (pa_cons (pv 0) pa_nil)))) (pw_or1 (pt_cmpR op_gt (pe_callB call_abs (by rfl) z.abs (by decide +kernel) (pa_cons (pv 0) pa_nil)) (pe_glob (v := .int 400) (by rfl) gP ⟨_, rfl⟩) (nomark _))))) (pss_one ps_never) pss_nil)
      (pss_cons (ps_if (pt_cmpR op_lt (pv 0) pe_int (nomark _)) (pss_one (ps_ret (pe_tup (pa_cons pe_int (pa_cons (pe_op op_shl pe_int (pe_un un_neg (pv 0))) pa_nil))))) pss_nil)
      (pss_one (ps_ret (pe_tup (pa_cons (pe_op op_shl pe_int (pv 0)) (pa_cons pe_int pa_nil))))))), ?_⟩
    refine ⟨_, rfl, _, _, rfl, .int m, _, rfl, iteF ⟨_, rfl, _, rfl, _, _, rfl, rfl, _, rfl, ite2 (fun c => ?_) (fun c => ?_)⟩⟩
    · have := toB c
      split at this <;> omega
    · refine ⟨_, rfl, _, _, rfl, rfl, _, rfl, ite2 (fun c2 => ?_) (fun c2 => ?_)⟩
      · have hm := toB c2
        refine ⟨_, rfl, _, rfl, _, _, rfl, rfl, ⟨by omega, by omega, by decide⟩, (by show 2 ≤ sizeLine; decide), fun p hp => ?_⟩
        have e := q p hp
        unfold twoT twoB at e
        rw [if_pos hm, if_pos hm] at e
        show Q (.ref p) (upd H p (.tup [.int 1, .int (1 * 2 ^ (-m).toNat)]))
        rw [Int.one_mul]
        exact e
      · have hm := toNB c2
        refine ⟨_, rfl, _, _, rfl, rfl, ⟨by omega, by omega, by decide⟩, (by show 2 ≤ sizeLine; decide), fun p hp => ?_⟩
        have e := q p hp
        unfold twoT twoB at e
        rw [if_neg hm, if_neg hm] at e
        show Q (.ref p) (upd H p (.tup [.int (1 * 2 ^ m.toNat), .int 1]))
        rw [Int.one_mul]
        exact e
end
end E1

namespace E1
open PySem PySem.Spec PyProof.Rows L2
/-! ### the seven manners -/
inductive Mn where
  | down | up | inn | out | half | even | far
def Mn.str : Mn → Str
  | .down => "down"
  | .up => "up"
  | .inn => "in"
  | .out => "out"
  | .half => "half"
  | .even => "even"
  | .far => "far"
def fDown (t b : Int) : Int := t / b
def fUp (t b : Int) : Int := -(-t / b)
def fHalf (t b : Int) : Int := (2 * t + b) / (2 * b)
def fEven (t b : Int) : Int := if 2 * (fHalf t b * b - t) = b ∧ fHalf t b % 2 ≠ 0 then fHalf t b - 1 else fHalf t b
def fFar (t b : Int) : Int := if t > 0 then fHalf t b else -(fHalf (-t) b)
def fIn (t b : Int) : Int := if t > 0 then fDown t b else fUp t b
def fOut (t b : Int) : Int := if t > 0 then fUp t b else fDown t b
def Mn.f : Mn → Int → Int → Int
  | .down => fDown
  | .up => fUp
  | .inn => fIn
  | .out => fOut
  | .half => fHalf
  | .even => fEven
  | .far => fFar
def lawR (m : Mn) (t b : Int) : Int :=
  match m with
  | .down => t / b
  | .up => if t % b = 0 then t / b else t / b + 1
  | .inn => if t % b = 0 then t / b else t / b + (if t < 0 then 1 else 0)
  | .out => if t % b = 0 then t / b else t / b + (if t > 0 then 1 else 0)
  | .half => if 2 * (t % b) < b then t / b else t / b + 1
  | .even => if 2 * (t % b) < b then t / b else if b < 2 * (t % b) then t / b + 1 else t / b + t / b % 2
  | .far => if 2 * (t % b) < b then t / b else if b < 2 * (t % b) then t / b + 1 else t / b + (if t > 0 then 1 else 0)
theorem div_is {t b q : Int} (hb : 0 < b) (h1 : q * b ≤ t) (h2 : t < q * b + b) : t / b = q := by
  have a1 : q ≤ t / b := Int.le_ediv_of_mul_le hb h1
  have a2 : t / b < q + 1 := Int.ediv_lt_of_lt_mul hb (by rw [Int.add_mul, Int.one_mul]; exact h2)
  omega
theorem dm (t : Int) {b : Int} (hb : 0 < b) : t = t / b * b + t % b ∧ 0 ≤ t % b ∧ t % b < b := by
  refine ⟨?_, Int.emod_nonneg _ (by omega), Int.emod_lt_of_pos _ hb⟩
  have := Int.mul_ediv_add_emod t b
  rw [Int.mul_comm] at this
  omega
theorem fUp_is {t b : Int} (hb : 0 < b) : fUp t b = if t % b = 0 then t / b else t / b + 1 := by
  obtain ⟨e, r0, r1⟩ := dm t hb
  unfold fUp
  generalize t / b = q at *
  generalize t % b = r at *
  split
  · rename_i h
    have := div_is (t := -t) (q := -q) hb (by rw [Int.neg_mul]; omega) (by rw [Int.neg_mul]; omega)
    rw [this]
    omega
  · rename_i h
    have := div_is (t := -t) (q := -q - 1) hb (by rw [Int.sub_mul, Int.neg_mul, Int.one_mul]; omega) (by rw [Int.sub_mul, Int.neg_mul, Int.one_mul]; omega)
    rw [this]
    omega
theorem fHalf_is {t b : Int} (hb : 0 < b) : fHalf t b = if 2 * (t % b) < b then t / b else t / b + 1 := by
  obtain ⟨e, r0, r1⟩ := dm t hb
  unfold fHalf
  generalize t / b = q at *
  generalize t % b = r at *
  have e2 : q * (2 * b) = 2 * (q * b) := Int.mul_left_comm q 2 b
  split
  · rename_i h
    exact div_is (by omega) (by rw [e2]; omega) (by rw [e2]; omega)
  · rename_i h
    exact div_is (by omega) (by rw [Int.add_mul, e2, Int.one_mul]; omega) (by rw [Int.add_mul, e2, Int.one_mul]; omega)
theorem fHalf_neg {t b : Int} (hb : 0 < b) : -(fHalf (-t) b) = if b < 2 * (t % b) then t / b + 1 else t / b := by
  obtain ⟨e, r0, r1⟩ := dm t hb
  unfold fHalf
  generalize t / b = q at *
  generalize t % b = r at *
  have e2 : q * (2 * b) = 2 * (q * b) := Int.mul_left_comm q 2 b
  split
  · rename_i h
    have := div_is (t := 2 * -t + b) (b := 2 * b) (q := -q - 1) (by omega) (by rw [Int.sub_mul, Int.neg_mul, e2, Int.one_mul]; omega) (by rw [Int.sub_mul, Int.neg_mul, e2, Int.one_mul]; omega)
    rw [this]
    omega
  · rename_i h
    have := div_is (t := 2 * -t + b) (b := 2 * b) (q := -q) (by omega) (by rw [Int.neg_mul, e2]; omega) (by rw [Int.neg_mul, e2]; omega)
    rw [this]
    omega
theorem fEven_is {t b : Int} (hb : 0 < b) : fEven t b = lawR .even t b := by
  obtain ⟨e, r0, r1⟩ := dm t hb
  unfold fEven
  rw [fHalf_is hb]
  show _ = if 2 * (t % b) < b then t / b else if b < 2 * (t % b) then t / b + 1 else t / b + t / b % 2
  generalize t / b = q at *
  generalize t % b = r at *
  by_cases h : 2 * r < b
  · rw [if_pos h, if_pos h, if_neg (by intro z; omega)]
  · rw [if_neg h, if_neg h, Int.add_mul, Int.one_mul]
    by_cases h2 : b < 2 * r
    · rw [if_pos h2, if_neg (by intro z; omega)]
    · rw [if_neg h2]
      by_cases h3 : (q + 1) % 2 ≠ 0
      · rw [if_pos ⟨by omega, h3⟩]
        omega
      · rw [if_neg (fun z => h3 z.2)]
        omega
theorem f_lawR (m : Mn) {t b : Int} (hb : 0 < b) : m.f t b = lawR m t b := by
  obtain ⟨e, r0, r1⟩ := dm t hb
  cases m with
  | down => rfl
  | up => exact fUp_is hb
  | inn =>
    show fIn t b = if t % b = 0 then t / b else t / b + (if t < 0 then 1 else 0)
    unfold fIn fDown
    rw [fUp_is hb]
    by_cases h : t > 0
    · rw [if_pos h, if_neg (show ¬ t < 0 by omega)]
      split <;> omega
    · rw [if_neg h]
      by_cases h2 : t < 0
      · rw [if_pos h2]
      · have h3 : t = 0 := by omega
        rw [if_neg h2, h3]
        simp
  | out =>
    show fOut t b = if t % b = 0 then t / b else t / b + (if t > 0 then 1 else 0)
    unfold fOut fDown
    rw [fUp_is hb]
    by_cases h : t > 0
    · rw [if_pos h, if_pos h]
    · rw [if_neg h, if_neg h]
      split <;> omega
  | half => exact fHalf_is hb
  | even => exact fEven_is hb
  | far =>
    show fFar t b = if 2 * (t % b) < b then t / b else if b < 2 * (t % b) then t / b + 1 else t / b + (if t > 0 then 1 else 0)
    unfold fFar
    rw [fHalf_is hb, fHalf_neg hb]
    by_cases h : t > 0
    · rw [if_pos h, if_pos h]
      split
      · rfl
      · split <;> rfl
    · rw [if_neg h, if_neg h]
      by_cases h2 : 2 * (t % b) < b
      · rw [if_pos h2, if_neg (show ¬ b < 2 * (t % b) by omega)]
      · rw [if_neg h2]
        split <;> omega
theorem lt_g {x y g : Int} (hg : 0 < g) : x * g < y * g ↔ x < y := ⟨fun h => Int.lt_of_mul_lt_mul_right h (Int.le_of_lt hg), fun h => Int.mul_lt_mul_of_pos_right h hg⟩
theorem lawR_mul (m : Mn) {t b g : Int} (hb : 0 < b) (hg : 0 < g) : lawR m (t * g) (b * g) = lawR m t b := by
  have e1 : t * g / (b * g) = t / b := Int.mul_ediv_mul_of_pos_left _ _ hg
  have e2 : t * g % (b * g) = t % b * g := by
    rw [Int.mul_comm t g, Int.mul_comm b g, Int.mul_emod_mul_of_pos _ _ hg, Int.mul_comm]
  have c0 : t % b * g = 0 ↔ t % b = 0 := by
    constructor
    · intro h
      rcases Int.mul_eq_zero.mp h with h | h
      · exact h
      · omega
    · intro h
      rw [h, Int.zero_mul]
  have c1 : t * g < 0 ↔ t < 0 := by
    have := lt_g (x := t) (y := 0) hg
    rw [Int.zero_mul] at this
    exact this
  have c2 : t * g > 0 ↔ t > 0 := by
    have := lt_g (x := 0) (y := t) hg
    rw [Int.zero_mul] at this
    exact this
  have c3 : 2 * (t % b * g) < b * g ↔ 2 * (t % b) < b := by
    rw [← Int.mul_assoc]
    exact lt_g hg
  have c4 : b * g < 2 * (t % b * g) ↔ b < 2 * (t % b) := by
    rw [← Int.mul_assoc]
    exact lt_g hg
  cases m <;> simp only [lawR, e1, e2, c0, c1, c2, c3, c4]
theorem lawR_eq (m : Mn) {t b x y : Int} (hb : 0 < b) (hy : 0 < y) (h : x * b = t * y) : lawR m x y = lawR m t b := by
  rw [← lawR_mul m hy hb, h, Int.mul_comm y b, lawR_mul m hb hy]
/-- how far off -/
theorem lawR_off (m : Mn) {t b : Int} (hb : 0 < b) : -b ≤ lawR m t b * b - t ∧ lawR m t b * b - t ≤ b := by
  obtain ⟨e, r0, r1⟩ := dm t hb
  have key : ∀ q' : Int, (q' = t / b ∨ q' = t / b + 1) → -b ≤ q' * b - t ∧ q' * b - t ≤ b := fun q' h => by
    generalize t / b = q at *
    generalize t % b = r at *
    rcases h with rfl | rfl
    · omega
    · rw [Int.add_mul, Int.one_mul]
      omega
  refine key _ ?_
  clear key
  cases m <;> simp only [lawR] <;> (generalize t / b = q at *) <;> (repeat' split) <;> (first | omega | exact .inl trivial)
theorem lawR_near {m : Mn} {t b : Int} (hb : 0 < b) (hm : m = .half ∨ m = .even ∨ m = .far) : -b ≤ 2 * (lawR m t b * b - t) ∧ 2 * (lawR m t b * b - t) ≤ b := by
  obtain ⟨e, r0, r1⟩ := dm t hb
  have key : ∀ q' : Int, ((q' = t / b ∧ 2 * (t % b) ≤ b) ∨ (q' = t / b + 1 ∧ b ≤ 2 * (t % b))) → -b ≤ 2 * (q' * b - t) ∧ 2 * (q' * b - t) ≤ b := fun q' h => by
    generalize t / b = q at *
    generalize t % b = r at *
    rcases h with ⟨rfl, h⟩ | ⟨rfl, h⟩
    · omega
    · rw [Int.add_mul, Int.one_mul]
      omega
  refine key _ ?_
  clear key
  rcases hm with rfl | rfl | rfl <;> simp only [lawR] <;> (generalize t / b = q at *) <;> (repeat' split) <;> omega

def spRnd (g : Int → Int → Int) : Sp := fun vs H Q _ => ∃ t b : Int, vs = [.int t, .int b] ∧ 0 < b ∧ t.natAbs < 2 ^ 910000 ∧ b.natAbs < 2 ^ 4000 ∧ Q (.int (g t b)) H
structure Mans (P : Program) (w : World) (K : PySem.W.Frag) (mg : Str → Option Value) (base : Heap) (dM : Addr) (es : Array DictEntry) (n : Nat) : Prop where
  gm : mg "MANNERS" = some (.ref dM)
  D : KDict K w dM es n
  at_ : ∀ m : Mn, ∃ (f : Addr) (fd : FuncData), PySem.W.nsIn K dM m.str = some (some (.ref f)) ∧ PySem.W.keepIn K (.ref f) = true ∧ Binds K fd ["top", "bottom"] [] ∧ FnOk P w K mg base CX0 2 f fd ["top", "bottom"] (spRnd m.f)
/-- whether a thing is a manner -/
def MannerIs (K : PySem.W.Frag) (H : Hp) (dM : Addr) (x : V) (b : Bool) : Prop := (∃ m : Mn, x = .str m.str ∧ b = true) ∨ (∃ z : Str, x = .str z ∧ PySem.W.nsIn K dM z = some none ∧ b = false) ∨ (b = false ∧ ∃ t : String, TyX K H x (.type t) ∧ kitB t "str" = some false)
def spManner (K : PySem.W.Frag) (dM : Addr) : Sp := fun vs H Q _ => ∃ (x : V) (b : Bool), vs = [x] ∧ MannerIs K H dM x b ∧ Q (.bl b) H
def spRounded (K : PySem.W.Frag) : Sp := fun vs H Q _ => ∃ (a : Addr) (m : Mn) (t b : Int), vs = [.ref a, .str m.str] ∧ SqT K H a [.int t, .int b] ∧ 0 < b ∧ t.natAbs < 2 ^ 910000 ∧ b.natAbs < 2 ^ 4000 ∧ Q (.int (m.f t b)) H
theorem two_b {b : Int} (h : b.natAbs < 2 ^ 4000) : (2 * b).natAbs < 2 ^ 4001 := by
  rw [Int.natAbs_mul, Nat.pow_succ, Nat.mul_comm]
  exact Nat.mul_lt_mul_of_pos_right h (by decide)
theorem half_le {t b : Int} (ht : t.natAbs < 2 ^ 910000) (hb : b.natAbs < 2 ^ 4000) : (fHalf t b).natAbs < 2 ^ 910003 := by
  unfold fHalf
  refine Nat.lt_of_le_of_lt (Int.natAbs_ediv_le_natAbs _ _) ?_
  have h1 : (2 * t + b).natAbs ≤ 2 * t.natAbs + b.natAbs := by omega
  have e3 : ∀ m : Nat, 2 ^ (m + 3) = 2 ^ m * 8 := fun m => Nat.pow_add 2 m 3
  have e : 2 ^ 910003 = 2 ^ 910000 * 8 := by
    rw [show (910003 : Nat) = 910000 + 3 from rfl]
    exact e3 _
  have hb := up hb (show 4000 ≤ 910000 by omega)
  rw [e]
  generalize 2 ^ 910000 = N at *
  omega
section
variable {P : Program} {w : World} {K : PySem.W.Frag} {mg : Str → Option Value} {base : Heap}
theorem sc_downward : FnScope ["top", "bottom"] ["top", "bottom"] (defScope s_downward) := ⟨rfl, rfl, rfl, by decide +kernel, rfl, by decide +kernel, by decide +kernel⟩
theorem ok_downward {f : Addr} {fd : FuncData} {k : Nat} (F : Fun K "downward" "downward" s_downward f fd) : FnOk P w K mg base CX0 (k + 1) f fd ["top", "bottom"] (spRnd fDown) := by
  refine F.ok sc_downward (fun vs H Q E h => ?_) (fun cdv A outer s H vs Q E hr h => ?_)
  · obtain ⟨t, b, rfl, _⟩ := h
    rfl
  · obtain ⟨t, b, rfl, hb, ht, hl, q⟩ := h
    refine ⟨_, (pss_one (ps_ret (pe_op op_fdivW (pv 0) (pv 1)))), ?_⟩
    exact ⟨_, rfl, _, rfl, _, _, rfl, rfl, wide_div hb hl (by decide) (by decide), q⟩
theorem sc_upward : FnScope ["top", "bottom"] ["top", "bottom"] (defScope s_upward) := ⟨rfl, rfl, rfl, by decide +kernel, rfl, by decide +kernel, by decide +kernel⟩
theorem ok_upward {f : Addr} {fd : FuncData} {k : Nat} (F : Fun K "upward" "upward" s_upward f fd) : FnOk P w K mg base CX0 (k + 1) f fd ["top", "bottom"] (spRnd fUp) := by
  refine F.ok sc_upward (fun vs H Q E h => ?_) (fun cdv A outer s H vs Q E hr h => ?_)
  · obtain ⟨t, b, rfl, _⟩ := h
    rfl
  · obtain ⟨t, b, rfl, hb, ht, hl, q⟩ := h
    refine ⟨_, (pss_one (ps_ret (pe_un un_neg (pe_op op_fdivW (pe_un un_neg (pv 0)) (pv 1))))), ?_⟩
    exact ⟨_, rfl, _, rfl, _, rfl, _, _, rfl, rfl, wide_div hb hl (by decide) (by decide), _, rfl, q⟩
theorem sc_inward : FnScope ["top", "bottom"] ["top", "bottom"] (defScope s_inward) := ⟨rfl, rfl, rfl, by decide +kernel, rfl, by decide +kernel, by decide +kernel⟩
theorem ok_inward {f : Addr} {fd : FuncData} (F : Fun K "inward" "inward" s_inward f fd) (c_downward : Cal P w K mg base 1 "downward" ["top", "bottom"] (spRnd fDown)) (c_upward : Cal P w K mg base 1 "upward" ["top", "bottom"] (spRnd fUp)) : FnOk P w K mg base CX0 2 f fd ["top", "bottom"] (spRnd fIn) := by
  refine F.ok sc_inward (fun vs H Q E h => ?_) (fun cdv A outer s H vs Q E hr h => ?_)
  · obtain ⟨t, b, rfl, _⟩ := h
    rfl
  · obtain ⟨t, b, rfl, hb, ht, hl, q⟩ := h
    refine ⟨_, (pss_one (ps_ret (pe_ifExp (pt_cmpR op_gt (pv 0) pe_int (nomark _)) (pe_cal c_downward hr (pa_cons (pv 0) (pa_cons (pv 1) pa_nil))) (pe_cal c_upward hr (pa_cons (pv 0) (pa_cons (pv 1) pa_nil)))))), ?_⟩
    refine ⟨_, rfl, _, _, rfl, rfl, _, rfl, ite2 (fun c => ?_) (fun c => ?_)⟩
    · refine ⟨_, rfl, _, rfl, t, b, rfl, hb, ht, hl, ?_⟩
      have hc : t > 0 := toB c
      unfold fIn at q
      rw [if_pos hc] at q
      exact q
    · refine ⟨_, rfl, _, rfl, t, b, rfl, hb, ht, hl, ?_⟩
      have hc : ¬ t > 0 := toNB c
      unfold fIn at q
      rw [if_neg hc] at q
      exact q
theorem sc_outward : FnScope ["top", "bottom"] ["top", "bottom"] (defScope s_outward) := ⟨rfl, rfl, rfl, by decide +kernel, rfl, by decide +kernel, by decide +kernel⟩
theorem ok_outward {f : Addr} {fd : FuncData} (F : Fun K "outward" "outward" s_outward f fd) (c_downward : Cal P w K mg base 1 "downward" ["top", "bottom"] (spRnd fDown)) (c_upward : Cal P w K mg base 1 "upward" ["top", "bottom"] (spRnd fUp)) : FnOk P w K mg base CX0 2 f fd ["top", "bottom"] (spRnd fOut) := by
  refine F.ok sc_outward (fun vs H Q E h => ?_) (fun cdv A outer s H vs Q E hr h => ?_)
  · obtain ⟨t, b, rfl, _⟩ := h
    rfl
  · obtain ⟨t, b, rfl, hb, ht, hl, q⟩ := h
    refine ⟨_, (pss_one (ps_ret (pe_ifExp (pt_cmpR op_gt (pv 0) pe_int (nomark _)) (pe_cal c_upward hr (pa_cons (pv 0) (pa_cons (pv 1) pa_nil))) (pe_cal c_downward hr (pa_cons (pv 0) (pa_cons (pv 1) pa_nil)))))), ?_⟩
    refine ⟨_, rfl, _, _, rfl, rfl, _, rfl, ite2 (fun c => ?_) (fun c => ?_)⟩
    · refine ⟨_, rfl, _, rfl, t, b, rfl, hb, ht, hl, ?_⟩
      have hc : t > 0 := toB c
      unfold fOut at q
      rw [if_pos hc] at q
      exact q
    · refine ⟨_, rfl, _, rfl, t, b, rfl, hb, ht, hl, ?_⟩
      have hc : ¬ t > 0 := toNB c
      unfold fOut at q
      rw [if_neg hc] at q
      exact q
theorem sc_nearest_greater : FnScope ["top", "bottom"] ["top", "bottom"] (defScope s_nearest_greater) := ⟨rfl, rfl, rfl, by decide +kernel, rfl, by decide +kernel, by decide +kernel⟩
theorem ok_nearest_greater {f : Addr} {fd : FuncData} {k : Nat} (F : Fun K "nearest_greater" "nearest_greater" s_nearest_greater f fd) : FnOk P w K mg base CX0 (k + 1) f fd ["top", "bottom"] (spRnd fHalf) := by
  refine F.ok sc_nearest_greater (fun vs H Q E h => ?_) (fun cdv A outer s H vs Q E hr h => ?_)
  · obtain ⟨t, b, rfl, _⟩ := h
    rfl
  · obtain ⟨t, b, rfl, hb, ht, hl, q⟩ := h
    refine ⟨_, (pss_one (ps_ret (pe_op op_fdivW (pe_op op_add (pe_op op_mul pe_int (pv 0)) (pv 1)) (pe_op op_mul pe_int (pv 1))))), ?_⟩
    exact ⟨_, rfl, _, _, rfl, rfl, .inl ⟨by decide, by decide⟩, _, rfl, _, _, rfl, rfl, _, rfl, _, _, rfl, rfl, .inl ⟨by decide, by decide⟩, _, _, rfl, rfl, wide_div (by omega) (two_b hl) (by decide) (by decide), q⟩
theorem sc_nearest_even : FnScope ["top", "bottom", "near", "halfway"] ["top", "bottom"] (defScope s_nearest_even) := ⟨rfl, rfl, rfl, by decide +kernel, rfl, by decide +kernel, by decide +kernel⟩
theorem ok_nearest_even {f : Addr} {fd : FuncData} (F : Fun K "nearest_even" "nearest_even" s_nearest_even f fd) (c_nearest_greater : Cal P w K mg base 1 "nearest_greater" ["top", "bottom"] (spRnd fHalf)) : FnOk P w K mg base CX0 2 f fd ["top", "bottom"] (spRnd fEven) := by
  refine F.ok sc_nearest_even (fun vs H Q E h => ?_) (fun cdv A outer s H vs Q E hr h => ?_)
  · obtain ⟨t, b, rfl, _⟩ := h
    rfl
  · obtain ⟨t, b, rfl, hb, ht, hl, q⟩ := h
    have hn := half_le ht hl
    refine ⟨_, (pss_cons (ps_set (i := 2) sc_nearest_even.nd rfl (.inl rfl) (pe_cal c_nearest_greater hr (pa_cons (pv 0) (pa_cons (pv 1) pa_nil))))
      (pss_cons (ps_set (i := 3) sc_nearest_even.nd rfl (.inl rfl) (pe_cmpR op_eq (pe_op op_mul pe_int (pe_op op_sub (pe_op op_mulW (pv 2) (pv 1)) (pv 0))) (pv 1) (nomark _)))
      (pss_one (ps_ret (pe_ifExp (PW.pt (pw_and (pt_val (pv 3)) (pw_and1 (pt_truth (pe_op op_and (pv 2) pe_int) (by intro _; rfl))))) (pe_op op_sub (pv 2) pe_int) (pv 2)))))), ?_⟩
    refine ⟨_, rfl, _, rfl, t, b, rfl, hb, ht, hl, ?_⟩
    unfold fEven at q
    generalize fHalf t b = n at *
    refine ⟨_, rfl, _, rfl, _, _, rfl, rfl, wide_mul hn hl (by decide) (by decide) (by decide), _, rfl, _, _, rfl, rfl, _, _, rfl, rfl, .inl ⟨by decide, by decide⟩, _, rfl, rfl, ?_⟩
    have eB : (decide (V.int (2 * (n * b - t)) = V.int b)) = decide (2 * (n * b - t) = b) := by
      by_cases h : 2 * (n * b - t) = b
      · rw [h, decide_eq_true rfl, decide_eq_true rfl]
      · rw [decide_eq_false h, decide_eq_false (fun z => h (V.int.inj z))]
    rw [eB]
    by_cases hc : 2 * (n * b - t) = b
    · rw [decide_eq_true hc]
      refine ⟨_, rfl, _, rfl, iteT ⟨_, rfl, _, _, rfl, rfl, _, rfl, ?_⟩⟩
      rw [PyProof.Rows.bitAnd_m1]
      by_cases h2 : n % 2 ≠ 0
      · have e : (n % 2 != 0) = true := by
          rw [bne_iff_ne]
          exact h2
        rw [e]
        rw [if_pos ⟨hc, h2⟩] at q
        exact iteT ⟨_, rfl, _, _, rfl, rfl, q⟩
      · have e : (n % 2 != 0) = false := by
          have : n % 2 = 0 := by omega
          rw [this]
          rfl
        rw [e]
        rw [if_neg (fun z => h2 z.2)] at q
        exact iteF ⟨_, rfl, q⟩
    · rw [decide_eq_false hc]
      rw [if_neg (fun z => hc z.1)] at q
      exact ⟨_, rfl, _, rfl, iteF (iteF ⟨_, rfl, q⟩)⟩
theorem sc_nearest_far : FnScope ["top", "bottom"] ["top", "bottom"] (defScope s_nearest_far) := ⟨rfl, rfl, rfl, by decide +kernel, rfl, by decide +kernel, by decide +kernel⟩
theorem ok_nearest_far {f : Addr} {fd : FuncData} (F : Fun K "nearest_far" "nearest_far" s_nearest_far f fd) (c_nearest_greater : Cal P w K mg base 1 "nearest_greater" ["top", "bottom"] (spRnd fHalf)) : FnOk P w K mg base CX0 2 f fd ["top", "bottom"] (spRnd fFar) := by
  refine F.ok sc_nearest_far (fun vs H Q E h => ?_) (fun cdv A outer s H vs Q E hr h => ?_)
  · obtain ⟨t, b, rfl, _⟩ := h
    rfl
  · obtain ⟨t, b, rfl, hb, ht, hl, q⟩ := h
    refine ⟨_, (pss_one (ps_ret (pe_ifExp (pt_cmpR op_gt (pv 0) pe_int (nomark _)) (pe_cal c_nearest_greater hr (pa_cons (pv 0) (pa_cons (pv 1) pa_nil))) (pe_un un_neg (pe_cal c_nearest_greater hr (pa_cons (pe_un un_neg (pv 0)) (pa_cons (pv 1) pa_nil))))))), ?_⟩
    refine ⟨_, rfl, _, _, rfl, rfl, _, rfl, ite2 (fun c => ?_) (fun c => ?_)⟩
    · refine ⟨_, rfl, _, rfl, t, b, rfl, hb, ht, hl, ?_⟩
      have hc : t > 0 := toB c
      unfold fFar at q
      rw [if_pos hc] at q
      exact q
    · refine ⟨_, rfl, _, rfl, _, rfl, -t, b, rfl, hb, by rw [Int.natAbs_neg]; exact ht, hl, _, rfl, ?_⟩
      have hc : ¬ t > 0 := toNB c
      unfold fFar at q
      rw [if_neg hc] at q
      exact q
theorem sc_is_manner : FnScope ["thing"] ["thing"] (defScope s_is_manner) := ⟨rfl, rfl, rfl, by decide +kernel, rfl, by decide +kernel, by decide +kernel⟩
theorem ok_is_manner {f : Addr} {fd : FuncData} {k : Nat} {dM : Addr} {es : Array DictEntry} {n : Nat} (M : Mans P w K mg base dM es n) (F : Fun K "is_manner" "is_manner" s_is_manner f fd) (z : Zs mg) : FnOk P w K mg base CX0 (k + 1) f fd ["thing"] (spManner K dM) := by
  refine F.ok sc_is_manner (fun vs H Q E h => ?_) (fun cdv A outer s H vs Q E hr h => ?_)
  · obtain ⟨x, b, rfl, _⟩ := h
    rfl
  · obtain ⟨x, b, rfl, hm, q⟩ := h
    refine ⟨_, (pss_one (ps_ret (pe_and (pe_callB call_isi (by rfl) z.isinstance (by decide +kernel) (pa_cons (pv 0) (pa_cons (pe_bltn (v := .ty "str") (by rfl) z.str (by decide +kernel) rfl) pa_nil))) (pe_one (pe_cmpR (op_in_kd M.D) (pv 0) (pe_glob (v := .ref dM) (by rfl) M.gm rfl) (by rfl)))))), ?_⟩
    rcases hm with ⟨m, rfl, rfl⟩ | ⟨y, rfl, ny, rfl⟩ | ⟨rfl, t, ty, kt⟩
    · obtain ⟨fm, fdm, h1, _⟩ := M.at_ m
      exact ⟨_, rfl, _, .ty "str", _, _, true, rfl, .ty _, .base (.str _), kit_ty (by decide +kernel), _, rfl, iteT ⟨_, rfl, _, _, rfl, rfl, h1, q⟩⟩
    · exact ⟨_, rfl, _, .ty "str", _, _, true, rfl, .ty _, .base (.str _), kit_ty (by decide +kernel), _, rfl, iteT ⟨_, rfl, _, _, rfl, rfl, ny, q⟩⟩
    · exact ⟨_, rfl, _, .ty "str", _, _, false, rfl, .ty _, ty, kit_ty kt, _, rfl, iteF q⟩
theorem sc_rounded : FnScope ["value", "manner", "top", "bottom", "rule"] ["value", "manner"] (defScope s_rounded) := ⟨rfl, rfl, rfl, by decide +kernel, rfl, by decide +kernel, by decide +kernel⟩
theorem ok_rounded {f : Addr} {fd : FuncData} {dvs : List V} {dM : Addr} {es : Array DictEntry} {n : Nat} (M : Mans P w K mg base dM es n) (F : FunD K "rounded" "rounded" (defArgs s_rounded) (defBody s_rounded) (defScope s_rounded) dvs [] f fd) (c_is_manner : Cal P w K mg base 1 "is_manner" ["thing"] (spManner K dM)) : FnOk P w K mg base CX0 3 f fd ["value", "manner"] (spRounded K) := by
  refine F.ok sc_rounded (fun vs H Q E h => ?_) (fun cdv A outer s H vs Q E hr h => ?_)
  · obtain ⟨a, m, t, b, rfl, _⟩ := h
    rfl
  · obtain ⟨a, m, t, b, rfl, ha, hb, ht, hl, q⟩ := h
    obtain ⟨fm, fdm, h1, hK, hB, hF⟩ := M.at_ m
    refine ⟨_, PSs.nox (pss_cons (ps_if (pt_not (pt_val (pe_cal c_is_manner hr (pa_cons (pv 1) pa_nil)))) (pss_one ps_never) pss_nil)
      (pss_cons (ps_asg (pv 0) (pg_tup (by rfl) (pgs_cons (pg_name (i := 2) sc_rounded.nd rfl (.inl rfl)) (pgs_cons (pg_name (i := 3) sc_rounded.nd rfl (.inl rfl)) pgs_nil))))
      (pss_cons (ps_set (i := 4) sc_rounded.nd rfl (.inl rfl) (pe_ix ix_kdict (pe_glob (v := .ref dM) (by rfl) M.gm rfl) (pv 1) (fun _ _ => rfl)))
      (pss_one (ps_ret (pe_callL (i := 4) hF hr rfl (Or.inl rfl) hK hB .nil pass0 (pa_cons (pv 2) (pa_cons (pv 3) pa_nil)))))))), ?_⟩
    refine ⟨_, rfl, _, true, rfl, .inl ⟨m, rfl, rfl⟩, _, rfl, iteF ?_⟩
    refine ⟨_, rfl, a, _, rfl, ha, rfl, _, _, rfl, _, _, rfl, rfl, ?_⟩
    refine ⟨_, rfl, dM, m.str, .ref fm, rfl, rfl, ⟨es, n, _, M.D.at_, M.D.lit, h1, rfl⟩, ?_⟩
    exact ⟨rfl, _, rfl, _, rfl, t, b, rfl, hb, ht, hl, q⟩
end
end E1

namespace E1
open PySem PySem.Spec PyProof.Rows L2
abbrev s_Form___init__ : Stmt := inClass (topS 36) 0
abbrev s_Form_least : Stmt := inClass (topS 36) 1
abbrev s_Form_greatest : Stmt := inClass (topS 36) 2
abbrev s_Form_has : Stmt := inClass (topS 36) 3
abbrev s_Form_step : Stmt := inClass (topS 36) 4
abbrev s_Form_slack : Stmt := inClass (topS 36) 5
abbrev s_Form_value : Stmt := inClass (topS 36) 6
abbrev s_Form_word_for : Stmt := inClass (topS 36) 7
abbrev s_Form_ended : Stmt := inClass (topS 36) 8
abbrev s_Form_kept : Stmt := inClass (topS 36) 9
abbrev s_Form_kept_at : Stmt := inClass (topS 36) 10
abbrev s_Form_bits : Stmt := inClass (topS 36) 11
abbrev s_Form_is_bits : Stmt := inClass (topS 36) 12
abbrev s_Form_word_of : Stmt := inClass (topS 36) 13
abbrev s_Form_added : Stmt := inClass (topS 36) 14
abbrev s_Form___eq__ : Stmt := inClass (topS 36) 15
abbrev s_Form___str__ : Stmt := inClass (topS 36) 16
abbrev s_Form___repr__ : Stmt := inClass (topS 36) 17

/-! ### objects: methods, making -/
def CalM (P : Program) (w : World) (K : PySem.W.Frag) (mg : Str → Option Value) (base : Heap) (k : Nat) (C : Addr) (m : Str) (ps : List Str) (sp : Sp) : Prop :=
  ∃ (f : Addr) (fd : FuncData), Meth K C m f ∧ Binds K fd ps [] ∧ FnOk P w K mg base CX0 k f fd ps sp
def CalMK (P : Program) (w : World) (K : PySem.W.Frag) (mg : Str → Option Value) (base : Heap) (k : Nat) (C : Addr) (m : Str) (ps ks : List Str) (gV : List V → List V → List V) (sp : Sp) : Prop :=
  ∃ (f : Addr) (fd : FuncData) (g : List Value → List Value → List Value), Meth K C m f ∧ KBn K fd ps 1 ks g gV ∧ FnOk P w K mg base CX0 k f fd ps sp
def CalC (P : Program) (w : World) (K : PySem.W.Frag) (mg : Str → Option Value) (base : Heap) (k : Nat) (x : Str) (C : Addr) (ps : List Str) (dvs : List V) (sp : Sp) : Prop :=
  ∃ (f : Addr) (fd : FuncData) (ds : List Value), Mk K C f ∧ mg x = some (.ref C) ∧ Vals dvs ds ∧ Binds K fd ps ds ∧ FnOk P w K mg base CX0 k f fd ps sp
section
variable {X : Cx} {k j : Nat} {C : Addr} {m x : Str} {ps ks : List Str} {dvs : List V} {sp : Sp} {o e : Expr} {es : List Expr} {ta : TE} {t tk : TA} {apos p pos : Pos} {gV : List V → List V → List V} {kws : List Keyword}
theorem pe_calm {pl : Sem Bool} (he : PE X o ta) (c : Cls X.K C) (h : CalM X.prog X.w X.K X.mg X.base k C m ps sp) (hr : Room j X.A) (ha : PA X (e :: es) t) (hle : k ≤ j := by decide)
    (hst : starEach (e :: es) X.env = (false, eval e X.env) :: starEach es X.env := by rfl) (hpl : (backTo pos (starEach es X.env)).any (·.1) = false := by rfl)
    (ht : eval (.Call (.Attribute o m apos) (e :: es) [] pos) X.env = (do
      let ov ← eval o X.env
      standAt apos.atName
      let (f, first) ← holding [ov] (getMethod ov m pl)
      callWith pos f first (backTo pos (starEach (e :: es) X.env)) (backToKw pos (keywordEach [] X.env))) := by rfl) :
    PE X (.Call (.Attribute o m apos) (e :: es) [] pos) (tMeth C m sp [] E0 ta t) := by
  obtain ⟨f, fd, h1, h2, h3⟩ := h
  exact pe_meth he c h1 h3 (hr.mono hle) h2 .nil pass0 ha hst hpl ht
theorem pe_calm0 {pl : Sem Bool} (he : PE X o ta) (c : Cls X.K C) (h : CalM X.prog X.w X.K X.mg X.base k C m ps sp) (hr : Room j X.A) (hle : k ≤ j := by decide)
    (ht : eval (.Call (.Attribute o m apos) [] [] pos) X.env = (do
      let ov ← eval o X.env
      standAt apos.atName
      let (f, first) ← holding [ov] (getMethod ov m pl)
      callWith pos f first (backTo pos (starEach [] X.env)) (backToKw pos (keywordEach [] X.env))) := by rfl) :
    PE X (.Call (.Attribute o m apos) [] [] pos) (tMeth C m sp [] E0 ta tNil) := by
  obtain ⟨f, fd, h1, h2, h3⟩ := h
  exact pe_meth0 he c h1 h3 (hr.mono hle) h2 .nil pass0 ht
def tMethK (C : Addr) (m : Str) (n : Nat) (sp : Sp) (gV : List V → List V → List V) (ta : TE) (tk : TA) : TE := fun σ H Q => ta σ H fun x H1 => ∃ a dx fs, x = .ref a ∧ H1 a = some (.ins C dx fs) ∧ fs.lookup m = none ∧
  tk σ H1 fun zs H2 => zs.length = n ∧ sp (gV [x] zs) H2 Q E0
theorem pe_calmk0 {pl : Sem Bool} (he : PE X o ta) (c : Cls X.K C) (h : CalMK X.prog X.w X.K X.mg X.base k C m ps ks gV sp) (hr : Room j X.A) (hkw : PK X kws tk) (hle : k ≤ j := by decide)
    (hall : (backToKw pos (keywordEach kws X.env)).all (·.1.isSome) = true := by rfl) (hks : (backToKw pos (keywordEach kws X.env)).filterMap (·.1) = ks := by rfl)
    (hpl : ((backTo pos (starEach [] X.env)).any (·.1) || (backToKw pos (keywordEach kws X.env)).any (·.1.isNone)) = false := by rfl)
    (ht : eval (.Call (.Attribute o m apos) [] kws pos) X.env = (do
      let ov ← eval o X.env
      standAt apos.atName
      let (f, first) ← holding [ov] (getMethod ov m pl)
      callWith pos f first (backTo pos (starEach [] X.env)) (backToKw pos (keywordEach kws X.env))) := by rfl) :
    PE X (.Call (.Attribute o m apos) [] kws pos) (tMethK C m ks.length sp gV ta tk) := by
  obtain ⟨f, fd, g, hm, hb, F⟩ := h
  refine ⟨fun pins s σ H Q I h => ?_⟩
  refine PySem.W.methodCall_KW (pl := pl) (thn (he.run pins s σ H _ I h) fun u s1 ⟨x, H1, I1, rx, a, dx, fs, ex, ea, l, q⟩ => ?_) ht
  subst ex
  obtain rfl : u = Value.ref a := rx
  refine getmeth_ok I1 ea c hm l ?_
  refine PySem.W.callWith_KW0 (first := [.ref a]) (h₀ := X.base) I.ok.mod.kin hm.kp hall (thn (hkw.run pos pins s1 σ H1 _ I1 q) fun ws s2 ⟨zs, H2, I2, rz, l2, q2⟩ => ⟨I2.kIn, ?_⟩) hpl
  rw [hks]
  exact run_fnN (vs := [.ref a]) (us := [.ref a]) F (hr.mono hle) hb pass0 I2 (.cons rfl .nil) rz rfl l2 q2
theorem pe_calc (h : CalC X.prog X.w X.K X.mg X.base k x C ps dvs sp) (hr : Room j X.A) (ha : PA X (e :: es) t) (hle : k + 1 ≤ j := by decide) (hg : Gl X x := by rfl)
    (hdb : (x == ("__debug__" : Str)) = false := by decide) (he : starEach (e :: es) X.env = (false, eval e X.env) :: starEach es X.env := by rfl) (hpl : (backTo pos (starEach es X.env)).any (·.1) = false := by rfl) :
    PE X (.Call (.Name x p) (e :: es) [] pos) (tMake C sp dvs E0 t) := by
  obtain ⟨f, fd, ds, h1, h2, h3, h4, h5⟩ := h
  exact pe_make h1 h5 (hr.mono hle) hg h2 h4 h3 pass0 ha hdb he hpl
end
/-! ### forms -/
def wV : Option Int → V
  | none => .non
  | some w => .int w
def endS : Bool → Str
  | true => "stop"
  | false => "wrap"
def flds (w : Option Int) (pt : Int) (m : Mn) (st : Bool) : List (Str × V) := [("width", wV w), ("point", .int pt), ("manner", .str m.str), ("ends", .str (endS st))]
def WOk (w : Option Int) : Prop := ∀ x, w = some x → 2 ≤ x ∧ x ≤ 64
structure FormAt (C : Addr) (H : Hp) (p : Addr) (w : Option Int) (pt : Int) (m : Mn) (st : Bool) : Prop where
  ob : ∃ dx, H p = some (.ins C dx (flds w pt m st))
  wo : WOk w
  p0 : -64 ≤ pt
  p1 : pt ≤ 64
theorem FormAt.same {C : Addr} {H H' : Hp} {p : Addr} {w : Option Int} {pt : Int} {m : Mn} {st : Bool} (f : FormAt C H p w pt m st) (s : Same H H') : FormAt C H' p w pt m st := by
  obtain ⟨⟨dx, h⟩, a, b, c⟩ := f
  exact ⟨⟨dx, s _ _ h⟩, a, b, c⟩
theorem nPW : (("point" : Str) == "width") = false := by decide +kernel
theorem nMW : (("manner" : Str) == "width") = false := by decide +kernel
theorem nMP : (("manner" : Str) == "point") = false := by decide +kernel
theorem nEW : (("ends" : Str) == "width") = false := by decide +kernel
theorem nEP : (("ends" : Str) == "point") = false := by decide +kernel
theorem nEM : (("ends" : Str) == "manner") = false := by decide +kernel
section
variable {w : Option Int} {pt : Int} {m : Mn} {st : Bool}
theorem fl_w : (flds w pt m st).lookup ("width" : Str) = some (wV w) := by
  unfold flds
  rw [List.lookup_cons, beq_self_eq_true]
theorem fl_p : (flds w pt m st).lookup ("point" : Str) = some (.int pt) := by
  unfold flds
  rw [List.lookup_cons, nPW, List.lookup_cons, beq_self_eq_true]
theorem fl_m : (flds w pt m st).lookup ("manner" : Str) = some (.str m.str) := by
  unfold flds
  rw [List.lookup_cons, nMW, List.lookup_cons, nMP, List.lookup_cons, beq_self_eq_true]
theorem fl_e : (flds w pt m st).lookup ("ends" : Str) = some (.str (endS st)) := by
  unfold flds
  rw [List.lookup_cons, nEW, List.lookup_cons, nEP, List.lookup_cons, nEM, List.lookup_cons, beq_self_eq_true]
theorem fl_no {x : Str} (h : [(x == "width"), (x == "point"), (x == "manner"), (x == "ends")] = [false, false, false, false]) : (flds w pt m st).lookup x = none := by
  have h1 : (x == "width") = false := (List.cons.inj h).1
  have h2 : (x == "point") = false := (List.cons.inj (List.cons.inj h).2).1
  have h3 : (x == "manner") = false := (List.cons.inj (List.cons.inj (List.cons.inj h).2).2).1
  have h4 : (x == "ends") = false := (List.cons.inj (List.cons.inj (List.cons.inj (List.cons.inj h).2).2).2).1
  unfold flds
  rw [List.lookup_cons, h1, List.lookup_cons, h2, List.lookup_cons, h3, List.lookup_cons, h4]
  rfl
theorem ne_of_beq {a b : Str} (h : (b == a) = false) : ¬ a = b := fun e => by
  rw [e, beq_self_eq_true] at h
  cases h
theorem fl_put {a b c d : V} : putF "ends" d (putF "manner" c (putF "point" b (putF "width" a []))) = [(("width" : Str), a), ("point", b), ("manner", c), ("ends", d)] := by
  simp only [putF, if_neg (ne_of_beq nPW), if_neg (ne_of_beq nMW), if_neg (ne_of_beq nMP), if_neg (ne_of_beq nEW), if_neg (ne_of_beq nEP), if_neg (ne_of_beq nEM)]
end
/-- what the walk asks of the class and of the module's constants -/
structure FTxt (K : PySem.W.Frag) (mg : Str → Option Value) (C : Addr) : Prop where
  cl : Cls K C
  nW : NoAttr K C "width"
  nP : NoAttr K C "point"
  nM : NoAttr K C "manner"
  nE : NoAttr K C "ends"
structure FCst (K : PySem.W.Frag) (mg : Str → Option Value) (aE : Addr) : Prop where
  lw : ∃ t, mg "LEAST_WIDTH_forms" = some (.int 2 t)
  gw : ∃ t, mg "GREATEST_WIDTH" = some (.int 64 t)
  gp : ∃ t, mg "GREATEST_POINT" = some (.int 64 t)
  e : mg "ENDS" = some (.ref aE)
  eT : ∀ H, SqT K H aE [.str "wrap", .str "stop"]
def two (n : Int) : Int := 2 ^ n.toNat
def lst (x : Int) : Int := -(two (x - 1))
def grt (x : Int) : Int := two (x - 1) - 1
def lstV : Option Int → V
  | none => .non
  | some x => .int (lst x)
def grtV : Option Int → V
  | none => .non
  | some x => .int (grt x)
def inR : Option Int → Int → Bool
  | none, _ => true
  | some x, n => decide (lst x ≤ n) && decide (n ≤ grt x)
def nearB : Mn → Bool
  | .half => true
  | .even => true
  | .far => true
  | _ => false
/-- the word as which a whole number of steps is kept -/
def wordF (w : Option Int) (st : Bool) (n : Int) : Int := match w with
  | none => n
  | some x => if inR (some x) n = true then n else if st = true then (if n < 0 then lst x else grt x) else (n - lst x) % two x + lst x
def spWidth : Sp := fun vs H Q _ => ∃ w : Option Int, vs = [wV w] ∧ WOk w ∧ Q (.bl true) H
def spPoint : Sp := fun vs H Q _ => ∃ p : Int, vs = [.int p] ∧ -64 ≤ p ∧ p ≤ 64 ∧ Q (.bl true) H
def spEnds : Sp := fun vs H Q _ => ∃ st : Bool, vs = [.str (endS st)] ∧ Q (.bl true) H
def spInit (C : Addr) : Sp := fun vs H Q _ => ∃ (p dx : Addr) (w : Option Int) (pt : Int) (m : Mn) (st : Bool), vs = [.ref p, wV w, .int pt, .str m.str, .str (endS st)] ∧ WOk w ∧ -64 ≤ pt ∧ pt ≤ 64 ∧ H p = some (.ins C dx []) ∧
  ∀ H', FormAt C H' p w pt m st → (∀ b o, b ≠ p → H b = some o → H' b = some o) → (∀ b, b ≠ p → H b = none → H' b = none) → Q .non H'
def spF (C : Addr) (r : Option Int → Int → Mn → Bool → Hp → VK → Prop) : Sp := fun vs H Q _ => ∃ (p : Addr) (w : Option Int) (pt : Int) (m : Mn) (st : Bool), vs = [.ref p] ∧ FormAt C H p w pt m st ∧ r w pt m st H Q
def spLeast (C : Addr) : Sp := spF C fun w _ _ _ H Q => Q (lstV w) H
def spGreatest (C : Addr) : Sp := spF C fun w _ _ _ H Q => Q (grtV w) H
def spStep (C : Addr) : Sp := spF C fun _ pt _ _ H Q => ∀ p, H p = none → Q (.ref p) (upd H p (.tup [.int (twoT (-pt)), .int (twoB (-pt))]))
def spSlack (C : Addr) : Sp := spF C fun _ _ m _ H Q => ∀ p, H p = none → Q (.ref p) (upd H p (.tup [.int 1, .int (if nearB m = true then 2 else 1)]))
def spHas (K : PySem.W.Frag) (C : Addr) : Sp := fun vs H Q _ => ∃ (p : Addr) (w : Option Int) (pt : Int) (m : Mn) (st : Bool) (x : V) (b : Bool), vs = [.ref p, x] ∧ FormAt C H p w pt m st ∧ ((∃ n, x = .int n ∧ b = inR w n) ∨ (WholeIs K H x false ∧ b = false)) ∧ Q (.bl b) H
def spWord (C : Addr) : Sp := fun vs H Q _ => ∃ (p : Addr) (w : Option Int) (pt : Int) (m : Mn) (st : Bool) (n : Int), vs = [.ref p, .int n] ∧ FormAt C H p w pt m st ∧ Q (.int (wordF w st n)) H
/-- how many steps a value is, rounded -/
def steps (pt : Int) (m : Mn) (t b : Int) : Int := m.f (lowT (t * twoB (-pt)) (b * twoT (-pt))) (lowB (t * twoB (-pt)) (b * twoT (-pt)))
def spKept (K : PySem.W.Frag) (C : Addr) : Sp := fun vs H Q _ => ∃ (p : Addr) (w : Option Int) (pt : Int) (m : Mn) (st : Bool) (a : Addr) (t b : Int), vs = [.ref p, .ref a] ∧ FormAt C H p w pt m st ∧ SqT K H a [.int t, .int b] ∧ 0 < b ∧ t.natAbs < 2 ^ 1500 ∧ b.natAbs < 2 ^ 1500 ∧
  ∀ (r : Addr) (H' : Hp), H r = none → Same H H' → H' r = some (.tup [.int (wordF w st (steps pt m t b)), .int (steps pt m t b - wordF w st (steps pt m t b))]) → Q (.ref r) H'
theorem two_pos (n : Int) : 0 < two n := by
  unfold two
  exact Int.pow_pos (by decide)
theorem twoT_pos (n : Int) : 0 < twoT n := by
  unfold twoT
  split
  · decide
  · exact Int.pow_pos (by decide)
theorem twoB_pos (n : Int) : 0 < twoB n := by
  unfold twoB
  split
  · exact Int.pow_pos (by decide)
  · decide
theorem two_lt {n : Int} {k : Nat} (h : n.toNat < k) : (2 ^ n.toNat : Int).natAbs < 2 ^ k := by
  rw [Int.natAbs_pow]
  exact Nat.pow_lt_pow_right (by decide) h
theorem twoT_lt {n : Int} (h1 : n ≤ 64) : (twoT n).natAbs < 2 ^ 65 := by
  unfold twoT
  split
  · decide
  · exact two_lt (by omega)
theorem twoB_lt {n : Int} (h1 : -64 ≤ n) : (twoB n).natAbs < 2 ^ 65 := by
  unfold twoB
  split
  · exact two_lt (by omega)
  · decide
theorem low_pos' {t b : Int} (hb : b ≠ 0) : 0 < lowB t b := by
  have g0 := gI_pos (t := t) hb
  have g1 := gI_le (t := t) hb
  have : 1 ≤ lowB t b := by
    unfold lowB
    refine (Int.le_ediv_iff_mul_le g0).mpr ?_
    split <;> omega
  omega
theorem lowT_le {t b : Int} : (lowT t b).natAbs ≤ t.natAbs := by
  unfold lowT
  refine Nat.le_trans (Int.natAbs_ediv_le_natAbs _ _) ?_
  split <;> omega
theorem lowB_le {t b : Int} : (lowB t b).natAbs ≤ b.natAbs := by
  unfold lowB
  refine Nat.le_trans (Int.natAbs_ediv_le_natAbs _ _) ?_
  split <;> omega
section
variable {P : Program} {w : World} {K : PySem.W.Frag} {mg : Str → Option Value} {base : Heap}
theorem sc_is_width : FnScope ["thing"] ["thing"] (defScope s_is_width) := ⟨rfl, rfl, rfl, by decide +kernel, rfl, by decide +kernel, by decide +kernel⟩
theorem ok_is_width {f : Addr} {fd : FuncData} {aE : Addr} (Z : FCst K mg aE) (F : Fun K "is_width" "is_width" s_is_width f fd) (c_is_whole : Cal P w K mg base 1 "is_whole" ["thing"] (spWhole K)) : FnOk P w K mg base CX0 2 f fd ["thing"] spWidth := by
  refine F.ok sc_is_width (fun vs H Q E h => ?_) (fun cdv A outer s H vs Q E hr h => ?_)
  · obtain ⟨w, rfl, _⟩ := h
    rfl
  · obtain ⟨w, rfl, hw, q⟩ := h
    obtain ⟨_, gLW⟩ := Z.lw
    obtain ⟨_, gGW⟩ := Z.gw
    refine ⟨_, (pss_one (ps_ret (pe_or (pe_cmpR op_isN (pv 0) pe_non (nomark _)) (pe_one (pe_and (pe_cal c_is_whole hr (pa_cons (pv 0) pa_nil)) (pe_one (pe_chain op_le op_le (pe_glob (v := .int 2) (by rfl) gLW ⟨_, rfl⟩) (pv 0) (pe_glob (v := .int 64) (by rfl) gGW ⟨_, rfl⟩)))))))), ?_⟩
    cases w with
    | none => exact ⟨_, rfl, rfl, _, rfl, iteT q⟩
    | some x =>
      obtain ⟨h1, h2⟩ := hw x rfl
      refine ⟨_, rfl, rfl, _, rfl, iteF ⟨_, rfl, _, _, rfl, .int x, _, rfl, iteT ⟨_, rfl, _, _, rfl, rfl, _, rfl, ?_⟩⟩⟩
      rw [decide_eq_true h1]
      refine iteT ⟨_, _, rfl, rfl, ?_⟩
      show Q (.bl (decide (x ≤ 64))) H
      rw [decide_eq_true h2]
      exact q
theorem sc_is_point : FnScope ["thing"] ["thing"] (defScope s_is_point) := ⟨rfl, rfl, rfl, by decide +kernel, rfl, by decide +kernel, by decide +kernel⟩
theorem ok_is_point {f : Addr} {fd : FuncData} {aE : Addr} (Z : FCst K mg aE) (F : Fun K "is_point" "is_point" s_is_point f fd) (z : Zs mg) (c_is_whole : Cal P w K mg base 1 "is_whole" ["thing"] (spWhole K)) : FnOk P w K mg base CX0 2 f fd ["thing"] spPoint := by
  refine F.ok sc_is_point (fun vs H Q E h => ?_) (fun cdv A outer s H vs Q E hr h => ?_)
  · obtain ⟨x, rfl, _⟩ := h
    rfl
  · obtain ⟨x, rfl, h1, h2, q⟩ := h
    obtain ⟨_, gGP⟩ := Z.gp
    refine ⟨_, (pss_one (ps_ret (pe_and (pe_cal c_is_whole hr (pa_cons (pv 0) pa_nil)) (pe_one (pe_cmpR op_le (pe_callB call_abs (by rfl) z.abs (by decide +kernel) (pa_cons (pv 0) pa_nil)) (pe_glob (v := .int 64) (by rfl) gGP ⟨_, rfl⟩) (nomark _)))))), ?_⟩
    refine ⟨_, rfl, _, _, rfl, .int x, _, rfl, iteT ⟨_, rfl, _, rfl, _, _, rfl, rfl, ?_⟩⟩
    show Q (.bl (decide ((if x < 0 then -x else x) ≤ 64))) H
    rw [decide_eq_true (show (if x < 0 then -x else x) ≤ 64 by split <;> omega)]
    exact q
theorem sc_is_ends : FnScope ["thing"] ["thing"] (defScope s_is_ends) := ⟨rfl, rfl, rfl, by decide +kernel, rfl, by decide +kernel, by decide +kernel⟩
theorem ok_is_ends {f : Addr} {fd : FuncData} {k : Nat} {aE : Addr} (Z : FCst K mg aE) (F : Fun K "is_ends" "is_ends" s_is_ends f fd) (z : Zs mg) : FnOk P w K mg base CX0 (k + 1) f fd ["thing"] spEnds := by
  refine F.ok sc_is_ends (fun vs H Q E h => ?_) (fun cdv A outer s H vs Q E hr h => ?_)
  · obtain ⟨st, rfl, _⟩ := h
    rfl
  · obtain ⟨st, rfl, q⟩ := h
    refine ⟨_, (pss_one (ps_ret (pe_and (pe_callB call_isi (by rfl) z.isinstance (by decide +kernel) (pa_cons (pv 0) (pa_cons (pe_bltn (v := .ty "str") (by rfl) z.str (by decide +kernel) rfl) pa_nil))) (pe_one (pe_cmpR op_in_seq (pv 0) (pe_glob (v := .ref aE) (by rfl) Z.e rfl) (by rfl)))))), ?_⟩
    refine ⟨_, rfl, _, .ty "str", _, _, true, rfl, .ty _, .base (.str _), kit_ty (by decide +kernel), _, rfl, iteT ⟨_, rfl, aE, _, rfl, .inr (Z.eT _), rfl, rfl, ?_⟩⟩
    cases st with
    | true =>
      rw [show inV (V.str (endS true)) [V.str "wrap", V.str "stop"] = true by decide +kernel]
      exact q
    | false =>
      rw [show inV (V.str (endS false)) [V.str "wrap", V.str "stop"] = true by decide +kernel]
      exact q
theorem sc_Form___init__ : FnScope ["self", "width", "point", "manner", "ends"] ["self", "width", "point", "manner", "ends"] (defScope s_Form___init__) := ⟨rfl, rfl, rfl, by decide +kernel, rfl, by decide +kernel, by decide +kernel⟩
theorem ok_Form___init__ {f : Addr} {fd : FuncData} {dM : Addr} {dvs : List V} {C : Addr} (T : FTxt K mg C) (F : FunD K "__init__" "Form.__init__" (defArgs s_Form___init__) (defBody s_Form___init__) (defScope s_Form___init__) dvs [] f fd) (c_is_width : Cal P w K mg base 2 "is_width" ["thing"] spWidth) (c_is_point : Cal P w K mg base 2 "is_point" ["thing"] spPoint) (c_is_manner : Cal P w K mg base 1 "is_manner" ["thing"] (spManner K dM)) (c_is_ends : Cal P w K mg base 1 "is_ends" ["thing"] spEnds) : FnOk P w K mg base CX0 3 f fd ["self", "width", "point", "manner", "ends"] (spInit C) := by
  refine F.ok sc_Form___init__ (fun vs H Q E h => ?_) (fun cdv A outer s H vs Q E hr h => ?_)
  · obtain ⟨p, dx, w, pt, m, st, rfl, _⟩ := h
    rfl
  · obtain ⟨p, dx, w, pt, m, st, rfl, hw, h0, h1, hp, q⟩ := h
    refine ⟨_, PSs.nox (pss_cons (ps_if (pt_not (pt_val (pe_cal c_is_width hr (pa_cons (pv 1) pa_nil)))) (pss_one ps_never) pss_nil)
      (pss_cons (ps_if (pt_not (pt_val (pe_cal c_is_point hr (pa_cons (pv 2) pa_nil)))) (pss_one ps_never) pss_nil)
      (pss_cons (ps_if (pt_not (pt_val (pe_cal c_is_manner hr (pa_cons (pv 3) pa_nil)))) (pss_one ps_never) pss_nil)
      (pss_cons (ps_if (pt_not (pt_val (pe_cal c_is_ends hr (pa_cons (pv 4) pa_nil)))) (pss_one ps_never) pss_nil)
      (pss_cons (ps_fld (pv 0) (pv 1) rfl)
      (pss_cons (ps_fld (pv 0) (pv 2) rfl)
      (pss_cons (ps_fld (pv 0) (pv 3) rfl)
      (pss_one (ps_fld (pv 0) (pv 4) rfl))))))))), ?_⟩
    refine ⟨_, rfl, w, rfl, hw, _, rfl, iteF ?_⟩
    refine ⟨_, rfl, pt, rfl, h0, h1, _, rfl, iteF ?_⟩
    refine ⟨_, rfl, _, true, rfl, .inl ⟨m, rfl, rfl⟩, _, rfl, iteF ?_⟩
    refine ⟨_, rfl, st, rfl, _, rfl, iteF ?_⟩
    refine ⟨_, rfl, _, rfl, p, C, dx, [], rfl, hp, T.cl, T.nW, (by show 0 < 1000; decide), ?_⟩
    refine ⟨_, rfl, _, rfl, p, C, dx, _, rfl, upd_same, T.cl, T.nP, (by show 1 < 1000; decide), ?_⟩
    refine ⟨_, rfl, _, rfl, p, C, dx, _, rfl, upd_same, T.cl, T.nM, ?_, ?_⟩
    · simp only [putF, if_neg (ne_of_beq nPW)]
      show 2 < 1000
      decide
    refine ⟨_, rfl, _, rfl, p, C, dx, _, rfl, upd_same, T.cl, T.nE, ?_, ?_⟩
    · simp only [putF, if_neg (ne_of_beq nPW), if_neg (ne_of_beq nMW), if_neg (ne_of_beq nMP)]
      show 3 < 1000
      decide
    refine q _ ⟨⟨dx, ?_⟩, hw, h0, h1⟩ (fun b o hb e => ?_) (fun b hb e => ?_)
    · rw [upd_same]
      exact congrArg (fun l => some (HO.ins C dx l)) fl_put
    · rw [upd_ne hb, upd_ne hb, upd_ne hb, upd_ne hb]
      exact e
    · rw [upd_ne hb, upd_ne hb, upd_ne hb, upd_ne hb]
      exact e
theorem sc_Form_least : FnScope ["self"] ["self"] (defScope s_Form_least) := ⟨rfl, rfl, rfl, by decide +kernel, rfl, by decide +kernel, by decide +kernel⟩
theorem ok_Form_least {f : Addr} {fd : FuncData} {k : Nat} {C : Addr} (T : FTxt K mg C) (F : Fun K "least" "Form.least" s_Form_least f fd) : FnOk P w K mg base CX0 (k + 1) f fd ["self"] (spLeast C) := by
  refine F.ok sc_Form_least (fun vs H Q E h => ?_) (fun cdv A outer s H vs Q E hr h => ?_)
  · obtain ⟨p, w, pt, m, st, rfl, _⟩ := h
    rfl
  · obtain ⟨p, w, pt, m, st, rfl, ⟨⟨dx, ho⟩, hw, _, _⟩, q⟩ := h
    refine ⟨_, (pss_one (ps_ret (pe_ifExp (pt_cmpR op_isN (pe_fld (pv 0) rfl) pe_non (nomark _)) pe_non (pe_un un_neg (pe_op op_shl pe_int (pe_op op_sub (pe_fld (pv 0) rfl) pe_int)))))), ?_⟩
    refine ⟨_, rfl, p, C, dx, _, _, rfl, ho, T.cl, T.nW, fl_w, rfl, _, rfl, ?_⟩
    cases w with
    | none => exact iteT q
    | some x =>
      obtain ⟨h1, h2⟩ := hw x rfl
      refine iteF ⟨_, rfl, p, C, dx, _, _, rfl, ho, T.cl, T.nW, fl_w, _, _, rfl, rfl, _, _, rfl, rfl, ⟨by omega, by omega, by decide⟩, _, rfl, ?_⟩
      have e : (1 : Int) * 2 ^ (x - 1).toNat = two (x - 1) := Int.one_mul _
      rw [e]
      exact q
theorem sc_Form_greatest : FnScope ["self"] ["self"] (defScope s_Form_greatest) := ⟨rfl, rfl, rfl, by decide +kernel, rfl, by decide +kernel, by decide +kernel⟩
theorem ok_Form_greatest {f : Addr} {fd : FuncData} {k : Nat} {C : Addr} (T : FTxt K mg C) (F : Fun K "greatest" "Form.greatest" s_Form_greatest f fd) : FnOk P w K mg base CX0 (k + 1) f fd ["self"] (spGreatest C) := by
  refine F.ok sc_Form_greatest (fun vs H Q E h => ?_) (fun cdv A outer s H vs Q E hr h => ?_)
  · obtain ⟨p, w, pt, m, st, rfl, _⟩ := h
    rfl
  · obtain ⟨p, w, pt, m, st, rfl, ⟨⟨dx, ho⟩, hw, _, _⟩, q⟩ := h
    refine ⟨_, (pss_one (ps_ret (pe_ifExp (pt_cmpR op_isN (pe_fld (pv 0) rfl) pe_non (nomark _)) pe_non (pe_op op_sub (pe_op op_shl pe_int (pe_op op_sub (pe_fld (pv 0) rfl) pe_int)) pe_int)))), ?_⟩
    refine ⟨_, rfl, p, C, dx, _, _, rfl, ho, T.cl, T.nW, fl_w, rfl, _, rfl, ?_⟩
    cases w with
    | none => exact iteT q
    | some x =>
      obtain ⟨h1, h2⟩ := hw x rfl
      refine iteF ⟨_, rfl, p, C, dx, _, _, rfl, ho, T.cl, T.nW, fl_w, _, _, rfl, rfl, _, _, rfl, rfl, ⟨by omega, by omega, by decide⟩, _, _, rfl, rfl, ?_⟩
      have e : (1 : Int) * 2 ^ (x - 1).toNat = two (x - 1) := Int.one_mul _
      rw [e]
      exact q
theorem sc_Form_has : FnScope ["self", "thing"] ["self", "thing"] (defScope s_Form_has) := ⟨rfl, rfl, rfl, by decide +kernel, rfl, by decide +kernel, by decide +kernel⟩
theorem ok_Form_has {f : Addr} {fd : FuncData} {C : Addr} (T : FTxt K mg C) (F : Fun K "has" "Form.has" s_Form_has f fd) (c_is_whole : Cal P w K mg base 1 "is_whole" ["thing"] (spWhole K)) (m_least : CalM P w K mg base 1 C "least" ["self"] (spLeast C)) (m_greatest : CalM P w K mg base 1 C "greatest" ["self"] (spGreatest C)) : FnOk P w K mg base CX0 2 f fd ["self", "thing"] (spHas K C) := by
  refine F.ok sc_Form_has (fun vs H Q E h => ?_) (fun cdv A outer s H vs Q E hr h => ?_)
  · obtain ⟨p, w, pt, m, st, x, b, rfl, _⟩ := h
    rfl
  · obtain ⟨p, w, pt, m, st, x, b, rfl, hf, hx, q⟩ := h
    obtain ⟨⟨dx, ho⟩, hw, _, _⟩ := id hf
    refine ⟨_, (pss_cons (ps_if (pt_not (pt_val (pe_cal c_is_whole hr (pa_cons (pv 1) pa_nil)))) (pss_one (ps_ret pe_bl)) pss_nil)
      (pss_one (ps_ret (pe_or (pe_cmpR op_isN (pe_fld (pv 0) rfl) pe_non (nomark _)) (pe_one (pe_chain op_le op_le (pe_calm0 (pv 0) T.cl m_least hr) (pv 1) (pe_calm0 (pv 0) T.cl m_greatest hr))))))), ?_⟩
    rcases hx with ⟨n, rfl, rfl⟩ | ⟨hx, rfl⟩
    · refine ⟨_, rfl, _, true, rfl, .int n, _, rfl, iteF ?_⟩
      refine ⟨_, rfl, p, C, dx, _, _, rfl, ho, T.cl, T.nW, fl_w, rfl, _, rfl, ?_⟩
      cases w with
      | none => exact iteT q
      | some y =>
        refine iteF ⟨_, rfl, p, dx, _, rfl, ho, fl_no (by decide +kernel), p, some y, pt, m, st, rfl, hf, _, rfl, _, _, rfl, rfl, _, rfl, ?_⟩
        by_cases c : lst y ≤ n
        · rw [decide_eq_true c]
          refine iteT ⟨_, rfl, p, dx, _, rfl, ho, fl_no (by decide +kernel), p, some y, pt, m, st, rfl, hf, _, _, rfl, rfl, ?_⟩
          have q' : Q (.bl (decide (lst y ≤ n) && decide (n ≤ grt y))) H := q
          rw [decide_eq_true c, Bool.true_and] at q'
          exact q'
        · rw [decide_eq_false c]
          refine iteF ?_
          have q' : Q (.bl (decide (lst y ≤ n) && decide (n ≤ grt y))) H := q
          rw [decide_eq_false c, Bool.false_and] at q'
          exact q'
    · exact ⟨_, rfl, _, false, rfl, hx, _, rfl, iteT q⟩
theorem sc_Form_step : FnScope ["self"] ["self"] (defScope s_Form_step) := ⟨rfl, rfl, rfl, by decide +kernel, rfl, by decide +kernel, by decide +kernel⟩
theorem ok_Form_step {f : Addr} {fd : FuncData} {C : Addr} (T : FTxt K mg C) (F : Fun K "step" "Form.step" s_Form_step f fd) (c_two_to : Cal P w K mg base 2 "two_to" ["many"] spTwoTo) : FnOk P w K mg base CX0 3 f fd ["self"] (spStep C) := by
  refine F.ok sc_Form_step (fun vs H Q E h => ?_) (fun cdv A outer s H vs Q E hr h => ?_)
  · obtain ⟨p, w, pt, m, st, rfl, _⟩ := h
    rfl
  · obtain ⟨p, w, pt, m, st, rfl, ⟨⟨dx, ho⟩, hw, h0, h1⟩, q⟩ := h
    refine ⟨_, (pss_one (ps_ret (pe_cal c_two_to hr (pa_cons (pe_un un_neg (pe_fld (pv 0) rfl)) pa_nil)))), ?_⟩
    exact ⟨_, rfl, p, C, dx, _, _, rfl, ho, T.cl, T.nP, fl_p, _, rfl, -pt, rfl, by omega, by omega, q⟩
theorem sc_Form_word_for : FnScope ["self", "number"] ["self", "number"] (defScope s_Form_word_for) := ⟨rfl, rfl, rfl, by decide +kernel, rfl, by decide +kernel, by decide +kernel⟩
theorem ok_Form_word_for {f : Addr} {fd : FuncData} {C : Addr} (T : FTxt K mg C) (F : Fun K "word_for" "Form.word_for" s_Form_word_for f fd) (m_has : CalM P w K mg base 2 C "has" ["self", "thing"] (spHas K C)) (m_least : CalM P w K mg base 1 C "least" ["self"] (spLeast C)) (m_greatest : CalM P w K mg base 1 C "greatest" ["self"] (spGreatest C)) : FnOk P w K mg base CX0 3 f fd ["self", "number"] (spWord C) := by
  refine F.ok sc_Form_word_for (fun vs H Q E h => ?_) (fun cdv A outer s H vs Q E hr h => ?_)
  · obtain ⟨p, w, pt, m, st, n, rfl, _⟩ := h
    rfl
  · obtain ⟨p, w, pt, m, st, n, rfl, hf, q⟩ := h
    obtain ⟨⟨dx, ho⟩, hw, _, _⟩ := id hf
    refine ⟨_, (pss_cons (ps_if (pt_val (pe_calm (pv 0) T.cl m_has hr (pa_cons (pv 1) pa_nil))) (pss_one (ps_ret (pv 1))) pss_nil)
      (pss_cons (ps_if (pt_cmpR op_eq (pe_fld (pv 0) rfl) pe_str (nomark _)) (pss_one (ps_ret (pe_ifExp (pt_cmpR op_lt (pv 1) pe_int (nomark _)) (pe_calm0 (pv 0) T.cl m_least hr) (pe_calm0 (pv 0) T.cl m_greatest hr)))) pss_nil)
      (pss_one (ps_ret (pe_op op_add (pe_op op_mod (pe_op op_sub (pv 1) (pe_calm0 (pv 0) T.cl m_least hr)) (pe_op op_shl pe_int (pe_fld (pv 0) rfl))) (pe_calm0 (pv 0) T.cl m_least hr)))))), ?_⟩
    refine ⟨_, rfl, p, dx, _, rfl, ho, fl_no (by decide +kernel), _, rfl, p, w, pt, m, st, .int n, _, rfl, hf, .inl ⟨n, rfl, rfl⟩, _, rfl, ?_⟩
    cases w with
    | none => exact iteT ⟨_, rfl, q⟩
    | some y =>
      obtain ⟨y0, y1⟩ := hw y rfl
      replace q : Q (.int (if inR (some y) n = true then n else if st = true then (if n < 0 then lst y else grt y) else (n - lst y) % two y + lst y)) H := q
      cases hi : inR (some y) n with
      | true =>
        rw [hi] at q
        exact iteT ⟨_, rfl, q⟩
      | false =>
        rw [hi] at q
        refine iteF ?_
        cases st with
        | true =>
          refine ⟨_, rfl, p, C, dx, _, _, rfl, ho, T.cl, T.nE, fl_e, rfl, _, rfl, ?_⟩
          rw [decide_eq_true (show V.str (endS true) = V.str "stop" from rfl)]
          refine iteT ⟨_, rfl, _, _, rfl, rfl, _, rfl, ite2 (fun c => ?_) (fun c => ?_)⟩
          · have hc : n < 0 := toB c
            refine ⟨_, rfl, p, dx, _, rfl, ho, fl_no (by decide +kernel), p, some y, pt, m, true, rfl, hf, ?_⟩
            simp only [if_pos hc, if_neg Bool.false_ne_true, if_pos] at q
            exact q
          · have hc : ¬ n < 0 := toNB c
            refine ⟨_, rfl, p, dx, _, rfl, ho, fl_no (by decide +kernel), p, some y, pt, m, true, rfl, hf, ?_⟩
            simp only [if_neg hc, if_neg Bool.false_ne_true, if_pos] at q
            exact q
        | false =>
          refine ⟨_, rfl, p, C, dx, _, _, rfl, ho, T.cl, T.nE, fl_e, rfl, _, rfl, ?_⟩
          rw [decide_eq_false (show ¬ V.str (endS false) = V.str "stop" by intro z; exact absurd (V.str.inj z) (by decide +kernel))]
          have e2 : (1 : Int) * 2 ^ y.toNat = two y := Int.one_mul _
          refine iteF ⟨_, rfl, _, rfl, p, dx, _, rfl, ho, fl_no (by decide +kernel), p, some y, pt, m, false, rfl, hf, _, _, rfl, rfl, _, rfl, p, C, dx, _, _, rfl, ho, T.cl, T.nW, fl_w, _, _, rfl, rfl, ⟨by omega, by omega, by decide⟩, _, _, rfl, rfl, ?_, _, rfl, p, dx, _, rfl, ho, fl_no (by decide +kernel), p, some y, pt, m, false, rfl, hf, _, _, rfl, rfl, ?_⟩
          · show 0 < (1 : Int) * 2 ^ y.toNat
            rw [e2]
            exact two_pos y
          · rw [e2]
            simp only [if_neg Bool.false_ne_true] at q
            exact q
end
end E1

namespace E1
open PySem PySem.Spec PyProof.Rows L2
/-! ### nets: rows, holds, forms, points -/
/-- a new object, its heap named -/
theorem upd_gen {H G : Hp} {p : Addr} {o : HO} (e : upd H p o = G) (hp : H p = none) : Same H G ∧ G p = some o := by
  subst e
  exact ⟨same_new hp, upd_same⟩
theorem Same.sqL {K : PySem.W.Frag} {H H' : Hp} {a : Addr} {xs : List V} (e : Same H H') (h : SqL K H a xs) : SqL K H' a xs := by
  rcases h with (h | ⟨o, h⟩) | h
  · exact .inl (.inl (e _ _ h))
  · exact .inl (.inr ⟨o, e _ _ h⟩)
  · exact .inr h
theorem iteC {c d : Bool} {A B : Prop} (e : c = d) (h : if d = true then A else B) : if c = true then A else B := by
  rw [e]
  exact h
theorem sl_le {n : Nat} (h : n ≤ 100000) : n ≤ sizeLine := Nat.le_trans h (by decide)
theorem sl_lt {n : Nat} (h : n ≤ 100000) : n < sizeLine := Nat.lt_of_le_of_lt h (by decide)
inductive Row where
  | inn
  | old (k : Nat)
  | times (f : Int) (m a : Nat)
  | plus (a b : Nat)
  | less (a b : Nat)
  | move (m : Int) (a : Nat)
  | keep (f a : Nat)
inductive Kd7 where
  | inn | old | times | plus | less | move | keep
def Row.kd : Row → Kd7
  | .inn => .inn
  | .old _ => .old
  | .times _ _ _ => .times
  | .plus _ _ => .plus
  | .less _ _ => .less
  | .move _ _ => .move
  | .keep _ _ => .keep
def Kd7.s : Kd7 → Str
  | .inn => "in"
  | .old => "old"
  | .times => "times"
  | .plus => "plus"
  | .less => "less"
  | .move => "move"
  | .keep => "keep"
def Kd7.n : Kd7 → Nat
  | .inn => 1
  | .old => 2
  | .times => 4
  | .plus => 3
  | .less => 3
  | .move => 3
  | .keep => 3
def Row.vs : Row → List V
  | .inn => [.str "in"]
  | .old k => [.str "old", .int k]
  | .times f m a => [.str "times", .int f, .int m, .int a]
  | .plus a b => [.str "plus", .int a, .int b]
  | .less a b => [.str "less", .int a, .int b]
  | .move m a => [.str "move", .int m, .int a]
  | .keep f a => [.str "keep", .int f, .int a]
theorem Row.vs0 (r : Row) : r.vs[0]? = some (.str r.kd.s) := by cases r <;> rfl
theorem Row.vs_len (r : Row) : r.vs.length = r.kd.n := by cases r <;> rfl
/-- tuples that lie at the things of a list -/
inductive TsAt (H : Hp) : List V → List (List V) → Prop where
  | nil : TsAt H [] []
  | cons {p : Addr} {xs : List V} {vs : List V} {xss : List (List V)} (e : H p = some (.tup xs)) (r : TsAt H vs xss) : TsAt H (.ref p :: vs) (xs :: xss)
theorem TsAt.mono {H H' : Hp} {vs : List V} {xss : List (List V)} (h : TsAt H vs xss) (k : ∀ p xs, H p = some (.tup xs) → H' p = some (.tup xs)) : TsAt H' vs xss := by
  induction h with
  | nil => exact .nil
  | cons e _ ih => exact .cons (k _ _ e) ih
theorem TsAt.same {H H' : Hp} {vs : List V} {xss : List (List V)} (h : TsAt H vs xss) (s : Same H H') : TsAt H' vs xss := h.mono fun _ _ e => s _ _ e
theorem TsAt.len {H : Hp} {vs : List V} {xss : List (List V)} (h : TsAt H vs xss) : vs.length = xss.length := by
  induction h with
  | nil => rfl
  | cons _ _ ih => rw [List.length_cons, List.length_cons, ih]
theorem TsAt.get {H : Hp} {vs : List V} {xss : List (List V)} (h : TsAt H vs xss) : ∀ {i : Nat} {v : V}, vs[i]? = some v → ∃ p xs, v = .ref p ∧ xss[i]? = some xs ∧ H p = some (.tup xs) := by
  induction h with
  | nil => intro i v z; cases z
  | cons e _ ih =>
    intro i v z
    cases i with
    | zero =>
      cases z
      exact ⟨_, _, rfl, rfl, e⟩
    | succ i => exact ih z
theorem TsAt.at {H : Hp} {vs : List V} {xss : List (List V)} (h : TsAt H vs xss) : ∀ {i : Nat} {xs : List V}, xss[i]? = some xs → ∃ p, vs[i]? = some (.ref p) ∧ H p = some (.tup xs) := by
  induction h with
  | nil => intro i v z; cases z
  | cons e _ ih =>
    intro i v z
    cases i with
    | zero =>
      cases z
      exact ⟨_, rfl, e⟩
    | succ i => exact ih z
theorem TsAt.app {H : Hp} {vs ws : List V} {xss yss : List (List V)} (h : TsAt H vs xss) (g : TsAt H ws yss) : TsAt H (vs ++ ws) (xss ++ yss) := by
  induction h with
  | nil => exact g
  | cons e _ ih => exact .cons e ih
/-- a list of tuples in the heap -/
def TL7 (H : Hp) (a : Addr) (xss : List (List V)) : Prop := ∃ vs, H a = some (.lst vs) ∧ TsAt H vs xss
theorem TL7.same {H H' : Hp} {a : Addr} {xss : List (List V)} (h : TL7 H a xss) (s : Same H H') : TL7 H' a xss := by
  obtain ⟨vs, e, t⟩ := h
  exact ⟨vs, s _ _ e, t.same s⟩
/-- but for another list -/
theorem TsAt.but {H H' : Hp} {a : Addr} {ys : List V} {vs : List V} {xss : List (List V)} (h : TsAt H vs xss) (s : SameBut a H H') (ha : H a = some (.lst ys)) : TsAt H' vs xss := h.mono fun p xs e => s p _ (ne_of e ha (fun z => nomatch z)) e
theorem TL7.but {H H' : Hp} {a b : Addr} {ys : List V} {xss : List (List V)} (h : TL7 H a xss) (s : SameBut b H H') (hb : H b = some (.lst ys)) (n : a ≠ b) : TL7 H' a xss := by
  obtain ⟨vs, e, t⟩ := h
  exact ⟨vs, s _ _ n e, t.but s hb⟩
structure FormP where
  w : Option Int
  pt : Int
  m : Mn
  st : Bool
def FormP.vs (f : FormP) : List V := [wV f.w, .int f.pt, .str f.m.str, .str (endS f.st)]
structure FormP.Ok (f : FormP) : Prop where
  wo : WOk f.w
  p0 : -64 ≤ f.pt
  p1 : f.pt ≤ 64
abbrev FAt (C : Addr) (H : Hp) (p : Addr) (f : FormP) : Prop := FormAt C H p f.w f.pt f.m f.st
/-- forms that are the things of a list -/
inductive FsAt (C : Addr) (H : Hp) : List V → List FormP → Prop where
  | nil : FsAt C H [] []
  | cons {p : Addr} {f : FormP} {vs : List V} {fs : List FormP} (e : FAt C H p f) (r : FsAt C H vs fs) : FsAt C H (.ref p :: vs) (f :: fs)
theorem FsAt.same {C : Addr} {H H' : Hp} {vs : List V} {fs : List FormP} (h : FsAt C H vs fs) (s : Same H H') : FsAt C H' vs fs := by
  induction h with
  | nil => exact .nil
  | cons e _ ih => exact .cons (FormAt.same e s) ih
theorem FsAt.len {C : Addr} {H : Hp} {vs : List V} {fs : List FormP} (h : FsAt C H vs fs) : vs.length = fs.length := by
  induction h with
  | nil => rfl
  | cons _ _ ih => rw [List.length_cons, List.length_cons, ih]
theorem FsAt.get {C : Addr} {H : Hp} {vs : List V} {fs : List FormP} (h : FsAt C H vs fs) : ∀ {i : Nat} {v : V}, vs[i]? = some v → ∃ p f, v = .ref p ∧ fs[i]? = some f ∧ FAt C H p f := by
  induction h with
  | nil => intro i v z; cases z
  | cons e _ ih =>
    intro i v z
    cases i with
    | zero =>
      cases z
      exact ⟨_, _, rfl, rfl, e⟩
    | succ i => exact ih z
theorem FsAt.at {C : Addr} {H : Hp} {vs : List V} {fs : List FormP} (h : FsAt C H vs fs) : ∀ {i : Nat} {f : FormP}, fs[i]? = some f → ∃ p, vs[i]? = some (.ref p) ∧ FAt C H p f := by
  induction h with
  | nil => intro i v z; cases z
  | cons e _ ih =>
    intro i v z
    cases i with
    | zero =>
      cases z
      exact ⟨_, rfl, e⟩
    | succ i => exact ih z
theorem FsAt.app {C : Addr} {H : Hp} {vs ws : List V} {fs gs : List FormP} (h : FsAt C H vs fs) (g : FsAt C H ws gs) : FsAt C H (vs ++ ws) (fs ++ gs) := by
  induction h with
  | nil => exact g
  | cons e _ ih => exact .cons e ih
structure Hold where
  k : Nat
  s : Int
  l : Nat
def Hold.vs (h : Hold) : List V := [.int h.k, .int h.s, .int h.l]
structure NetP where
  fs : List FormP
  en : Nat
  rows : List Row
  holds : List Hold
  out : Nat
def fpt (fs : List FormP) (k : Nat) : Int := ((fs.map (·.pt)).getD k 0)
def hpts (n : NetP) : List Int := n.holds.map fun h => fpt n.fs h.k
/-- a row's point, from the points ahead -/
def rowPt (en : Int) (hp fp pts : List Int) : Row → Int
  | .inn => en
  | .old k => hp.getD k 0
  | .times _ m a => pts.getD a 0 + m
  | .plus a b => let x := pts.getD a 0; let y := pts.getD b 0; if y > x then y else x
  | .less a b => let x := pts.getD a 0; let y := pts.getD b 0; if y > x then y else x
  | .move m a => pts.getD a 0 - m
  | .keep f _ => fp.getD f 0
def ptsOf (en : Int) (hp fp : List Int) (rows : List Row) : List Int := rows.foldl (fun pts r => pts ++ [rowPt en hp fp pts r]) []
def NetP.pts (n : NetP) : List Int := ptsOf (fpt n.fs n.en) (hpts n) (n.fs.map (·.pt)) n.rows
theorem ptsOf_snoc (en : Int) (hp fp : List Int) (rows : List Row) (r : Row) : ptsOf en hp fp (rows ++ [r]) = ptsOf en hp fp rows ++ [rowPt en hp fp (ptsOf en hp fp rows) r] := by
  unfold ptsOf
  rw [List.foldl_append]
  rfl
theorem ptsOf_len (en : Int) (hp fp : List Int) (rows : List Row) : (ptsOf en hp fp rows).length = rows.length := by
  have key : ∀ (rows : List Row) (acc : List Int), (rows.foldl (fun pts r => pts ++ [rowPt en hp fp pts r]) acc).length = acc.length + rows.length := by
    intro rows
    induction rows with
    | nil => intro acc; rfl
    | cons r rs ih =>
      intro acc
      rw [List.foldl_cons, ih]
      simp only [List.length_append, List.length_cons, List.length_nil]
      omega
  have := key rows []
  rw [List.length_nil] at this
  unfold ptsOf
  omega
theorem ptsOf_take (en : Int) (hp fp : List Int) (rows : List Row) (i : Nat) : (ptsOf en hp fp rows).take i = ptsOf en hp fp (rows.take i) := by
  have key : ∀ (rs : List Row) (acc : List Int) (i : Nat), ((rs.foldl (fun pts r => pts ++ [rowPt en hp fp pts r]) acc)).take (acc.length + i) = (rs.take i).foldl (fun pts r => pts ++ [rowPt en hp fp pts r]) acc := by
    intro rs
    induction rs with
    | nil =>
      intro acc i
      rw [List.take_nil]
      exact List.take_of_length_le (by show acc.length ≤ _; omega)
    | cons r rs ih =>
      intro acc i
      cases i with
      | zero =>
        rw [List.take_zero, Nat.add_zero]
        have h := ih (acc ++ [rowPt en hp fp acc r]) 0
        rw [Nat.add_zero, List.take_zero] at h
        rw [List.foldl_cons]
        have h2 := congrArg (List.take acc.length) h
        rw [List.take_take, List.length_append] at h2
        rw [show min acc.length (acc.length + [rowPt en hp fp acc r].length) = acc.length by omega] at h2
        rw [h2]
        show (acc ++ [rowPt en hp fp acc r]).take acc.length = acc
        rw [List.take_append_of_le_length (Nat.le_refl _), List.take_length]
      | succ i =>
        rw [List.foldl_cons, List.take_succ_cons, List.foldl_cons]
        have h := ih (acc ++ [rowPt en hp fp acc r]) i
        rw [List.length_append, List.length_singleton] at h
        rw [← h]
        congr 1
        omega
  have := key rows [] i
  rw [List.length_nil, Nat.zero_add] at this
  exact this
/-- a row that may stand at place i -/
def RowOk (hc fc i : Nat) : Row → Prop
  | .inn => True
  | .old k => k < hc
  | .times f m a => f.natAbs < 9223372036854775808 ∧ m ≤ 64 ∧ a < i
  | .plus a b => a < i ∧ b < i
  | .less a b => a < i ∧ b < i
  | .move m a => m.natAbs ≤ 64 ∧ a < i
  | .keep f a => f < fc ∧ a < i
structure NetOk (n : NetP) : Prop where
  f1 : 1 ≤ n.fs.length
  f2 : n.fs.length ≤ 12
  fo : ∀ f ∈ n.fs, f.Ok
  en : n.en < n.fs.length
  h2 : n.holds.length ≤ 6
  ho : ∀ h ∈ n.holds, h.k < n.fs.length ∧ (∀ f, n.fs[h.k]? = some f → inR f.w h.s = true) ∧ ∃ a, n.rows[h.l]? = some (.keep h.k a)
  r1 : 1 ≤ n.rows.length
  r2 : n.rows.length ≤ 60
  ro : ∀ i r, n.rows[i]? = some r → RowOk n.holds.length n.fs.length i r
  po : ∀ p ∈ n.pts, -200 ≤ p ∧ p ≤ 200
  out : n.out < n.rows.length
/-- a net in the heap -/
def nflds (fl : Addr) (en : Int) (rl hl : Addr) (out : Int) (pl : Addr) : List (Str × V) := [("form_list", .ref fl), ("enters_at", .int en), ("row_list", .ref rl), ("hold_list", .ref hl), ("out_at", .int out), ("point_list", .ref pl)]
structure NetB (C CN : Addr) (H : Hp) (p : Addr) (n : NetP) (dx fl rl hl pl : Addr) (fv rv hv : List V) : Prop where
  ob : H p = some (.ins CN dx (nflds fl n.en rl hl n.out pl))
  fa : H fl = some (.lst fv)
  fs : FsAt C H fv n.fs
  ra : H rl = some (.lst rv)
  rs : TsAt H rv (n.rows.map Row.vs)
  ha : H hl = some (.lst hv)
  hs : TsAt H hv (n.holds.map Hold.vs)
  pa : H pl = some (.lst (n.pts.map V.int))
def NetAt (C CN : Addr) (H : Hp) (p : Addr) (n : NetP) : Prop := NetOk n ∧ ∃ dx fl rl hl pl fv rv hv, NetB C CN H p n dx fl rl hl pl fv rv hv
theorem NetB.same {C CN : Addr} {H H' : Hp} {p : Addr} {n : NetP} {dx fl rl hl pl : Addr} {fv rv hv : List V} (h : NetB C CN H p n dx fl rl hl pl fv rv hv) (s : Same H H') : NetB C CN H' p n dx fl rl hl pl fv rv hv :=
  ⟨s _ _ h.ob, s _ _ h.fa, h.fs.same s, s _ _ h.ra, h.rs.same s, s _ _ h.ha, h.hs.same s, s _ _ h.pa⟩
theorem NetAt.same {C CN : Addr} {H H' : Hp} {p : Addr} {n : NetP} (h : NetAt C CN H p n) (s : Same H H') : NetAt C CN H' p n := by
  obtain ⟨o, dx, fl, rl, hl, pl, fv, rv, hv, b⟩ := h
  exact ⟨o, dx, fl, rl, hl, pl, fv, rv, hv, b.same s⟩
theorem get_map {α : Type} {l : List α} {i : Nat} {g : α → V} {x : α} (h : l[i]? = some x) : (l.map g)[i]? = some (g x) := by rw [List.getElem?_map, h]; rfl
theorem getD_of {l : List Int} {i : Nat} (h : i < l.length) : l[i]? = some (l.getD i 0) := by
  rw [List.getD_eq_getElem?_getD, List.getElem?_eq_getElem h]
  rfl
theorem ints_at {l : List Int} {i : Nat} (h : i < l.length) : atI (l.map V.int) (i : Int) = some (.int (l.getD i 0)) := atI_nat (get_map (getD_of h))
end E1

namespace E1
open PySem PySem.Spec PyProof.Rows L2

/-- how many steps of the form a number at a point is, rounded -/
def stepsAt (pt : Int) (m : Mn) (n p : Int) : Int := if p ≤ pt then n * 2 ^ (pt - p).toNat else m.f n (2 ^ (p - pt).toNat)
def spEnded (C : Addr) : Sp := fun vs H Q _ => ∃ (p : Addr) (w : Option Int) (pt : Int) (m : Mn) (st : Bool) (n : Int), vs = [.ref p, .int n] ∧ FormAt C H p w pt m st ∧ ∀ r, H r = none → Q (.ref r) (upd H r (.tup [.int (wordF w st n), .int (n - wordF w st n)]))
def spKeptAt (C : Addr) : Sp := fun vs H Q _ => ∃ (p : Addr) (w : Option Int) (pt : Int) (m : Mn) (st : Bool) (n x : Int), vs = [.ref p, .int n, .int x] ∧ FormAt C H p w pt m st ∧ -200 ≤ x ∧ x ≤ 200 ∧ n.natAbs < 2 ^ 900000 ∧
  ∀ (r : Addr) (H' : Hp), H r = none → Same H H' → H' r = some (.tup [.int (wordF w st (stepsAt pt m n x)), .int (stepsAt pt m n x - wordF w st (stepsAt pt m n x))]) → Q (.ref r) H'
theorem ibits_lt {i : Int} {n : Nat} (h : i.natAbs < 2 ^ n) : Builtin.Int.intBits i ≤ n := by
  exact PySem.intBits_le_iff.mpr h
theorem shl_ok {i : Int} {n k : Nat} (h : i.natAbs < 2 ^ n) (l : n + k ≤ 1000000) : CShl i (k : Int) := by
  refine ⟨by omega, ?_⟩
  have := ibits_lt h
  omega
theorem one_shl (k : Nat) : (1 : Int) * 2 ^ k = 2 ^ k := Int.one_mul _
theorem two_pow_lt {k n : Nat} (h : k < n) : ((2 : Int) ^ k).natAbs < 2 ^ n := by
  rw [Int.natAbs_pow]
  exact Nat.pow_lt_pow_right (by decide) h
theorem two_pow_pos (k : Nat) : (0 : Int) < 2 ^ k := Int.pow_pos (by decide)
section
variable {P : Program} {w : World} {K : PySem.W.Frag} {mg : Str → Option Value} {base : Heap}
theorem sc_Form_ended : FnScope ["self", "number", "word"] ["self", "number"] (defScope s_Form_ended) := ⟨rfl, rfl, rfl, by decide +kernel, rfl, by decide +kernel, by decide +kernel⟩
theorem ok_Form_ended {f : Addr} {fd : FuncData} {C : Addr} (T : FTxt K mg C) (F : Fun K "ended" "Form.ended" s_Form_ended f fd) (m_word_for : CalM P w K mg base 3 C "word_for" ["self", "number"] (spWord C)) : FnOk P w K mg base CX0 4 f fd ["self", "number"] (spEnded C) := by
  refine F.ok sc_Form_ended (fun vs H Q E h => ?_) (fun cdv A outer s H vs Q E hr h => ?_)
  · obtain ⟨p, w, pt, m, st, n, rfl, _⟩ := h
    rfl
  · obtain ⟨p, w, pt, m, st, n, rfl, hf, q⟩ := h
    obtain ⟨⟨dx, ho⟩, hw, h0, h1⟩ := id hf
    refine ⟨_, (pss_cons (ps_set (i := 2) sc_Form_ended.nd rfl (.inl rfl) (pe_calm (pv 0) T.cl m_word_for hr (pa_cons (pv 1) pa_nil)))
      (pss_one (ps_ret (pe_tup (pa_cons (pv 2) (pa_cons (pe_op op_sub (pv 1) (pv 2)) pa_nil)))))), ?_⟩
    refine ⟨_, rfl, p, dx, _, rfl, ho, fl_no (by decide +kernel), _, rfl, p, w, pt, m, st, n, rfl, hf, ?_⟩
    exact ⟨_, rfl, _, rfl, _, rfl, _, _, rfl, rfl, (by show 2 ≤ sizeLine; decide), fun r hr => q r hr⟩
theorem sc_Form_kept_at : FnScope ["self", "number", "point"] ["self", "number", "point"] (defScope s_Form_kept_at) := ⟨rfl, rfl, rfl, by decide +kernel, rfl, by decide +kernel, by decide +kernel⟩
theorem ok_Form_kept_at {f : Addr} {fd : FuncData} {C : Addr} (T : FTxt K mg C) (F : Fun K "kept_at" "Form.kept_at" s_Form_kept_at f fd) (c_rounded : Cal P w K mg base 3 "rounded" ["value", "manner"] (spRounded K)) (m_ended : CalM P w K mg base 4 C "ended" ["self", "number"] (spEnded C)) : FnOk P w K mg base CX0 5 f fd ["self", "number", "point"] (spKeptAt C) := by
  refine F.ok sc_Form_kept_at (fun vs H Q E h => ?_) (fun cdv A outer s H vs Q E hr h => ?_)
  · obtain ⟨p, w, pt, m, st, n, x, rfl, _⟩ := h
    rfl
  · obtain ⟨p, w, pt, m, st, n, x, rfl, hf, x0, x1, hn, q⟩ := h
    obtain ⟨⟨dx, ho⟩, hw, h0, h1⟩ := id hf
    refine ⟨_, (pss_cons (ps_if (pt_cmpR op_le (pv 2) (pe_fld (pv 0) rfl) (nomark _)) (pss_one (ps_ret (pe_calm (pv 0) T.cl m_ended hr (pa_cons (pe_op op_shlW (pv 1) (pe_op op_sub (pe_fld (pv 0) rfl) (pv 2))) pa_nil)))) pss_nil)
      (pss_one (ps_ret (pe_calm (pv 0) T.cl m_ended hr (pa_cons (pe_cal c_rounded hr (pa_cons (pe_tup (pa_cons (pv 1) (pa_cons (pe_op op_shlW pe_int (pe_op op_sub (pv 2) (pe_fld (pv 0) rfl))) pa_nil))) (pa_cons (pe_fld (pv 0) rfl) pa_nil))) pa_nil))))), ?_⟩
    refine ⟨_, rfl, _, rfl, p, C, dx, _, _, rfl, ho, T.cl, T.nP, fl_p, _, _, rfl, rfl, _, rfl, ite2 (fun c => ?_) (fun c => ?_)⟩
    · have hc : x ≤ pt := toB c
      have e : pt - x = (((pt - x).toNat : Nat) : Int) := by omega
      refine ⟨_, rfl, p, dx, _, rfl, ho, fl_no (by decide +kernel), _, rfl, _, rfl, p, C, dx, _, _, rfl, ho, T.cl, T.nP, fl_p, _, rfl, _, _, rfl, rfl, _, _, rfl, rfl, ?_, p, w, pt, m, st, _, rfl, hf, fun r hr => ?_⟩
      · rw [e]
        exact shl_ok hn (by omega)
      · have es : stepsAt pt m n x = n * 2 ^ (pt - x).toNat := if_pos hc
        have := q r _ hr (same_new (o := .tup [.int (wordF w st (n * 2 ^ (pt - x).toNat)), .int (n * 2 ^ (pt - x).toNat - wordF w st (n * 2 ^ (pt - x).toNat))]) hr)
        rw [es] at this
        exact this upd_same
    · have hc : ¬ x ≤ pt := toNB c
      have e : x - pt = (((x - pt).toNat : Nat) : Int) := by omega
      refine ⟨_, rfl, p, dx, _, rfl, ho, fl_no (by decide +kernel), _, rfl, _, rfl, _, rfl, p, C, dx, _, _, rfl, ho, T.cl, T.nP, fl_p, _, _, rfl, rfl, _, _, rfl, rfl, ?_, (by show 2 ≤ sizeLine; decide), fun t ht => ?_⟩
      · rw [e]
        exact shl_ok (n := 1) (by decide) (by omega)
      generalize hG : upd _ t _ = G
      obtain ⟨s, h_t⟩ := upd_gen hG ht
      have ho2 := s _ _ ho
      refine ⟨_, rfl, p, C, dx, _, _, rfl, ho2, T.cl, T.nM, fl_m, t, m, n, _, rfl, SqT.of h_t, ?_, up hn (by omega), ?_, p, w, pt, m, st, _, rfl, hf.same s, fun r hr => ?_⟩
      · rw [Int.one_mul]
        exact two_pow_pos _
      · rw [Int.one_mul]
        exact up (two_pow_lt (n := 300) (by omega)) (by decide)
      · have es : stepsAt pt m n x = m.f n (2 ^ (x - pt).toNat) := if_neg hc
        rw [Int.one_mul]
        have := q r _ (s.free hr) (s.trans (same_new (o := .tup [.int (wordF w st (m.f n (2 ^ (x - pt).toNat))), .int (m.f n (2 ^ (x - pt).toNat) - wordF w st (m.f n (2 ^ (x - pt).toNat)))]) hr))
        rw [es] at this
        exact this upd_same
end
end E1

namespace E1
open PySem PySem.Spec PyProof.Rows L2

def GivenAt (H : Hp) (gv : Addr) (en : Int) (hp fp : List Int) : Prop := ∃ ha fa, H gv = some (.tup [.int en, .ref ha, .ref fa]) ∧ H ha = some (.lst (hp.map V.int)) ∧ H fa = some (.lst (fp.map V.int))
def spPlace : Sp := fun vs H Q _ => ∃ k n : Int, vs = [.int k, .int n] ∧ 0 ≤ k ∧ k < n ∧ Q (.bl true) H
def spFactor : Sp := fun vs H Q _ => ∃ f : Int, vs = [.int f] ∧ f.natAbs < 9223372036854775808 ∧ Q (.bl true) H
def spRule (kd : Kd7) : Sp := fun vs H Q _ => ∃ (ra pa gv : Addr) (r : Row) (en : Int) (hp fp pts : List Int), vs = [.ref ra, .ref pa, .ref gv] ∧ H ra = some (.tup r.vs) ∧ r.kd = kd ∧ H pa = some (.lst (pts.map V.int)) ∧ GivenAt H gv en hp fp ∧ RowOk hp.length fp.length pts.length r ∧ Q (.int (rowPt en hp fp pts r)) H
def spRowPt : Sp := fun vs H Q _ => ∃ (ra pa gv : Addr) (r : Row) (en : Int) (hp fp pts : List Int), vs = [.ref ra, .ref pa, .ref gv] ∧ H ra = some (.tup r.vs) ∧ H pa = some (.lst (pts.map V.int)) ∧ GivenAt H gv en hp fp ∧ RowOk hp.length fp.length pts.length r ∧ -200 ≤ rowPt en hp fp pts r ∧ rowPt en hp fp pts r ≤ 200 ∧ Q (.int (rowPt en hp fp pts r)) H
def spWritten : Sp := fun vs H Q _ => ∃ (ra : Addr) (r : Row), vs = [.ref ra] ∧ H ra = some (.tup r.vs) ∧ Q (.bl true) H
structure Lens (w : World) (K : PySem.W.Frag) (mg : Str → Option Value) (dL : Addr) (es : Array DictEntry) (n : Nat) : Prop where
  gm : mg "ROW_LENGTHS" = some (.ref dL)
  D : KDict K w dL es n
  at_ : ∀ k : Kd7, ∃ t, PySem.W.nsIn K dL k.s = some (some (.int (k.n : Int) t))
structure Ruls (P : Program) (w : World) (K : PySem.W.Frag) (mg : Str → Option Value) (base : Heap) (dP : Addr) (es : Array DictEntry) (n : Nat) : Prop where
  gm : mg "POINT_RULES" = some (.ref dP)
  D : KDict K w dP es n
  at_ : ∀ k : Kd7, ∃ (f : Addr) (fd : FuncData), PySem.W.nsIn K dP k.s = some (some (.ref f)) ∧ PySem.W.keepIn K (.ref f) = true ∧ Binds K fd ["row", "points", "given"] [] ∧ FnOk P w K mg base CX0 3 f fd ["row", "points", "given"] (spRule k)
structure NCst (mg : Str → Option Value) : Prop where
  fe : ∃ t, mg "FACTOR_END" = some (.int 9223372036854775808 t)
  gs : ∃ t, mg "GREATEST_SHIFT" = some (.int 64 t)
  gr : ∃ t, mg "GREATEST_ROW_POINT" = some (.int 200 t)
  mf : ∃ t, mg "MOST_FORMS" = some (.int 12 t)
  mr : ∃ t, mg "MOST_ROWS" = some (.int 60 t)
  mh : ∃ t, mg "MOST_HOLDS" = some (.int 6 t)
theorem qt {p : Prop} [Decidable p] {Q : VK} {H : Hp} (h : p) (q : Q (.bl true) H) : Q (.bl (decide p)) H := (congrArg (fun c => Q (.bl c) H) (decide_eq_true h)).mpr q
theorem lenI {l : List Int} : ((l.map V.int).length : Int) = (l.length : Int) := by rw [List.length_map]
section
variable {P : Program} {w : World} {K : PySem.W.Frag} {mg : Str → Option Value} {base : Heap}
theorem sc_is_place : FnScope ["thing", "many"] ["thing", "many"] (defScope s_is_place) := ⟨rfl, rfl, rfl, by decide +kernel, rfl, by decide +kernel, by decide +kernel⟩
theorem ok_is_place {f : Addr} {fd : FuncData} (F : Fun K "is_place" "is_place" s_is_place f fd) (c_is_whole : Cal P w K mg base 1 "is_whole" ["thing"] (spWhole K)) : FnOk P w K mg base CX0 2 f fd ["thing", "many"] spPlace := by
  refine F.ok sc_is_place (fun vs H Q E h => ?_) (fun cdv A outer s H vs Q E hr h => ?_)
  · obtain ⟨k, n, rfl, _⟩ := h
    rfl
  · obtain ⟨k, n, rfl, h0, h1, q⟩ := h
    refine ⟨_, (pss_one (ps_ret (pe_and (pe_cal c_is_whole hr (pa_cons (pv 0) pa_nil)) (pe_one (pe_chain op_le op_lt pe_int (pv 0) (pv 1)))))), ?_⟩
    refine ⟨_, rfl, _, true, rfl, .inl ⟨k, rfl, rfl⟩, _, rfl, iteT ⟨_, rfl, _, _, rfl, rfl, _, rfl, ?_⟩⟩
    rw [decide_eq_true (show (0 : Int) ≤ k from h0)]
    exact iteT ⟨_, rfl, _, _, rfl, rfl, qt h1 q⟩
theorem sc_is_factor : FnScope ["thing"] ["thing"] (defScope s_is_factor) := ⟨rfl, rfl, rfl, by decide +kernel, rfl, by decide +kernel, by decide +kernel⟩
theorem ok_is_factor {f : Addr} {fd : FuncData} (NC : NCst mg) (F : Fun K "is_factor" "is_factor" s_is_factor f fd) (z : Zs mg) (c_is_whole : Cal P w K mg base 1 "is_whole" ["thing"] (spWhole K)) : FnOk P w K mg base CX0 2 f fd ["thing"] spFactor := by
  refine F.ok sc_is_factor (fun vs H Q E h => ?_) (fun cdv A outer s H vs Q E hr h => ?_)
  · obtain ⟨k, rfl, _⟩ := h
    rfl
  · obtain ⟨k, rfl, h1, q⟩ := h
    refine ⟨_, (pss_one (ps_ret (pe_and (pe_cal c_is_whole hr (pa_cons (pv 0) pa_nil)) (pe_one (pe_cmpR op_lt (pe_callB call_abs (by rfl) z.abs (by decide +kernel) (pa_cons (pv 0) pa_nil)) (pe_glob (v := .int 9223372036854775808) (by rfl) NC.fe.choose_spec ⟨_, rfl⟩) (nomark _)))))), ?_⟩
    refine ⟨_, rfl, _, true, rfl, .inl ⟨k, rfl, rfl⟩, _, rfl, iteT ⟨_, rfl, _, rfl, _, _, rfl, rfl, qt (show (if k < 0 then -k else k) < 9223372036854775808 by split <;> omega) q⟩⟩
theorem sc_in_point : FnScope ["row", "points", "given"] ["row", "points", "given"] (defScope s_in_point) := ⟨rfl, rfl, rfl, by decide +kernel, rfl, by decide +kernel, by decide +kernel⟩
theorem ok_in_point {f : Addr} {fd : FuncData} (F : Fun K "in_point" "in_point" s_in_point f fd) : FnOk P w K mg base CX0 3 f fd ["row", "points", "given"] (spRule .inn) := by
  refine F.ok sc_in_point (fun vs H Q E h => ?_) (fun cdv A outer s H vs Q E hr h => ?_)
  · obtain ⟨ra, pa, gv, r, en, hp, fp, pts, rfl, _⟩ := h
    rfl
  · obtain ⟨ra, pa, gv, r, en, hp, fp, pts, rfl, hra, hk, hpa, ⟨ha, fa, hgv, hha, hfa⟩, hok, q⟩ := h
    refine ⟨_, (pss_one (ps_ret (pe_ix ix_tup (pv 2) pe_int (fun _ _ => rfl)))), ?_⟩
    match r, hk, hok, hra, q with
    | .inn, _, _, hra, q => exact ⟨_, rfl, gv, _, 0, .int en, rfl, rfl, SqT.of hgv, a0, q⟩
theorem sc_old_point : FnScope ["row", "points", "given", "hold_points"] ["row", "points", "given"] (defScope s_old_point) := ⟨rfl, rfl, rfl, by decide +kernel, rfl, by decide +kernel, by decide +kernel⟩
theorem ok_old_point {f : Addr} {fd : FuncData} (z : Zs mg) (c_is_place : Cal P w K mg base 2 "is_place" ["thing", "many"] spPlace) (F : Fun K "old_point" "old_point" s_old_point f fd) : FnOk P w K mg base CX0 3 f fd ["row", "points", "given"] (spRule .old) := by
  refine F.ok sc_old_point (fun vs H Q E h => ?_) (fun cdv A outer s H vs Q E hr h => ?_)
  · obtain ⟨ra, pa, gv, r, en, hp, fp, pts, rfl, _⟩ := h
    rfl
  · obtain ⟨ra, pa, gv, r, en, hp, fp, pts, rfl, hra, hk, hpa, ⟨ha, fa, hgv, hha, hfa⟩, hok, q⟩ := h
    refine ⟨_, (pss_cons (ps_set (i := 3) sc_old_point.nd rfl (.inl rfl) (pe_ix ix_tup (pv 2) pe_int (fun _ _ => rfl)))
      (pss_one (ps_ret (pe_ifExp (pt_val (pe_cal c_is_place hr (pa_cons (pe_ix ix_tup (pv 0) pe_int (fun _ _ => rfl)) (pa_cons (pe_callB call_len_seq (by rfl) z.len PySem.boot_len (pa_cons (pv 3) pa_nil)) pa_nil)))) (pe_ix ix_list (pv 3) (pe_ix ix_tup (pv 0) pe_int (fun _ _ => rfl)) (fun _ _ => rfl)) pe_non)))), ?_⟩
    match r, hk, hok, hra, q with
    | .old k, _, hok, hra, q =>
      have hk : k < hp.length := hok
      refine ⟨_, rfl, gv, _, 1, .ref ha, rfl, rfl, SqT.of hgv, a1, _, rfl, ra, _, 1, .int k, rfl, rfl, SqT.of hra, a1, _, rfl, ha, _, rfl, .inl (SqL.of hha), _, _, rfl, by omega, by rw [lenI]; omega, _, rfl, iteT ?_⟩
      exact ⟨_, rfl, _, rfl, ra, _, 1, .int k, rfl, rfl, SqT.of hra, a1, ha, _, _, _, rfl, rfl, SqL.of hha, ints_at hk, q⟩
theorem sc_times_point : FnScope ["row", "points", "given", "word", "factor", "more", "at"] ["row", "points", "given"] (defScope s_times_point) := ⟨rfl, rfl, rfl, by decide +kernel, rfl, by decide +kernel, by decide +kernel⟩
theorem ok_times_point {f : Addr} {fd : FuncData} (NC : NCst mg) (z : Zs mg) (c_is_factor : Cal P w K mg base 2 "is_factor" ["thing"] spFactor) (c_is_place : Cal P w K mg base 2 "is_place" ["thing", "many"] spPlace) (F : Fun K "times_point" "times_point" s_times_point f fd) : FnOk P w K mg base CX0 3 f fd ["row", "points", "given"] (spRule .times) := by
  refine F.ok sc_times_point (fun vs H Q E h => ?_) (fun cdv A outer s H vs Q E hr h => ?_)
  · obtain ⟨ra, pa, gv, r, en, hp, fp, pts, rfl, _⟩ := h
    rfl
  · obtain ⟨ra, pa, gv, r, en, hp, fp, pts, rfl, hra, hk, hpa, ⟨ha, fa, hgv, hha, hfa⟩, hok, q⟩ := h
    refine ⟨_, (pss_cons (ps_asg (pv 0) (pg_tup (by rfl) (pgs_cons (pg_name (i := 3) sc_times_point.nd rfl (.inl rfl)) (pgs_cons (pg_name (i := 4) sc_times_point.nd rfl (.inl rfl)) (pgs_cons (pg_name (i := 5) sc_times_point.nd rfl (.inl rfl)) (pgs_cons (pg_name (i := 6) sc_times_point.nd rfl (.inl rfl)) pgs_nil))))))
      (pss_cons (ps_if (PW.pt (pw_or (pt_not (pt_val (pe_cal c_is_factor hr (pa_cons (pv 4) pa_nil)))) (pw_or (pt_not (pt_val (pe_cal c_is_place hr (pa_cons (pv 5) (pa_cons (pe_op op_add (pe_glob (v := .int 64) (by rfl) NC.gs.choose_spec ⟨_, rfl⟩) pe_int) pa_nil))))) (pw_or1 (pt_not (pt_val (pe_cal c_is_place hr (pa_cons (pv 6) (pa_cons (pe_callB call_len_seq (by rfl) z.len PySem.boot_len (pa_cons (pv 1) pa_nil)) pa_nil))))))))) (pss_one (ps_ret pe_non)) pss_nil)
      (pss_one (ps_ret (pe_op op_add (pe_ix ix_list (pv 1) (pv 6) (fun _ _ => rfl)) (pv 5)))))), ?_⟩
    match r, hk, hok, hra, q with
    | .times f m a, _, hok, hra, q =>
      obtain ⟨h1, h2, h3⟩ := hok
      refine ⟨_, rfl, ra, _, rfl, SqT.of hra, rfl, _, _, rfl, _, _, rfl, _, _, rfl, _, _, rfl, rfl, _, rfl, f, rfl, h1, _, rfl, iteF ⟨_, rfl, _, _, rfl, rfl, _, _, rfl, by omega, by omega, _, rfl, iteF ⟨_, rfl, _, rfl, pa, _, rfl, .inl (SqL.of hpa), _, _, rfl, by omega, by rw [lenI]; omega, _, rfl, iteF ?_⟩⟩⟩
      exact ⟨_, rfl, _, rfl, pa, _, _, _, rfl, rfl, SqL.of hpa, ints_at h3, _, rfl, _, _, rfl, rfl, q⟩
theorem sc_sum_point : FnScope ["row", "points", "given", "word", "one", "other"] ["row", "points", "given"] (defScope s_sum_point) := ⟨rfl, rfl, rfl, by decide +kernel, rfl, by decide +kernel, by decide +kernel⟩
theorem ok_sum_point_plus {f : Addr} {fd : FuncData} (z : Zs mg) (c_is_place : Cal P w K mg base 2 "is_place" ["thing", "many"] spPlace) (F : Fun K "sum_point" "sum_point" s_sum_point f fd) : FnOk P w K mg base CX0 3 f fd ["row", "points", "given"] (spRule .plus) := by
  refine F.ok sc_sum_point (fun vs H Q E h => ?_) (fun cdv A outer s H vs Q E hr h => ?_)
  · obtain ⟨ra, pa, gv, r, en, hp, fp, pts, rfl, _⟩ := h
    rfl
  · obtain ⟨ra, pa, gv, r, en, hp, fp, pts, rfl, hra, hk, hpa, ⟨ha, fa, hgv, hha, hfa⟩, hok, q⟩ := h
    refine ⟨_, (pss_cons (ps_asg (pv 0) (pg_tup (by rfl) (pgs_cons (pg_name (i := 3) sc_sum_point.nd rfl (.inl rfl)) (pgs_cons (pg_name (i := 4) sc_sum_point.nd rfl (.inl rfl)) (pgs_cons (pg_name (i := 5) sc_sum_point.nd rfl (.inl rfl)) pgs_nil)))))
      (pss_cons (ps_if (PW.pt (pw_or (pt_not (pt_val (pe_cal c_is_place hr (pa_cons (pv 4) (pa_cons (pe_callB call_len_seq (by rfl) z.len PySem.boot_len (pa_cons (pv 1) pa_nil)) pa_nil))))) (pw_or1 (pt_not (pt_val (pe_cal c_is_place hr (pa_cons (pv 5) (pa_cons (pe_callB call_len_seq (by rfl) z.len PySem.boot_len (pa_cons (pv 1) pa_nil)) pa_nil)))))))) (pss_one (ps_ret pe_non)) pss_nil)
      (pss_one (ps_ret (pe_callB (call_max2 rfl) (by rfl) z.max (by decide +kernel) (pa_cons (pe_ix ix_list (pv 1) (pv 4) (fun _ _ => rfl)) (pa_cons (pe_ix ix_list (pv 1) (pv 5) (fun _ _ => rfl)) pa_nil))))))), ?_⟩
    match r, hk, hok, hra, q with
    | .plus a b, _, hok, hra, q =>
      obtain ⟨h1, h2⟩ := hok
      refine ⟨_, rfl, ra, _, rfl, SqT.of hra, rfl, _, _, rfl, _, _, rfl, _, _, rfl, rfl, _, rfl, _, rfl, pa, _, rfl, .inl (SqL.of hpa), _, _, rfl, by omega, by rw [lenI]; omega, _, rfl, iteF ⟨_, rfl, _, rfl, pa, _, rfl, .inl (SqL.of hpa), _, _, rfl, by omega, by rw [lenI]; omega, _, rfl, iteF ?_⟩⟩
      exact ⟨_, rfl, _, rfl, pa, _, _, _, rfl, rfl, SqL.of hpa, ints_at h1, _, rfl, _, rfl, pa, _, _, _, rfl, rfl, SqL.of hpa, ints_at h2, _, _, rfl, q⟩
theorem ok_sum_point_less {f : Addr} {fd : FuncData} (z : Zs mg) (c_is_place : Cal P w K mg base 2 "is_place" ["thing", "many"] spPlace) (F : Fun K "sum_point" "sum_point" s_sum_point f fd) : FnOk P w K mg base CX0 3 f fd ["row", "points", "given"] (spRule .less) := by
  refine F.ok sc_sum_point (fun vs H Q E h => ?_) (fun cdv A outer s H vs Q E hr h => ?_)
  · obtain ⟨ra, pa, gv, r, en, hp, fp, pts, rfl, _⟩ := h
    rfl
  · obtain ⟨ra, pa, gv, r, en, hp, fp, pts, rfl, hra, hk, hpa, ⟨ha, fa, hgv, hha, hfa⟩, hok, q⟩ := h
    refine ⟨_, (pss_cons (ps_asg (pv 0) (pg_tup (by rfl) (pgs_cons (pg_name (i := 3) sc_sum_point.nd rfl (.inl rfl)) (pgs_cons (pg_name (i := 4) sc_sum_point.nd rfl (.inl rfl)) (pgs_cons (pg_name (i := 5) sc_sum_point.nd rfl (.inl rfl)) pgs_nil)))))
      (pss_cons (ps_if (PW.pt (pw_or (pt_not (pt_val (pe_cal c_is_place hr (pa_cons (pv 4) (pa_cons (pe_callB call_len_seq (by rfl) z.len PySem.boot_len (pa_cons (pv 1) pa_nil)) pa_nil))))) (pw_or1 (pt_not (pt_val (pe_cal c_is_place hr (pa_cons (pv 5) (pa_cons (pe_callB call_len_seq (by rfl) z.len PySem.boot_len (pa_cons (pv 1) pa_nil)) pa_nil)))))))) (pss_one (ps_ret pe_non)) pss_nil)
      (pss_one (ps_ret (pe_callB (call_max2 rfl) (by rfl) z.max (by decide +kernel) (pa_cons (pe_ix ix_list (pv 1) (pv 4) (fun _ _ => rfl)) (pa_cons (pe_ix ix_list (pv 1) (pv 5) (fun _ _ => rfl)) pa_nil))))))), ?_⟩
    match r, hk, hok, hra, q with
    | .less a b, _, hok, hra, q =>
      obtain ⟨h1, h2⟩ := hok
      refine ⟨_, rfl, ra, _, rfl, SqT.of hra, rfl, _, _, rfl, _, _, rfl, _, _, rfl, rfl, _, rfl, _, rfl, pa, _, rfl, .inl (SqL.of hpa), _, _, rfl, by omega, by rw [lenI]; omega, _, rfl, iteF ⟨_, rfl, _, rfl, pa, _, rfl, .inl (SqL.of hpa), _, _, rfl, by omega, by rw [lenI]; omega, _, rfl, iteF ?_⟩⟩
      exact ⟨_, rfl, _, rfl, pa, _, _, _, rfl, rfl, SqL.of hpa, ints_at h1, _, rfl, _, rfl, pa, _, _, _, rfl, rfl, SqL.of hpa, ints_at h2, _, _, rfl, q⟩
theorem sc_move_point : FnScope ["row", "points", "given", "word", "many", "at"] ["row", "points", "given"] (defScope s_move_point) := ⟨rfl, rfl, rfl, by decide +kernel, rfl, by decide +kernel, by decide +kernel⟩
theorem ok_move_point {f : Addr} {fd : FuncData} (NC : NCst mg) (z : Zs mg) (c_is_whole : Cal P w K mg base 1 "is_whole" ["thing"] (spWhole K)) (c_is_place : Cal P w K mg base 2 "is_place" ["thing", "many"] spPlace) (F : Fun K "move_point" "move_point" s_move_point f fd) : FnOk P w K mg base CX0 3 f fd ["row", "points", "given"] (spRule .move) := by
  refine F.ok sc_move_point (fun vs H Q E h => ?_) (fun cdv A outer s H vs Q E hr h => ?_)
  · obtain ⟨ra, pa, gv, r, en, hp, fp, pts, rfl, _⟩ := h
    rfl
  · obtain ⟨ra, pa, gv, r, en, hp, fp, pts, rfl, hra, hk, hpa, ⟨ha, fa, hgv, hha, hfa⟩, hok, q⟩ := h
    refine ⟨_, (pss_cons (ps_asg (pv 0) (pg_tup (by rfl) (pgs_cons (pg_name (i := 3) sc_move_point.nd rfl (.inl rfl)) (pgs_cons (pg_name (i := 4) sc_move_point.nd rfl (.inl rfl)) (pgs_cons (pg_name (i := 5) sc_move_point.nd rfl (.inl rfl)) pgs_nil)))))
      (pss_cons (ps_if (PW.pt (pw_or (pt_not (pt_val (pe_cal c_is_whole hr (pa_cons (pv 4) pa_nil)))) (pw_or (pt_cmpR op_gt (pe_callB call_abs (by rfl) z.abs (by decide +kernel) (pa_cons (pv 4) pa_nil)) (pe_glob (v := .int 64) (by rfl) NC.gs.choose_spec ⟨_, rfl⟩) (nomark _)) (pw_or1 (pt_not (pt_val (pe_cal c_is_place hr (pa_cons (pv 5) (pa_cons (pe_callB call_len_seq (by rfl) z.len PySem.boot_len (pa_cons (pv 1) pa_nil)) pa_nil))))))))) (pss_one (ps_ret pe_non)) pss_nil)
      (pss_one (ps_ret (pe_op op_sub (pe_ix ix_list (pv 1) (pv 5) (fun _ _ => rfl)) (pv 4)))))), ?_⟩
    match r, hk, hok, hra, q with
    | .move m a, _, hok, hra, q =>
      obtain ⟨h1, h2⟩ := hok
      refine ⟨_, rfl, ra, _, rfl, SqT.of hra, rfl, _, _, rfl, _, _, rfl, _, _, rfl, rfl, _, rfl, _, true, rfl, .inl ⟨m, rfl, rfl⟩, _, rfl, iteF ⟨_, rfl, _, rfl, _, _, rfl, rfl, _, rfl, iteC (d := false) (decide_eq_false (by split <;> omega)) (iteF ⟨_, rfl, _, rfl, pa, _, rfl, .inl (SqL.of hpa), _, _, rfl, by omega, by rw [lenI]; omega, _, rfl, iteF ?_⟩)⟩⟩
      exact ⟨_, rfl, _, rfl, pa, _, _, _, rfl, rfl, SqL.of hpa, ints_at h2, _, rfl, _, _, rfl, rfl, q⟩
theorem sc_keep_point : FnScope ["row", "points", "given", "word", "form", "at", "form_points"] ["row", "points", "given"] (defScope s_keep_point) := ⟨rfl, rfl, rfl, by decide +kernel, rfl, by decide +kernel, by decide +kernel⟩
theorem ok_keep_point {f : Addr} {fd : FuncData} (z : Zs mg) (c_is_place : Cal P w K mg base 2 "is_place" ["thing", "many"] spPlace) (F : Fun K "keep_point" "keep_point" s_keep_point f fd) : FnOk P w K mg base CX0 3 f fd ["row", "points", "given"] (spRule .keep) := by
  refine F.ok sc_keep_point (fun vs H Q E h => ?_) (fun cdv A outer s H vs Q E hr h => ?_)
  · obtain ⟨ra, pa, gv, r, en, hp, fp, pts, rfl, _⟩ := h
    rfl
  · obtain ⟨ra, pa, gv, r, en, hp, fp, pts, rfl, hra, hk, hpa, ⟨ha, fa, hgv, hha, hfa⟩, hok, q⟩ := h
    refine ⟨_, (pss_cons (ps_asg (pv 0) (pg_tup (by rfl) (pgs_cons (pg_name (i := 3) sc_keep_point.nd rfl (.inl rfl)) (pgs_cons (pg_name (i := 4) sc_keep_point.nd rfl (.inl rfl)) (pgs_cons (pg_name (i := 5) sc_keep_point.nd rfl (.inl rfl)) pgs_nil)))))
      (pss_cons (ps_set (i := 6) sc_keep_point.nd rfl (.inl rfl) (pe_ix ix_tup (pv 2) pe_int (fun _ _ => rfl)))
      (pss_cons (ps_if (PW.pt (pw_or (pt_not (pt_val (pe_cal c_is_place hr (pa_cons (pv 4) (pa_cons (pe_callB call_len_seq (by rfl) z.len PySem.boot_len (pa_cons (pv 6) pa_nil)) pa_nil))))) (pw_or1 (pt_not (pt_val (pe_cal c_is_place hr (pa_cons (pv 5) (pa_cons (pe_callB call_len_seq (by rfl) z.len PySem.boot_len (pa_cons (pv 1) pa_nil)) pa_nil)))))))) (pss_one (ps_ret pe_non)) pss_nil)
      (pss_one (ps_ret (pe_ix ix_list (pv 6) (pv 4) (fun _ _ => rfl))))))), ?_⟩
    match r, hk, hok, hra, q with
    | .keep f a, _, hok, hra, q =>
      obtain ⟨h1, h2⟩ := hok
      refine ⟨_, rfl, ra, _, rfl, SqT.of hra, rfl, _, _, rfl, _, _, rfl, _, _, rfl, rfl, _, rfl, gv, _, 2, .ref fa, rfl, rfl, SqT.of hgv, a2, _, rfl, _, rfl, fa, _, rfl, .inl (SqL.of hfa), _, _, rfl, by omega, by rw [lenI]; omega, _, rfl, iteF ⟨_, rfl, _, rfl, pa, _, rfl, .inl (SqL.of hpa), _, _, rfl, by omega, by rw [lenI]; omega, _, rfl, iteF ?_⟩⟩
      exact ⟨_, rfl, _, rfl, fa, _, _, _, rfl, rfl, SqL.of hfa, ints_at h1, q⟩
theorem sc_is_written_as_row : FnScope ["thing"] ["thing"] (defScope s_is_written_as_row) := ⟨rfl, rfl, rfl, by decide +kernel, rfl, by decide +kernel, by decide +kernel⟩
theorem ok_is_written_as_row {f : Addr} {fd : FuncData} {k : Nat} {dL : Addr} {eL : Array DictEntry} {nL : Nat} (LE : Lens w K mg dL eL nL) (F : Fun K "is_written_as_row" "is_written_as_row" s_is_written_as_row f fd) (z : Zs mg) : FnOk P w K mg base CX0 (k + 1) f fd ["thing"] spWritten := by
  refine F.ok sc_is_written_as_row (fun vs H Q E h => ?_) (fun cdv A outer s H vs Q E hr h => ?_)
  · obtain ⟨ra, r, rfl, _⟩ := h
    rfl
  · obtain ⟨ra, r, rfl, hra, q⟩ := h
    refine ⟨_, (pss_cons (ps_if (PW.pt (pw_or (pt_not (pt_val (pe_callB call_isi (by rfl) z.isinstance (by decide +kernel) (pa_cons (pv 0) (pa_cons (pe_bltn (v := .ty "tuple") (by rfl) z.tuple (by decide +kernel) rfl) pa_nil))))) (pw_or (pt_not (pt_truth (pv 0) (by intro _; rfl))) (pw_or1 (pt_not (pt_val (pe_callB call_isi (by rfl) z.isinstance (by decide +kernel) (pa_cons (pe_ix ix_tup (pv 0) pe_int (fun _ _ => rfl)) (pa_cons (pe_bltn (v := .ty "str") (by rfl) z.str (by decide +kernel) rfl) pa_nil))))))))) (pss_one (ps_ret pe_bl)) pss_nil)
      (pss_one (ps_ret (pe_and (pe_cmpR (op_in_kd LE.D) (pe_ix ix_tup (pv 0) pe_int (fun _ _ => rfl)) (pe_glob (v := .ref dL) (by rfl) LE.gm rfl) (by rfl)) (pe_one (pe_cmpR op_eq (pe_callB call_len_seq (by rfl) z.len PySem.boot_len (pa_cons (pv 0) pa_nil)) (pe_ix ix_kdict (pe_glob (v := .ref dL) (by rfl) LE.gm rfl) (pe_ix ix_tup (pv 0) pe_int (fun _ _ => rfl)) (fun _ _ => rfl)) (nomark _))))))), ?_⟩
    obtain ⟨t, hL⟩ := LE.at_ r.kd
    have l0 : (!r.vs.isEmpty) = true := by cases r <;> rfl
    refine ⟨_, rfl, _, .ty "tuple", _, _, true, rfl, .ty _, .base (.tup hra), kit_ty (by decide +kernel), _, rfl, iteF ⟨_, rfl, true, .inr (.inl ⟨_, SqT.of hra, l0.symm⟩), iteF ⟨_, rfl, ra, _, 0, .str r.kd.s, rfl, rfl, SqT.of hra, atI_nat (j := 0) r.vs0, _, .ty "str", _, _, true, rfl, .ty _, .base (.str _), kit_ty (by decide +kernel), _, rfl, iteF ?_⟩⟩⟩
    refine ⟨_, rfl, ra, _, 0, .str r.kd.s, rfl, rfl, SqT.of hra, atI_nat (j := 0) r.vs0, _, _, rfl, rfl, hL, _, rfl, iteT ⟨_, rfl, ra, _, rfl, .inr (SqT.of hra), _, rfl, ra, _, 0, .str r.kd.s, rfl, rfl, SqT.of hra, atI_nat (j := 0) r.vs0, dL, r.kd.s, .int (r.kd.n : Int), rfl, rfl, ⟨eL, nL, _, LE.D.at_, LE.D.lit, hL, ⟨_, rfl⟩⟩, rfl, ?_⟩⟩
    rw [r.vs_len, decide_eq_true rfl]
    exact q
theorem sc_row_point : FnScope ["row", "points", "given", "rule", "point"] ["row", "points", "given"] (defScope s_row_point) := ⟨rfl, rfl, rfl, by decide +kernel, rfl, by decide +kernel, by decide +kernel⟩
theorem ok_row_point {f : Addr} {fd : FuncData} {dP : Addr} {eP : Array DictEntry} {nP : Nat} (RU : Ruls P w K mg base dP eP nP) (NC : NCst mg) (F : Fun K "row_point" "row_point" s_row_point f fd) (z : Zs mg) (c_is_written_as_row : Cal P w K mg base 1 "is_written_as_row" ["thing"] spWritten) : FnOk P w K mg base CX0 4 f fd ["row", "points", "given"] spRowPt := by
  refine F.ok sc_row_point (fun vs H Q E h => ?_) (fun cdv A outer s H vs Q E hr h => ?_)
  · obtain ⟨ra, pa, gv, r, en, hp, fp, pts, rfl, _⟩ := h
    rfl
  · obtain ⟨ra, pa, gv, r, en, hp, fp, pts, rfl, hra, hpa, hg, hok, p0, p1, q⟩ := h
    obtain ⟨fR, fdR, h1, hK, hB, hF⟩ := RU.at_ r.kd
    refine ⟨_, (pss_cons (ps_if (pt_not (pt_val (pe_cal c_is_written_as_row hr (pa_cons (pv 0) pa_nil)))) (pss_one (ps_ret pe_non)) pss_nil)
      (pss_cons (ps_set (i := 3) sc_row_point.nd rfl (.inl rfl) (pe_ix ix_kdict (pe_glob (v := .ref dP) (by rfl) RU.gm rfl) (pe_ix ix_tup (pv 0) pe_int (fun _ _ => rfl)) (fun _ _ => rfl)))
      (pss_cons (ps_set (i := 4) sc_row_point.nd rfl (.inl rfl) (pe_callL (i := 3) hF hr rfl (Or.inl rfl) hK hB .nil pass0 (pa_cons (pv 0) (pa_cons (pv 1) (pa_cons (pv 2) pa_nil)))))
      (pss_one (ps_ret (pe_ifExp (PW.pt (pw_and (pt_cmpR op_notN (pv 4) pe_non (nomark _)) (pw_and1 (pt_cmpR op_le (pe_callB call_abs (by rfl) z.abs (by decide +kernel) (pa_cons (pv 4) pa_nil)) (pe_glob (v := .int 200) (by rfl) NC.gr.choose_spec ⟨_, rfl⟩) (nomark _))))) (pv 4) pe_non)))))), ?_⟩
    refine ⟨_, rfl, ra, r, rfl, hra, _, rfl, iteF ?_⟩
    refine ⟨_, rfl, ra, _, 0, .str r.kd.s, rfl, rfl, SqT.of hra, atI_nat (j := 0) r.vs0, dP, r.kd.s, .ref fR, rfl, rfl, ⟨eP, nP, _, RU.D.at_, RU.D.lit, h1, rfl⟩, ?_⟩
    refine ⟨rfl, _, rfl, _, rfl, _, rfl, ra, pa, gv, r, en, hp, fp, pts, rfl, hra, rfl, hpa, hg, hok, ?_⟩
    refine ⟨_, rfl, rfl, _, rfl, iteT ⟨_, rfl, _, rfl, _, _, rfl, rfl, _, rfl, iteC (d := true) (decide_eq_true (by split <;> omega)) (iteT ⟨_, rfl, q⟩)⟩⟩
end
end E1

namespace E1
open PySem PySem.Spec PyProof.Rows L2

/-- what the written part says of the class of forms -/
structure IsC (K : PySem.W.Frag) (mg : Str → Option Value) (C : Addr) : Prop where
  gC : mg "Form" = some (.ref C)
  ha : PySem.W.findIn K (.ref C) "__class__" = some (some (.builtin "object.__class__"))
  hn : PySem.W.specialIn K (.builtin "object.__class__") "__get__" = some (some (.builtin "getset_descriptor.__get__"))
  ht : PySem.W.takesIn K (.builtin "object.__class__") = some true
  hm : PySem.W.mroIn K C (.type "object") = some true
  kC : PySem.W.kitOne K (.ref C) (.ref C) = some true
def spLen4 : Sp := fun vs H Q _ => ∃ (a : Addr) (xs : List V) (z : Str) (lo hi : Int), vs = [.ref a, .str z, .int lo, .int hi] ∧ H a = some (.lst xs) ∧ lo ≤ xs.length ∧ (xs.length : Int) ≤ hi ∧ Q .non H
def spCkForms (C : Addr) : Sp := fun vs H Q _ => ∃ (a : Addr) (fv : List V) (fs : List FormP), vs = [.ref a] ∧ H a = some (.lst fv) ∧ FsAt C H fv fs ∧ 1 ≤ fs.length ∧ fs.length ≤ 12 ∧ ∀ H', Same H H' → Q .non H'
def spIsHold (C : Addr) : Sp := fun vs H Q _ => ∃ (ta a : Addr) (fv : List V) (fs : List FormP) (h : Hold) (f : FormP), vs = [.ref ta, .ref a] ∧ H ta = some (.tup h.vs) ∧ H a = some (.lst fv) ∧ FsAt C H fv fs ∧ fs[h.k]? = some f ∧ inR f.w h.s = true ∧ Q (.bl true) H
def spCkHolds (C : Addr) : Sp := fun vs H Q _ => ∃ (b a : Addr) (hv fv : List V) (fs : List FormP) (hs : List Hold), vs = [.ref b, .ref a] ∧ H b = some (.lst hv) ∧ TsAt H hv (hs.map Hold.vs) ∧ H a = some (.lst fv) ∧ FsAt C H fv fs ∧ hs.length ≤ 6 ∧ (∀ h ∈ hs, h.k < fs.length ∧ ∀ f, fs[h.k]? = some f → inR f.w h.s = true) ∧ ∀ H', Same H H' → Q .non H'
def spCkPts : Sp := fun vs H Q _ => ∃ (ra gv : Addr) (rv : List V) (rows : List Row) (en : Int) (hp fp : List Int), vs = [.ref ra, .ref gv] ∧ H ra = some (.lst rv) ∧ TsAt H rv (rows.map Row.vs) ∧ GivenAt H gv en hp fp ∧ 1 ≤ rows.length ∧ rows.length ≤ 60 ∧ (∀ i r, rows[i]? = some r → RowOk hp.length fp.length i r) ∧ (∀ p ∈ ptsOf en hp fp rows, -200 ≤ p ∧ p ≤ 200) ∧
  ∀ p H', Same H H' → H p = none → H' p = some (.lst ((ptsOf en hp fp rows).map V.int)) → Q (.ref p) H'
def spCkLinks : Sp := fun vs H Q _ => ∃ (b ra : Addr) (hv rv : List V) (hs : List Hold) (rows : List Row), vs = [.ref b, .ref ra] ∧ H b = some (.lst hv) ∧ TsAt H hv (hs.map Hold.vs) ∧ H ra = some (.lst rv) ∧ TsAt H rv (rows.map Row.vs) ∧ (∀ h ∈ hs, ∃ a, rows[h.l]? = some (.keep h.k a)) ∧ ∀ H', Same H H' → Q .non H'
def spNetInit (C CN : Addr) : Sp := fun vs H Q _ => ∃ (p dx fl rl hl : Addr) (n : NetP) (fv rv hv : List V), vs = [.ref p, .ref fl, .int n.en, .ref rl, .ref hl, .int n.out] ∧ H p = some (.ins CN dx []) ∧ H fl = some (.lst fv) ∧ FsAt C H fv n.fs ∧ H rl = some (.lst rv) ∧ TsAt H rv (n.rows.map Row.vs) ∧ H hl = some (.lst hv) ∧ TsAt H hv (n.holds.map Hold.vs) ∧ NetOk n ∧
  ∀ H', NetAt C CN H' p n → (∀ b o, b ≠ p → H b = some o → H' b = some o) → Q .non H'
theorem GivenAt.same {H H' : Hp} {gv : Addr} {en : Int} {hp fp : List Int} (h : GivenAt H gv en hp fp) (s : Same H H') : GivenAt H' gv en hp fp := by
  obtain ⟨ha, fa, a, b, c⟩ := h
  exact ⟨ha, fa, s _ _ a, s _ _ b, s _ _ c⟩
theorem ptsOf_next {en : Int} {hp fp : List Int} {rows : List Row} {i : Nat} {r : Row} (h : rows[i]? = some r) : ptsOf en hp fp (rows.take (i + 1)) = ptsOf en hp fp (rows.take i) ++ [rowPt en hp fp (ptsOf en hp fp (rows.take i)) r] := by
  rw [List.take_add_one, h, Option.toList_some, ptsOf_snoc]
theorem ptsOf_in {en : Int} {hp fp : List Int} {rows : List Row} {i : Nat} {r : Row} (h : rows[i]? = some r) : rowPt en hp fp (ptsOf en hp fp (rows.take i)) r ∈ ptsOf en hp fp rows := by
  have e := ptsOf_take en hp fp rows (i + 1)
  rw [ptsOf_next h] at e
  have : rowPt en hp fp (ptsOf en hp fp (rows.take i)) r ∈ (ptsOf en hp fp rows).take (i + 1) := by
    rw [e]
    exact List.mem_append.mpr (.inr (List.mem_singleton.mpr rfl))
  exact List.mem_of_mem_take this
theorem putF_app {k : Str} {v : V} : ∀ {l : List (Str × V)}, ((l.map (·.1)).all fun x => decide (x ≠ k)) = true → putF k v l = l ++ [(k, v)]
  | [], _ => rfl
  | (g, x) :: r, h => by
    rw [List.map_cons, List.all_cons, Bool.and_eq_true, decide_eq_true_eq] at h
    show (if g = k then (g, v) :: r else (g, x) :: putF k v r) = _
    rw [if_neg h.1, putF_app h.2]
    rfl
theorem kp_lay (k : Int) : PyData.canLay0 (.tuple [.str "keep", .int k]) = true := by
  simp only [PyData.canLay0, PyData.canLayAll0, Bool.and_true]
  decide +kernel
theorem kp_shaped (k : Int) : SeqAt.shaped (.tuple [.str "keep", .int k]) = true := by
  show (PyData.canLay0 (.tuple [.str "keep", .int k]) && decide (PyData.depth (.tuple [.str "keep", .int k]) ≤ 64)) = true
  rw [kp_lay, Bool.true_and]
  simp only [PyData.depth, PyData.depthAll]
  rfl
def fks : List Str := ["form_list", "enters_at", "row_list", "hold_list", "out_at", "point_list"]
theorem fks_new : ∀ i : Fin 6, ((fks.take i.val).all fun x => decide (x ≠ fks[i.val]'i.isLt)) = true := by decide +kernel
theorem nf0 {a : V} : putF "form_list" a [] = [(("form_list" : Str), a)] := rfl
theorem nf1 {a b : V} : putF "enters_at" b [(("form_list" : Str), a)] = [(("form_list" : Str), a), ("enters_at", b)] := putF_app (fks_new 1)
theorem nf2 {a b c : V} : putF "row_list" c [(("form_list" : Str), a), ("enters_at", b)] = [(("form_list" : Str), a), ("enters_at", b), ("row_list", c)] := putF_app (fks_new 2)
theorem nf3 {a b c d : V} : putF "hold_list" d [(("form_list" : Str), a), ("enters_at", b), ("row_list", c)] = [(("form_list" : Str), a), ("enters_at", b), ("row_list", c), ("hold_list", d)] := putF_app (fks_new 3)
theorem nf4 {a b c d e : V} : putF "out_at" e [(("form_list" : Str), a), ("enters_at", b), ("row_list", c), ("hold_list", d)] = [(("form_list" : Str), a), ("enters_at", b), ("row_list", c), ("hold_list", d), ("out_at", e)] := putF_app (fks_new 4)
theorem nf5 {a b c d e f : V} : putF "point_list" f [(("form_list" : Str), a), ("enters_at", b), ("row_list", c), ("hold_list", d), ("out_at", e)] = [(("form_list" : Str), a), ("enters_at", b), ("row_list", c), ("hold_list", d), ("out_at", e), ("point_list", f)] := putF_app (fks_new 5)
section
variable {P : Program} {w : World} {K : PySem.W.Frag} {mg : Str → Option Value} {base : Heap}
theorem sc_check_length : FnScope ["thing", "part", "least", "most"] ["thing", "part", "least", "most"] (defScope s_check_length) := ⟨rfl, rfl, rfl, by decide +kernel, rfl, by decide +kernel, by decide +kernel⟩
theorem ok_check_length {f : Addr} {fd : FuncData} {k : Nat} (F : Fun K "check_length" "check_length" s_check_length f fd) (z : Zs mg) : FnOk P w K mg base CX0 (k + 1) f fd ["thing", "part", "least", "most"] spLen4 := by
  refine F.ok sc_check_length (fun vs H Q E h => ?_) (fun cdv A outer s H vs Q E hr h => ?_)
  · obtain ⟨a, xs, zz, lo, hi, rfl, _⟩ := h
    rfl
  · obtain ⟨a, xs, zz, lo, hi, rfl, ha, l0, l1, q⟩ := h
    refine ⟨_, (pss_one (ps_if (PW.pt (pw_or (pt_not (pt_val (pe_callB call_isi (by rfl) z.isinstance (by decide +kernel) (pa_cons (pv 0) (pa_cons (pe_bltn (v := .ty "list") (by rfl) z.list (by decide +kernel) rfl) pa_nil))))) (pw_or1 (pt_not (pt_chain op_le op_le (pv 2) (pe_callB call_len_seq (by rfl) z.len PySem.boot_len (pa_cons (pv 0) pa_nil)) (pv 3)))))) (pss_one ps_never) pss_nil)), ?_⟩
    refine ⟨_, rfl, _, .ty "list", _, _, true, rfl, .ty _, .base (.lst ha), kit_ty (by decide +kernel), _, rfl, iteF ⟨_, rfl, _, rfl, a, _, rfl, .inl (SqL.of ha), _, _, rfl, rfl, _, rfl, ?_⟩⟩
    refine iteC (d := true) (decide_eq_true l0) (iteT ⟨_, rfl, _, _, rfl, rfl, _, rfl, ?_⟩)
    exact iteC (d := false) (by rw [decide_eq_true (show (xs.length : Int) ≤ hi from l1)]; rfl) (iteF q)
theorem sc_check_forms : FnScope ["forms", "at", "form"] ["forms"] (defScope s_check_forms) := ⟨rfl, rfl, rfl, by decide +kernel, rfl, by decide +kernel, by decide +kernel⟩
theorem ok_check_forms {f : Addr} {fd : FuncData} {C : Addr} (T : FTxt K mg C) (IC : IsC K mg C) (NC : NCst mg) (F : Fun K "check_forms" "check_forms" s_check_forms f fd) (z : Zs mg) (c_check_length : Cal P w K mg base 1 "check_length" ["thing", "part", "least", "most"] spLen4) : FnOk P w K mg base CX0 2 f fd ["forms"] (spCkForms C) := by
  refine F.ok sc_check_forms (fun vs H Q E h => ?_) (fun cdv A outer s H vs Q E hr h => ?_)
  · obtain ⟨a, fv, fs, rfl, _⟩ := h
    rfl
  · obtain ⟨a, fv, fs, rfl, ha, hf, l0, l1, q⟩ := h
    refine ⟨_, (pss_cons (ps_expr (pe_cal c_check_length hr (pa_cons (pv 0) (pa_cons pe_str (pa_cons pe_int (pa_cons (pe_glob (v := .int 12) (by rfl) NC.mf.choose_spec ⟨_, rfl⟩) pa_nil))))))
      (pss_one (ps_for PassesOwn.never rfl (pi_enum (by rfl) z.enumerate (pa_cons (pv 0) pa_nil)) (pg_tup (by rfl) (pgs_cons (pg_name (i := 1) sc_check_forms.nd rfl (.inl rfl)) (pgs_cons (pg_name (i := 2) sc_check_forms.nd rfl (.inl rfl)) pgs_nil))) (pss_one (ps_if (pt_not (pt_val (pe_callB call_isi (by rfl) z.isinstance (by decide +kernel) (pa_cons (pv 2) (pa_cons (pe_glob (v := .ref C) (by rfl) IC.gC rfl) pa_nil))))) (pss_one ps_never) pss_nil))))), ?_⟩
    have ll := hf.len
    refine ⟨_, rfl, a, fv, _, _, _, rfl, ha, by omega, by omega, ?_⟩
    refine ⟨_, rfl, a, _, rfl, SqL.of ha, for_it (walk_enum (K := K) (a := a) (xs := fv)) (fun i σ H' => ∃ y3 y4 : Option V, σ = [some (.ref a), y3, y4] ∧ Same H H') ⟨none, none, rfl, Same.refl _⟩ (fun i σ H' _ hP => ?_) (fun i v σ H1 H2 hi hP hY => ?_) (fun σ H' hP => ?_)⟩
    · obtain ⟨y3, y4, rfl, s1⟩ := hP
      exact SqL.of (s1 _ _ ha)
    · obtain ⟨y3, y4, rfl, s1⟩ := hP
      obtain ⟨Tp, u, v', rfl, nT, rfl, e1, e2⟩ := hY
      cases e1
      obtain ⟨p, f, rfl, _, hp⟩ := hf.get e2
      have s2 := s1.trans (same_new (o := .tup [.int (i : Nat), .ref p]) nT)
      obtain ⟨dx, ho⟩ := (FormAt.same hp s2).ob
      refine ⟨Tp, _, rfl, SqT.of upd_same, rfl, _, _, rfl, _, _, rfl, rfl, ?_⟩
      exact ⟨_, rfl, _, .ref C, .ref C, .ref C, true, rfl, .own C, .base (.ins ho T.cl IC.ha IC.hn IC.ht IC.hm), IC.kC, _, rfl, iteF ⟨_, _, rfl, s2⟩⟩
    · obtain ⟨y3, y4, rfl, s1⟩ := hP
      exact q _ s1
theorem sc_is_hold : FnScope ["thing", "forms"] ["thing", "forms"] (defScope s_is_hold) := ⟨rfl, rfl, rfl, by decide +kernel, rfl, by decide +kernel, by decide +kernel⟩
theorem ok_is_hold {f : Addr} {fd : FuncData} {C : Addr} (T : FTxt K mg C) (F : Fun K "is_hold" "is_hold" s_is_hold f fd) (z : Zs mg) (c_is_place : Cal P w K mg base 2 "is_place" ["thing", "many"] spPlace) (m_has : CalM P w K mg base 2 C "has" ["self", "thing"] (spHas K C)) : FnOk P w K mg base CX0 3 f fd ["thing", "forms"] (spIsHold C) := by
  refine F.ok sc_is_hold (fun vs H Q E h => ?_) (fun cdv A outer s H vs Q E hr h => ?_)
  · obtain ⟨ta, a, fv, fs, h, f, rfl, _⟩ := h
    rfl
  · obtain ⟨ta, a, fv, fs, h, f, rfl, hta, ha, hf, hk, hin, q⟩ := h
    refine ⟨_, (pss_cons (ps_if (PW.pt (pw_or (pt_not (pt_val (pe_callB call_isi (by rfl) z.isinstance (by decide +kernel) (pa_cons (pv 0) (pa_cons (pe_bltn (v := .ty "tuple") (by rfl) z.tuple (by decide +kernel) rfl) pa_nil))))) (pw_or1 (pt_cmpR op_ne (pe_callB call_len_seq (by rfl) z.len PySem.boot_len (pa_cons (pv 0) pa_nil)) pe_int (nomark _))))) (pss_one (ps_ret pe_bl)) pss_nil)
      (pss_one (ps_ret (pe_and (pe_cal c_is_place hr (pa_cons (pe_ix ix_tup (pv 0) pe_int (fun _ _ => rfl)) (pa_cons (pe_callB call_len_seq (by rfl) z.len PySem.boot_len (pa_cons (pv 1) pa_nil)) pa_nil))) (pe_one (pe_calm (pe_ix ix_list (pv 1) (pe_ix ix_tup (pv 0) pe_int (fun _ _ => rfl)) (fun _ _ => rfl)) T.cl m_has hr (pa_cons (pe_ix ix_tup (pv 0) pe_int (fun _ _ => rfl)) pa_nil))))))), ?_⟩
    have ll := hf.len
    have kl : h.k < fs.length := (List.getElem?_eq_some_iff.mp hk).1
    obtain ⟨p, ep, fp⟩ := hf.at hk
    obtain ⟨dx, ho⟩ := fp.ob
    refine ⟨_, rfl, _, .ty "tuple", _, _, true, rfl, .ty _, .base (.tup hta), kit_ty (by decide +kernel), _, rfl, iteF ⟨_, rfl, ta, _, rfl, .inr (SqT.of hta), rfl, _, rfl, iteF ?_⟩⟩
    refine ⟨_, rfl, ta, _, 0, .int h.k, rfl, rfl, SqT.of hta, a0, _, rfl, a, _, rfl, .inl (SqL.of ha), _, _, rfl, by omega, by omega, _, rfl, iteT ?_⟩
    refine ⟨_, rfl, _, rfl, ta, _, 0, .int h.k, rfl, rfl, SqT.of hta, a0, a, _, _, .ref p, rfl, rfl, SqL.of ha, atI_nat ep, p, dx, _, rfl, ho, fl_no (by decide +kernel), _, rfl, ta, _, 1, .int h.s, rfl, rfl, SqT.of hta, a1, p, f.w, f.pt, f.m, f.st, .int h.s, _, rfl, fp, .inl ⟨_, rfl, rfl⟩, ?_⟩
    rw [hin]
    exact q
theorem sc_check_holds : FnScope ["holds", "forms", "at", "hold"] ["holds", "forms"] (defScope s_check_holds) := ⟨rfl, rfl, rfl, by decide +kernel, rfl, by decide +kernel, by decide +kernel⟩
theorem ok_check_holds {f : Addr} {fd : FuncData} {C : Addr} (NC : NCst mg) (F : Fun K "check_holds" "check_holds" s_check_holds f fd) (z : Zs mg) (c_check_length : Cal P w K mg base 1 "check_length" ["thing", "part", "least", "most"] spLen4) (c_is_hold : Cal P w K mg base 3 "is_hold" ["thing", "forms"] (spIsHold C)) : FnOk P w K mg base CX0 4 f fd ["holds", "forms"] (spCkHolds C) := by
  refine F.ok sc_check_holds (fun vs H Q E h => ?_) (fun cdv A outer s H vs Q E hr h => ?_)
  · obtain ⟨b, a, hv, fv, fs, hs, rfl, _⟩ := h
    rfl
  · obtain ⟨b, a, hv, fv, fs, hs, rfl, hb, ht, ha, hf, l1, ho, q⟩ := h
    refine ⟨_, (pss_cons (ps_expr (pe_cal c_check_length hr (pa_cons (pv 0) (pa_cons pe_str (pa_cons pe_int (pa_cons (pe_glob (v := .int 6) (by rfl) NC.mh.choose_spec ⟨_, rfl⟩) pa_nil))))))
      (pss_one (ps_for PassesOwn.never rfl (pi_enum (by rfl) z.enumerate (pa_cons (pv 0) pa_nil)) (pg_tup (by rfl) (pgs_cons (pg_name (i := 2) sc_check_holds.nd rfl (.inl rfl)) (pgs_cons (pg_name (i := 3) sc_check_holds.nd rfl (.inl rfl)) pgs_nil))) (pss_one (ps_if (pt_not (pt_val (pe_cal c_is_hold hr (pa_cons (pv 3) (pa_cons (pv 1) pa_nil))))) (pss_one ps_never) pss_nil))))), ?_⟩
    have ll := ht.len
    rw [List.length_map] at ll
    refine ⟨_, rfl, b, hv, _, _, _, rfl, hb, by omega, by omega, ?_⟩
    refine ⟨_, rfl, b, _, rfl, SqL.of hb, for_it (walk_enum (K := K) (a := b) (xs := hv)) (fun i σ H' => ∃ y3 y4 : Option V, σ = [some (.ref b), some (.ref a), y3, y4] ∧ Same H H') ⟨none, none, rfl, Same.refl _⟩ (fun i σ H' _ hP => ?_) (fun i v σ H1 H2 hi hP hY => ?_) (fun σ H' hP => ?_)⟩
    · obtain ⟨y3, y4, rfl, s1⟩ := hP
      exact SqL.of (s1 _ _ hb)
    · obtain ⟨y3, y4, rfl, s1⟩ := hP
      obtain ⟨Tp, u, v', rfl, nT, rfl, e1, e2⟩ := hY
      cases e1
      obtain ⟨p, xs, rfl, ex, hp⟩ := ht.get e2
      rw [List.getElem?_map] at ex
      obtain ⟨hh, eh, rfl⟩ := Option.map_eq_some_iff.mp ex
      obtain ⟨o1, o2⟩ := ho hh (List.mem_of_getElem? eh)
      have s2 := s1.trans (same_new (o := .tup [.int (i : Nat), .ref p]) nT)
      refine ⟨Tp, _, rfl, SqT.of upd_same, rfl, _, _, rfl, _, _, rfl, rfl, ?_⟩
      refine ⟨_, rfl, _, rfl, p, a, fv, fs, hh, fs[hh.k], rfl, s2 _ _ hp, s2 _ _ ha, hf.same s2, List.getElem?_eq_getElem o1, o2 _ (List.getElem?_eq_getElem o1), _, rfl, iteF ⟨_, _, rfl, s2⟩⟩
    · obtain ⟨y3, y4, rfl, s1⟩ := hP
      exact q _ s1
theorem sc_checked_points : FnScope ["rows", "given", "points", "at", "row", "point"] ["rows", "given"] (defScope s_checked_points) := ⟨rfl, rfl, rfl, by decide +kernel, rfl, by decide +kernel, by decide +kernel⟩
theorem ok_checked_points {f : Addr} {fd : FuncData} (NC : NCst mg) (F : Fun K "checked_points" "checked_points" s_checked_points f fd) (z : Zs mg) (c_check_length : Cal P w K mg base 1 "check_length" ["thing", "part", "least", "most"] spLen4) (c_row_point : Cal P w K mg base 4 "row_point" ["row", "points", "given"] spRowPt) : FnOk P w K mg base CX0 5 f fd ["rows", "given"] spCkPts := by
  refine F.ok sc_checked_points (fun vs H Q E h => ?_) (fun cdv A outer s H vs Q E hr h => ?_)
  · obtain ⟨ra, gv, rv, rows, en, hp, fp, rfl, _⟩ := h
    rfl
  · obtain ⟨ra, gv, rv, rows, en, hp, fp, rfl, hra, hrs, hg, l0, l1, ro, po, q⟩ := h
    refine ⟨_, (pss_cons (ps_expr (pe_cal c_check_length hr (pa_cons (pv 0) (pa_cons pe_str (pa_cons pe_int (pa_cons (pe_glob (v := .int 60) (by rfl) NC.mr.choose_spec ⟨_, rfl⟩) pa_nil))))))
      (pss_cons (ps_set (i := 2) sc_checked_points.nd rfl (.inl rfl) (pe_lst pa_nil))
      (pss_cons (ps_for PassesOwn.never rfl (pi_enum (by rfl) z.enumerate (pa_cons (pv 0) pa_nil)) (pg_tup (by rfl) (pgs_cons (pg_name (i := 3) sc_checked_points.nd rfl (.inl rfl)) (pgs_cons (pg_name (i := 4) sc_checked_points.nd rfl (.inl rfl)) pgs_nil))) (pss_cons (ps_set (i := 5) sc_checked_points.nd rfl (.inl rfl) (pe_cal c_row_point hr (pa_cons (pv 4) (pa_cons (pv 2) (pa_cons (pv 1) pa_nil)))))
      (pss_cons (ps_if (pt_cmpR op_isN (pv 5) pe_non (nomark _)) (pss_one ps_never) pss_nil)
      (pss_one (ps_expr (pe_bm PySem.F.plainAttrs_list PySem.F.slot_list_append PySem.F.type_list_append mt_append (pv 2) (pa_cons (pv 5) pa_nil)))))))
      (pss_one (ps_ret (pv 2)))))), ?_⟩
    have ll := hrs.len
    rw [List.length_map] at ll
    refine ⟨_, rfl, ra, rv, _, _, _, rfl, hra, by omega, by omega, ?_⟩
    refine ⟨(by show 0 ≤ sizeLine; decide), fun pl hpl => ?_⟩
    generalize hG : upd _ pl _ = G0
    obtain ⟨s0, h_pl⟩ := upd_gen hG hpl
    refine ⟨_, rfl, ra, _, rfl, SqL.of (s0 _ _ hra), for_it (walk_enum (K := K) (a := ra) (xs := rv)) (fun i σ H' => ∃ y3 y4 y5 : Option V, σ = [some (.ref ra), some (.ref gv), some (.ref pl), y3, y4, y5] ∧ Same H H' ∧ H' pl = some (.lst ((ptsOf en hp fp (rows.take i)).map V.int))) ⟨none, none, none, rfl, s0, h_pl⟩ (fun i σ H' _ hP => ?_) (fun i v σ H1 H2 hi hP hY => ?_) (fun σ H' hP => ?_)⟩
    · obtain ⟨y3, y4, y5, rfl, s1, _⟩ := hP
      exact SqL.of (s1 _ _ hra)
    · obtain ⟨y3, y4, y5, rfl, s1, hl⟩ := hP
      obtain ⟨Tp, u, v', rfl, nT, rfl, e1, e2⟩ := hY
      cases e1
      obtain ⟨p, xs, rfl, ex, hp'⟩ := hrs.get e2
      rw [List.getElem?_map] at ex
      obtain ⟨r, er, rfl⟩ := Option.map_eq_some_iff.mp ex
      have sn := same_new (o := .tup [.int (i : Nat), .ref p]) nT
      have s2 := s1.trans sn
      have hl2 := sn _ _ hl
      have li : (ptsOf en hp fp (rows.take i)).length = i := by
        rw [ptsOf_len, List.length_take]
        have := (List.getElem?_eq_some_iff.mp er).1
        omega
      obtain ⟨b0, b1⟩ := po _ (ptsOf_in er)
      refine ⟨Tp, _, rfl, SqT.of upd_same, rfl, _, _, rfl, _, _, rfl, rfl, ?_⟩
      refine ⟨_, rfl, _, rfl, _, rfl, p, pl, gv, r, en, hp, fp, _, rfl, s2 _ _ hp', hl2, hg.same s2, by rw [li]; exact ro i r er, b0, b1, ?_⟩
      refine ⟨_, rfl, rfl, _, rfl, iteF ⟨_, rfl, .inl ⟨rfl, _, SqL.of hl2⟩, _, rfl, pl, _, _, rfl, rfl, hl2, ?_, ?_⟩⟩
      · rw [List.length_map, li]
        exact sl_lt (by omega)
      · refine ⟨_, _, _, rfl, fun b o e => ?_, ?_⟩
        · rw [upd_ne (ne_of_none e hpl)]
          exact s2 _ _ e
        · rw [upd_same, ptsOf_next er, List.map_append]
          rfl
    · obtain ⟨y3, y4, y5, rfl, s1, hl⟩ := hP
      rw [ll, List.take_length] at hl
      exact ⟨_, rfl, q pl _ s1 hpl hl⟩
theorem sc_check_links : FnScope ["holds", "rows", "at", "hold"] ["holds", "rows"] (defScope s_check_links) := ⟨rfl, rfl, rfl, by decide +kernel, rfl, by decide +kernel, by decide +kernel⟩
theorem ok_check_links {f : Addr} {fd : FuncData} (F : Fun K "check_links" "check_links" s_check_links f fd) (z : Zs mg) (c_is_place : Cal P w K mg base 2 "is_place" ["thing", "many"] spPlace) : FnOk P w K mg base CX0 3 f fd ["holds", "rows"] spCkLinks := by
  refine F.ok sc_check_links (fun vs H Q E h => ?_) (fun cdv A outer s H vs Q E hr h => ?_)
  · obtain ⟨b, ra, hv, rv, hs, rows, rfl, _⟩ := h
    rfl
  · obtain ⟨b, ra, hv, rv, hs, rows, rfl, hb, ht, hra, hrs, ho, q⟩ := h
    refine ⟨_, (pss_one (ps_for PassesOwn.never rfl (pi_enum (by rfl) z.enumerate (pa_cons (pv 0) pa_nil)) (pg_tup (by rfl) (pgs_cons (pg_name (i := 2) sc_check_links.nd rfl (.inl rfl)) (pgs_cons (pg_name (i := 3) sc_check_links.nd rfl (.inl rfl)) pgs_nil))) (pss_one (ps_if (PW.pt (pw_or (pt_not (pt_val (pe_cal c_is_place hr (pa_cons (pe_ix ix_tup (pv 3) pe_int (fun _ _ => rfl)) (pa_cons (pe_callB call_len_seq (by rfl) z.len PySem.boot_len (pa_cons (pv 1) pa_nil)) pa_nil))))) (pw_or1 (pt_cmpR (op_neD hr.units) (pe_slice sl_tup (pe_ix ix_list (pv 1) (pe_ix ix_tup (pv 3) pe_int (fun _ _ => rfl)) (fun _ _ => rfl)) po_none (po_some pe_int)) (pe_tup (pa_cons pe_str (pa_cons (pe_ix ix_tup (pv 3) pe_int (fun _ _ => rfl)) pa_nil))) (nomark _))))) (pss_one ps_never) pss_nil)))), ?_⟩
    have ll := hrs.len
    rw [List.length_map] at ll
    refine ⟨_, rfl, b, _, rfl, SqL.of hb, for_it (walk_enum (K := K) (a := b) (xs := hv)) (fun i σ H' => ∃ y3 y4 : Option V, σ = [some (.ref b), some (.ref ra), y3, y4] ∧ Same H H') ⟨none, none, rfl, Same.refl _⟩ (fun i σ H' _ hP => ?_) (fun i v σ H1 H2 hi hP hY => ?_) (fun σ H' hP => ?_)⟩
    · obtain ⟨y3, y4, rfl, s1⟩ := hP
      exact SqL.of (s1 _ _ hb)
    · obtain ⟨y3, y4, rfl, s1⟩ := hP
      obtain ⟨Tp, u, v', rfl, nT, rfl, e1, e2⟩ := hY
      cases e1
      obtain ⟨p, xs, rfl, ex, hp⟩ := ht.get e2
      rw [List.getElem?_map] at ex
      obtain ⟨hh, eh, rfl⟩ := Option.map_eq_some_iff.mp ex
      obtain ⟨a, ea⟩ := ho hh (List.mem_of_getElem? eh)
      have s2 := s1.trans (same_new (o := .tup [.int (i : Nat), .ref p]) nT)
      have al := (List.getElem?_eq_some_iff.mp ea).1
      obtain ⟨rp, erp, hrp⟩ := hrs.at (i := hh.l) (xs := (Row.keep hh.k a).vs) (by rw [List.getElem?_map, ea]; rfl)
      have hp2 := s2 _ _ hp
      refine ⟨Tp, _, rfl, SqT.of upd_same, rfl, _, _, rfl, _, _, rfl, rfl, ?_⟩
      refine ⟨_, rfl, p, _, 2, .int hh.l, rfl, rfl, SqT.of hp2, a2, _, rfl, ra, _, rfl, .inl (SqL.of (s2 _ _ hra)), _, _, rfl, by omega, by omega, _, rfl, iteF ?_⟩
      refine ⟨_, rfl, _, rfl, p, _, 2, .int hh.l, rfl, rfl, SqT.of hp2, a2, ra, _, _, .ref rp, rfl, rfl, SqL.of (s2 _ _ hra), atI_nat erp, _, rfl, rp, _, rfl, SqT.of (s2 _ _ hrp), (by show ¬ (HT.sIx 3 0 none = 0 ∧ HT.sIx 3 3 (some 2) = 3); decide), fun c1 hc1 => ?_⟩
      generalize hG : upd _ c1 _ = G1
      obtain ⟨s3, h_c1⟩ := upd_gen hG hc1
      refine ⟨_, rfl, p, _, 0, .int hh.k, rfl, rfl, SqT.of (s3 _ _ hp2), a0, (by show 2 ≤ sizeLine; decide), fun c2 hc2 => ?_⟩
      generalize hG2 : upd _ c2 _ = G2
      obtain ⟨s4, h_c2⟩ := upd_gen hG2 hc2
      refine ⟨.tuple [.str "keep", .int hh.k], .tuple [.str "keep", .int hh.k], .tup (SqT.of (s4 _ _ h_c1)) (.cons (.str _) (.cons (.int _) .nil)), .tup (SqT.of h_c2) (.cons (.str _) (.cons (.int _) .nil)), kp_shaped _, kp_shaped _, _, rfl, ?_⟩
      refine iteC (d := false) (by rw [SeqAt.eqv_refl _ (kp_lay _)]; rfl) (iteF ⟨_, _, rfl, (s2.trans s3).trans s4⟩)
    · obtain ⟨y3, y4, rfl, s1⟩ := hP
      exact q _ s1
end
end E1

namespace E1
open PySem PySem.Spec PyProof.Rows L2
abbrev s_Net___init__ : Stmt := inClass (topS 62) 0

theorem upd_but {H G : Hp} {p : Addr} {o : HO} (e : upd H p o = G) : SameBut p H G ∧ G p = some o := by
  subst e
  exact ⟨SameBut.upd, upd_same⟩
theorem FsAt.butI {C CN p dx : Addr} {H H' : Hp} {vs : List V} {fs : List FormP} (h : FsAt C H vs fs) (s : SameBut p H H') (hp : H p = some (.ins CN dx [])) : FsAt C H' vs fs := by
  induction h with
  | nil => exact .nil
  | cons e _ ih =>
    obtain ⟨d, ho⟩ := e.ob
    exact .cons ⟨⟨d, s _ _ (fun z => by rw [z, hp] at ho; cases ho) ho⟩, e.wo, e.p0, e.p1⟩ ih
structure NTxt (K : PySem.W.Frag) (mg : Str → Option Value) (CN : Addr) : Prop where
  cl : Cls K CN
  n_form_list : NoAttr K CN "form_list"
  n_enters_at : NoAttr K CN "enters_at"
  n_row_list : NoAttr K CN "row_list"
  n_hold_list : NoAttr K CN "hold_list"
  n_out_at : NoAttr K CN "out_at"
  n_point_list : NoAttr K CN "point_list"
section
variable {P : Program} {w : World} {K : PySem.W.Frag} {mg : Str → Option Value} {base : Heap}
theorem sc_Net___init__ : FnScope ["self", "forms", "enters", "rows", "holds", "out", "form_points", "hold_points", "points", "form", "hold"] ["self", "forms", "enters", "rows", "holds", "out"] (defScope s_Net___init__) := ⟨rfl, rfl, rfl, by decide +kernel, rfl, by decide +kernel, by decide +kernel⟩
theorem ok_Net___init__ {f : Addr} {fd : FuncData} {C CN : Addr} (T : FTxt K mg C) (TN : NTxt K mg CN) (F : Fun K "__init__" "Net.__init__" s_Net___init__ f fd) (z : Zs mg) (c_check_forms : Cal P w K mg base 2 "check_forms" ["forms"] (spCkForms C)) (c_is_place : Cal P w K mg base 2 "is_place" ["thing", "many"] spPlace) (c_check_holds : Cal P w K mg base 4 "check_holds" ["holds", "forms"] (spCkHolds C)) (c_checked_points : Cal P w K mg base 5 "checked_points" ["rows", "given"] spCkPts) (c_check_links : Cal P w K mg base 3 "check_links" ["holds", "rows"] spCkLinks) : FnOk P w K mg base CX0 6 f fd ["self", "forms", "enters", "rows", "holds", "out"] (spNetInit C CN) := by
  refine F.ok sc_Net___init__ (fun vs H Q E h => ?_) (fun cdv A outer s H vs Q E hr h => ?_)
  · obtain ⟨p, dx, fl, rl, hl, n, fv, rv, hv, rfl, _⟩ := h
    rfl
  · obtain ⟨p, dx, fl, rl, hl, n, fv, rv, hv, rfl, hp, hf, hfs, hra, hrs, hha, hhs, ok, q⟩ := h
    refine ⟨_, (pss_cons (ps_expr (pe_cal c_check_forms hr (pa_cons (pv 1) pa_nil)))
      (pss_cons (ps_if (pt_not (pt_val (pe_cal c_is_place hr (pa_cons (pv 2) (pa_cons (pe_callB call_len_seq (by rfl) z.len PySem.boot_len (pa_cons (pv 1) pa_nil)) pa_nil))))) (pss_one ps_never) pss_nil)
      (pss_cons (ps_expr (pe_cal c_check_holds hr (pa_cons (pv 4) (pa_cons (pv 1) pa_nil))))
      (pss_cons (ps_set (i := 6) sc_Net___init__.nd rfl (.inr rfl) (pe_lc (own := [("form", 9)]) (g := gName 9) (tt := tYes) (te := tFld K (tVar 9) "point") (by rfl) sc_Net___init__.nd (pi_list (pv 1)) (blkOk_by (own := [("form", 9)]) (N := ["self", "forms", "enters", "rows", "holds", "out", "form_points", "hold_points", "points", "form", "hold"]) (sc := defScope s_Net___init__) (by decide +kernel)) (fun _ _ _ _ _ => by exact (pg_name (i := 9) sc_Net___init__.nd rfl (.inl rfl))) (fun _ _ _ _ _ => by exact pts_nil) (fun _ _ _ _ _ => by exact (pe_fld (pv 9) rfl))))
      (pss_cons (ps_setLc (i := 7) (own := [("hold", 10)]) (g := gName 10) (tt := tYes) (te := (tOp (rIxL K) (tVar 6) (tOp (rIxT K) (tVar 10) (tC (.int 0))))) (by rfl) sc_Net___init__.nd rfl rfl (sw_true rfl rfl rfl (by decide +kernel)) (pi_list (pv 4)) (blkOk_by (own := [("hold", 10)]) (N := ["self", "forms", "enters", "rows", "holds", "out", "form_points", "hold_points", "points", "form", "hold"]) (sc := defScope s_Net___init__) (by decide +kernel)) (fun _ _ _ _ _ => by exact (pg_name (i := 10) sc_Net___init__.nd rfl (.inl rfl))) (fun _ _ _ _ _ => by exact pts_nil) (fun _ _ _ _ _ => by exact (pe_ix ix_list (pv 6) (pe_ix ix_tup (pv 10) pe_int (fun _ _ => rfl)) (fun _ _ => rfl))))
      (pss_cons (ps_set (i := 8) sc_Net___init__.nd rfl (.inl rfl) (pe_cal c_checked_points hr (pa_cons (pv 3) (pa_cons (pe_tup (pa_cons (pe_ix ix_list (pv 6) (pv 2) (fun _ _ => rfl)) (pa_cons (pv 7) (pa_cons (pv 6) pa_nil)))) pa_nil))))
      (pss_cons (ps_expr (pe_cal c_check_links hr (pa_cons (pv 4) (pa_cons (pv 3) pa_nil))))
      (pss_cons (ps_if (pt_not (pt_val (pe_cal c_is_place hr (pa_cons (pv 5) (pa_cons (pe_callB call_len_seq (by rfl) z.len PySem.boot_len (pa_cons (pv 3) pa_nil)) pa_nil))))) (pss_one ps_never) pss_nil)
      (pss_cons (ps_fld (pv 0) (pe_callTy call_list_of (by rfl) z.list (by decide +kernel) (pa_cons (pv 1) pa_nil)) rfl)
      (pss_cons (ps_fld (pv 0) (pv 2) rfl)
      (pss_cons (ps_fld (pv 0) (pe_callTy call_list_of (by rfl) z.list (by decide +kernel) (pa_cons (pv 3) pa_nil)) rfl)
      (pss_cons (ps_fld (pv 0) (pe_callTy call_list_of (by rfl) z.list (by decide +kernel) (pa_cons (pv 4) pa_nil)) rfl)
      (pss_cons (ps_fld (pv 0) (pv 5) rfl)
      (pss_one (ps_fld (pv 0) (pv 8) rfl))))))))))))))), ?_⟩
    have lf := hfs.len
    have lr := hrs.len
    have lh := hhs.len
    rw [List.length_map] at lr lh
    have en0 := ok.en
    have out0 := ok.out
    refine ⟨_, rfl, fl, fv, n.fs, rfl, hf, hfs, ok.f1, ok.f2, fun H1 s1 => ?_⟩
    refine ⟨_, rfl, _, rfl, fl, _, rfl, .inl (SqL.of (s1 _ _ hf)), _, _, rfl, by omega, by omega, _, rfl, iteF ?_⟩
    refine ⟨_, rfl, _, rfl, hl, fl, hv, fv, n.fs, n.holds, rfl, s1 _ _ hha, hhs.same s1, s1 _ _ hf, hfs.same s1, ok.h2, fun h hm => ⟨(ok.ho h hm).1, (ok.ho h hm).2.1⟩, fun H2 s2 => ?_⟩
    have S2 := s1.trans s2
    refine ⟨_, rfl, fl, rfl, ⟨_, SqL.of (S2 _ _ hf)⟩, fun Da hD => ?_⟩
    refine lc_it (walk_list (K := K) (a := fl) (xs := fv)) (fun i H4 => Same H2 H4 ∧ H4 Da = some (.lst (((n.fs.take i).map (·.pt)).map V.int))) ⟨same_new hD, upd_same⟩ (fun i H4 hi hP => SqL.of (hP.1 _ _ (S2 _ _ hf))) (fun i x' H4 H5 hi hP hy => ?_) (fun H3 hP => ?_)
    · obtain ⟨s4, hD4⟩ := hP
      obtain ⟨rfl, hx⟩ := hy
      obtain ⟨fa, fm, rfl, efm, hfa⟩ := hfs.get hx
      obtain ⟨dxf, hof⟩ := (FormAt.same hfa (S2.trans s4)).ob
      refine ⟨rfl, _, rfl, fa, C, dxf, _, _, rfl, hof, T.cl, T.nP, fl_p, _, hD4, ?_, fun b' o' e' => ?_, ?_⟩
      · rw [List.length_map, List.length_map, List.length_take]
        exact sl_lt (by have := ok.f2; omega)
      · rw [upd_ne (ne_of_none e' hD)]
        exact s4 _ _ e'
      · rw [upd_same, List.take_add_one, efm, List.map_append, List.map_append]
        rfl
    obtain ⟨s3, hDa⟩ := hP
    rw [lf, List.take_length] at hDa
    have S3 := S2.trans s3
    have lfp : (n.fs.map (·.pt)).length = n.fs.length := List.length_map ..
    refine ⟨_, rfl, hl, rfl, ⟨_, SqL.of (S3 _ _ hha)⟩, fun Db hDb => ?_⟩
    refine lc_it (walk_list (K := K) (a := hl) (xs := hv)) (fun i H4 => Same H3 H4 ∧ H4 Db = some (.lst (((n.holds.take i).map fun h => fpt n.fs h.k).map V.int))) ⟨same_new hDb, upd_same⟩ (fun i H4 hi hP => SqL.of (hP.1 _ _ (S3 _ _ hha))) (fun i x' H4 H5 hi hP hy => ?_) (fun H4 hP => ?_)
    · obtain ⟨s4, hD4⟩ := hP
      obtain ⟨rfl, hx⟩ := hy
      obtain ⟨ha, xs, rfl, exs, hha'⟩ := hhs.get hx
      rw [List.getElem?_map] at exs
      obtain ⟨hh, eh, rfl⟩ := Option.map_eq_some_iff.mp exs
      have kl := (ok.ho hh (List.mem_of_getElem? eh)).1
      refine ⟨rfl, _, rfl, _, rfl, ha, _, 0, .int hh.k, rfl, rfl, SqT.of ((S3.trans s4) _ _ hha'), a0, Da, _, _, _, rfl, rfl, SqL.of (s4 _ _ hDa), ints_at (by omega), _, hD4, ?_, fun b' o' e' => ?_, ?_⟩
      · rw [List.length_map, List.length_map, List.length_take]
        exact sl_lt (by have := ok.h2; omega)
      · rw [upd_ne (ne_of_none e' hDb)]
        exact s4 _ _ e'
      · rw [upd_same, List.take_add_one, eh, List.map_append, List.map_append]
        rfl
    obtain ⟨s4, hDb'⟩ := hP
    rw [lh, List.take_length] at hDb'
    have S4 := S3.trans s4
    refine ⟨_, rfl, _, rfl, _, rfl, Da, _, _, _, rfl, rfl, SqL.of (s4 _ _ hDa), ints_at (by omega), _, rfl, _, rfl, (by show 3 ≤ sizeLine; decide), fun gv hgv => ?_⟩
    generalize hG : upd _ gv _ = G5
    obtain ⟨s5, h_gv⟩ := upd_gen hG hgv
    have S5 := S4.trans s5
    have lhp : (hpts n).length = n.holds.length := List.length_map ..
    refine ⟨rl, gv, rv, n.rows, fpt n.fs n.en, hpts n, n.fs.map FormP.pt, rfl, S5 _ _ hra, hrs.same S5, ⟨Db, Da, h_gv, s5 _ _ hDb', s5 _ _ (s4 _ _ hDa)⟩, ok.r1, ok.r2, fun i r e => by rw [lhp, lfp]; exact ok.ro i r e, ok.po, fun pl H6 s6 hpl h_pl => ?_⟩
    have S6 := S5.trans s6
    refine ⟨_, rfl, _, rfl, hl, rl, hv, rv, n.holds, n.rows, rfl, S6 _ _ hha, hhs.same S6, S6 _ _ hra, hrs.same S6, fun h hm => (ok.ho h hm).2.2, fun H7 s7 => ?_⟩
    have S7 := S6.trans s7
    replace h_pl := s7 _ _ h_pl
    refine ⟨_, rfl, _, rfl, rl, _, rfl, .inl (SqL.of (S7 _ _ hra)), _, _, rfl, by omega, by omega, _, rfl, iteF ?_⟩
    have hp0 := hp
    have n_pl : pl ≠ p := (ne_of_none (S5 _ _ hp) hpl).symm
    have nfl : fl ≠ p := ne_of hf hp (fun z => nomatch z)
    have nrl : rl ≠ p := ne_of hra hp (fun z => nomatch z)
    have nhl : hl ≠ p := ne_of hha hp (fun z => nomatch z)
    have B : SameBut p H H7 := .of S7
    replace hp := S7 _ _ hp
    clear s1 s2 s3 s4 s5 s6 s7 S2 S3 S4 S5 S6 S7 hDa hDb' h_gv hG hpl hD hDb hgv
    refine ⟨_, rfl, fl, _, rfl, .inl (SqL.of (B _ _ nfl hf)), fun f2 hf2 => ?_⟩
    have n_f2 : f2 ≠ p := (ne_of_none hp hf2).symm
    generalize hG : upd _ f2 _ = K1
    obtain ⟨s, h_f2⟩ := upd_gen hG hf2
    replace B := B.trans (.of s)
    replace hp := s _ _ hp
    replace h_pl := s _ _ h_pl
    clear hG s
    refine ⟨_, rfl, p, CN, dx, _, rfl, hp, TN.cl, TN.n_form_list, (by show 0 < 1000; decide), ?_⟩
    generalize hG : upd _ p _ = K2
    obtain ⟨s, hp'⟩ := upd_but hG
    replace B := B.trans s
    clear hp
    have hp := hp'
    clear hp'
    rw [nf0] at hp
    replace h_pl := s _ _ n_pl h_pl
    replace h_f2 := s _ _ n_f2 h_f2
    clear hG s
    refine ⟨_, rfl, _, rfl, p, CN, dx, _, rfl, hp, TN.cl, TN.n_enters_at, (by show 1 < 1000; decide), ?_⟩
    generalize hG : upd _ p _ = K3
    obtain ⟨s, hp'⟩ := upd_but hG
    replace B := B.trans s
    clear hp
    have hp := hp'
    clear hp'
    rw [nf1] at hp
    replace h_pl := s _ _ n_pl h_pl
    replace h_f2 := s _ _ n_f2 h_f2
    clear hG s
    refine ⟨_, rfl, rl, _, rfl, .inl (SqL.of (B _ _ nrl hra)), fun r2 hr2 => ?_⟩
    have n_r2 : r2 ≠ p := (ne_of_none hp hr2).symm
    generalize hG : upd _ r2 _ = K4
    obtain ⟨s, h_r2⟩ := upd_gen hG hr2
    replace B := B.trans (.of s)
    replace hp := s _ _ hp
    replace h_pl := s _ _ h_pl
    replace h_f2 := s _ _ h_f2
    clear hG s
    refine ⟨_, rfl, p, CN, dx, _, rfl, hp, TN.cl, TN.n_row_list, (by show 2 < 1000; decide), ?_⟩
    generalize hG : upd _ p _ = K5
    obtain ⟨s, hp'⟩ := upd_but hG
    replace B := B.trans s
    clear hp
    have hp := hp'
    clear hp'
    rw [nf2] at hp
    replace h_pl := s _ _ n_pl h_pl
    replace h_f2 := s _ _ n_f2 h_f2
    replace h_r2 := s _ _ n_r2 h_r2
    clear hG s
    refine ⟨_, rfl, hl, _, rfl, .inl (SqL.of (B _ _ nhl hha)), fun h2 hh2 => ?_⟩
    have n_h2 : h2 ≠ p := (ne_of_none hp hh2).symm
    generalize hG : upd _ h2 _ = K6
    obtain ⟨s, h_h2⟩ := upd_gen hG hh2
    replace B := B.trans (.of s)
    replace hp := s _ _ hp
    replace h_pl := s _ _ h_pl
    replace h_f2 := s _ _ h_f2
    replace h_r2 := s _ _ h_r2
    clear hG s
    refine ⟨_, rfl, p, CN, dx, _, rfl, hp, TN.cl, TN.n_hold_list, (by show 3 < 1000; decide), ?_⟩
    generalize hG : upd _ p _ = K7
    obtain ⟨s, hp'⟩ := upd_but hG
    replace B := B.trans s
    clear hp
    have hp := hp'
    clear hp'
    rw [nf3] at hp
    replace h_pl := s _ _ n_pl h_pl
    replace h_f2 := s _ _ n_f2 h_f2
    replace h_r2 := s _ _ n_r2 h_r2
    replace h_h2 := s _ _ n_h2 h_h2
    clear hG s
    refine ⟨_, rfl, _, rfl, p, CN, dx, _, rfl, hp, TN.cl, TN.n_out_at, (by show 4 < 1000; decide), ?_⟩
    generalize hG : upd _ p _ = K8
    obtain ⟨s, hp'⟩ := upd_but hG
    replace B := B.trans s
    clear hp
    have hp := hp'
    clear hp'
    rw [nf4] at hp
    replace h_pl := s _ _ n_pl h_pl
    replace h_f2 := s _ _ n_f2 h_f2
    replace h_r2 := s _ _ n_r2 h_r2
    replace h_h2 := s _ _ n_h2 h_h2
    clear hG s
    refine ⟨_, rfl, _, rfl, p, CN, dx, _, rfl, hp, TN.cl, TN.n_point_list, (by show 5 < 1000; decide), ?_⟩
    generalize hG : upd _ p _ = K9
    obtain ⟨s, hp'⟩ := upd_but hG
    replace B := B.trans s
    clear hp
    have hp := hp'
    clear hp'
    rw [nf5] at hp
    replace h_pl := s _ _ n_pl h_pl
    replace h_f2 := s _ _ n_f2 h_f2
    replace h_r2 := s _ _ n_r2 h_r2
    replace h_h2 := s _ _ n_h2 h_h2
    clear hG s
    exact q _ ⟨ok, dx, f2, r2, h2, pl, fv, rv, hv, hp, h_f2, FsAt.butI hfs B hp0, h_r2, hrs.mono (fun a xs e => B _ _ (ne_of e hp0 (fun z => nomatch z)) e), h_h2, hhs.mono (fun a xs e => B _ _ (ne_of e hp0 (fun z => nomatch z)) e), h_pl⟩ (fun b o nb e => B b o nb e)
end
end E1

namespace E1
open PySem PySem.Spec PyProof.Rows L2
/-! ### zip of a list and a tuple -/
def ItzM (K : PySem.W.Frag) (a b : Addr) : It where
  go i H := ∃ (xs ys : List V) (x y : V), (SqL K H a xs ∧ xs[i]? = some x) ∧ SqT K H b ys ∧ ys[i]? = some y
  yld i H v H' := ∃ T x y, (v = .ref T ∧ H T = none ∧ H' = upd H T (.tup [x, y])) ∧ (∀ xs, SqL K H a xs → xs[i]? = some x) ∧ ∀ ys, SqT K H b ys → ys[i]? = some y
  stop i H := ∃ xs ys : List V, (SqL K H a xs ∧ SqT K H b ys) ∧ (i = xs.length ∨ i = ys.length) ∧ i ≤ xs.length ∧ i ≤ ys.length
/-- the five cells of such a zip -/
structure ZpM (h : Heap) (z TI TO i1 i2 a b : Addr) (i : Nat) : Prop where
  zip : IsZip h z TI TO .none
  ti : IsPair h TI (.ref i1) (.ref i2)
  to : ∃ x y, IsPair h TO x y
  one : h.IsListIter i1 a i
  two : h.IsTupleIter i2 b i
theorem ZpM.cells {h : Heap} {z TI TO i1 i2 a b : Addr} {i : Nat} (s : ZpM h z TI TO i1 i2 a b i) : ∀ c ∈ [z, TI, TO, i1, i2], ∃ o, h.get? c = some o ∧ ∀ v, o.data ≠ .cell v := fun c hc => by
  obtain ⟨o1, e1, _, d1⟩ := s.one
  obtain ⟨o2, e2, _, d2⟩ := s.two
  obtain ⟨x, y, e3⟩ := s.to
  simp only [List.mem_cons, List.not_mem_nil, or_false] at hc
  rcases hc with rfl | rfl | rfl | rfl | rfl
  · exact ⟨_, s.zip, fun _ n => nomatch n⟩
  · exact ⟨_, s.ti, fun _ n => nomatch n⟩
  · exact ⟨_, e3, fun _ n => nomatch n⟩
  · exact ⟨o1, e1, fun _ n => nomatch d1.symm.trans n⟩
  · exact ⟨o2, e2, fun _ n => nomatch d2.symm.trans n⟩
theorem ZpM.sep {z TI TO i1 i2 a b : Addr} (D : ZipApart z TI TO i1 i2 a b) : ZipSep2 z TI TO i1 i2 [i1, a] [i2, b] := by
  constructor <;> first | exact D.TIz | exact D.TOz | exact D.TITO | exact D.TIi1 | exact D.TIi2 | skip
  all_goals simp only [List.mem_cons, List.not_mem_nil, or_false, true_or, not_or]
  · exact ⟨D.i1z.symm, D.l1z.symm⟩
  · exact ⟨D.TOi1, D.l1TO.symm⟩
  · exact ⟨D.i2z.symm, D.l2z.symm⟩
  · exact ⟨D.TOi2, D.l2TO.symm⟩
  · exact ⟨D.i12, D.l2i1.symm⟩
  · exact ⟨D.i12.symm, D.l1i2.symm⟩
theorem turn_zipM {P : Program} {w : World} {K : PySem.W.Frag} {elts : List Expr} {kk : Nat} {tpos : Pos} {a b z TI TO i1 i2 : Addr} (D : ZipApart z TI TO i1 i2 a b) : Turn P w K (.Tuple elts kk tpos) (ItzM K a b) [z, TI, TO, i1, i2] z (fun i h => ZpM h z TI TO i1 i2 a b i) := by
  have sp := ZpM.sep D
  refine ⟨List.mem_cons_self .., fun i h st => st.cells, fun i h h' st k => ?_, fun X hP hw hK hc i pins s σ H E I hf st hg => ?_, fun X hP hw hK hc i pins s σ H E I hf st hg => ?_, fun A i s Q E st h => wpAny_pyIter_zip st.zip h⟩
  · obtain ⟨x, y, e⟩ := st.to
    exact ⟨k z (by simp) _ st.zip, k TI (by simp) _ st.ti, ⟨x, y, k TO (by simp) _ e⟩, st.one.at fun o => k i1 (by simp) o, st.two.at fun o => k i2 (by simp) o⟩
  · subst hP hw hK
    obtain ⟨xs, ys, x, y, ⟨qx, ex⟩, qy, ey⟩ := hg
    obtain ⟨l1, rv1, p1, _⟩ := I.list qx
    obtain ⟨l2, rv2, p2, _⟩ := I.tuple qy
    obtain ⟨u1, eu1, ru1⟩ := rv1.get ex
    obtain ⟨u2, eu2, ru2⟩ := rv2.get ey
    obtain ⟨t1, t2, e3⟩ := st.to
    have hd : X.A.in1.handled = none := I.ok.hd hc
    have zl : z < s.heap.objs.size := Heap.lt_size st.zip
    have b1 : i < l1.toArray.size := by simpa using (List.getElem?_eq_some_iff.mp eu1).1
    have b2 : i < l2.toArray.size := by simpa using (List.getElem?_eq_some_iff.mp eu2).1
    refine wpAny_pyNext_zipD2_item sp (Draws.list hd i1 a D.l1i1 l1.toArray) (Draws.tuple hd i2 b D.l2i2 l2.toArray) st.zip st.ti e3 ⟨st.one, p1.isList⟩ ⟨st.two, p2⟩ b1 b2 fun v1 v2 h' tk y1 y2 z' to' s1 s2 hT hsz hk => ?_
    have ev1 : v1 = u1 := by
      have q : l1.toArray[i]? = some v1 := y1
      rw [List.getElem?_toArray, eu1] at q
      exact (Option.some.inj q).symm
    have ev2 : v2 = u2 := by
      have q : l2.toArray[i]? = some v2 := y2
      rw [List.getElem?_toArray, eu2] at q
      exact (Option.some.inj q).symm
    subst ev1 ev2
    refine ⟨_, rfl, wpAny_letOwnedTupleGo_zip (s := { s with heap := h', toks := tk }) z' fun g z'' sb => ?_⟩
    have nz : s.heap.objs.size ≠ z := Nat.ne_of_gt zl
    have lay : ObjOk X.prog X.w (upd H s.heap.objs.size (.tup [x, y])) g s.heap.objs.size (.tup [x, y]) := ⟨by show 2 ≤ sizeLine; decide, _, .cons ru1 (.cons ru2 .nil), ⟨_, (sb.2 _ nz).trans hT, rfl, _, rfl⟩⟩
    have far : ∀ c o, c ∉ [z, TI, TO, i1, i2] → s.heap.get? c = some o → g.get? c = some o := fun c o n e => by
      simp only [List.mem_cons, List.not_mem_nil, or_false, not_or] at n
      exact (sb.2 _ n.1).trans (hk c o n.1 n.2.2.1 n.2.2.2.1 n.2.2.2.2 e)
    have J : Inv X pins σ (upd H s.heap.objs.size (.tup [x, y])) { s with heap := g, toks := tk } := I.turnedNew (t' := tk) (ch := [z, TI, TO, i1, i2]) far hf (Nat.le_refl _) lay
    refine ⟨.ref s.heap.objs.size, _, J, rfl, ⟨_, x, y, ⟨rfl, I.hok.fresh (Nat.le_refl _), rfl⟩, fun l hl => (I.list_inj hl qx).symm ▸ ex, fun l hl => (I.tuple_inj hl qy).symm ▸ ey⟩, ⟨z'', ?_, ⟨_, _, (sb.2 _ D.TOz).trans to'⟩, s1.1.at fun o q => (sb.2 _ D.i1z).trans q, s2.1.at fun o q => (sb.2 _ D.i2z).trans q⟩, fun c hcm => ?_⟩
    · exact (sb.2 _ D.TIz).trans (hk _ _ D.TIz D.TITO D.TIi1 D.TIi2 st.ti)
    · obtain ⟨o, eo, _⟩ := st.cells c hcm
      rw [upd_ne (Nat.ne_of_lt (Heap.lt_size eo))]
      exact (hf c hcm).1
  · subst hP hw hK
    obtain ⟨xs, ys, ⟨qx, qy⟩, en, n1, n2⟩ := hg
    obtain ⟨l1, rv1, p1, _⟩ := I.list qx
    obtain ⟨l2, rv2, p2, _⟩ := I.tuple qy
    have e1 := rv1.length
    have e2 := rv2.length
    obtain ⟨t1, t2, e3⟩ := st.to
    have hd : X.A.in1.handled = none := I.ok.hd hc
    refine wpAny_pyNext_zipD2_end sp (Draws.list hd i1 a D.l1i1 l1.toArray) (Draws.tuple hd i2 b D.l2i2 l2.toArray) st.zip st.ti e3 ⟨st.one, p1.isList⟩ ⟨st.two, p2⟩ (by simp; omega) (by simp; omega) (by simp; omega) fun h' tk hk => ⟨rfl, I.turnedL (t' := tk) (ch := [z, TI, TO, i1, i2]) (fun c o n e => ?_) hf⟩
    simp only [List.mem_cons, List.not_mem_nil, or_false, not_or] at n
    exact hk c o n.1 n.2.2.1 n.2.2.2.1 n.2.2.2.2 e
def iZipM (K : PySem.W.Frag) (ta : TA) : TI := fun σ H R => ta σ H fun vs H1 => ∃ a b xs ys, vs = [.ref a, .ref b] ∧ SqL K H1 a xs ∧ SqT K H1 b ys ∧ R (ItzM K a b) H1
theorem pi_zipM {X : Cx} {e e2 : Expr} {ta : TA} {p pos tpos : Pos} {elts : List Expr} {kk : Nat} (hg : Gl X "zip") (hm : X.mg "zip" = none) (ha : PA X [e, e2] ta)
    (hs : starEach [e, e2] X.env = (false, eval e X.env) :: starEach [e2] X.env := by rfl) (hpl : (backTo pos (starEach [e2] X.env)).any (·.1) = false := by rfl) :
    PI X (.Tuple elts kk tpos) (.Call (.Name "zip" p) [e, e2] [] pos) (iZipM X.K ta) := by
  refine ⟨fun pins s σ H R I h => Call_ (ld_blt I hg hm PyProof.Rows.boot_zip (PyProof.Rows.callWith_type1 (thn (ha.run pos pins s σ H _ I h) fun us t ⟨vs, G, J, rv, q⟩ => ?_) hs hpl))⟩
  obtain ⟨a, b, xs, ys, rfl, qx, qy, q⟩ := q
  obtain ⟨u1, u2, rfl, r1, r2⟩ := vals2 rv
  cases r1
  cases r2
  obtain ⟨l1, _, p1, _⟩ := J.list qx
  obtain ⟨l2, _, p2, _⟩ := J.tuple qy
  obtain ⟨o2, e2', _⟩ := id p2
  refine zip_begins2 (begins_list a l1.toArray) (begins_tuple b l2.toArray) p1.isList p2 fun h' hz hTI hTO h1 h2 hsz hk => wpAny_pyIter_zip hz ?_
  refine ⟨_, [t.heap.objs.size + 4, t.heap.objs.size + 2, t.heap.objs.size + 3, t.heap.objs.size, t.heap.objs.size + 1], _, _, G, rfl, J.kept (t' := t.toks) hk, turn_zipM (PySem.W.ktu_apart t.heap.objs.size a b p1.lt (Heap.lt_size e2')), ⟨hz, hTI, ⟨_, _, hTO⟩, ⟨_, h1, rfl, rfl⟩, ⟨_, h2, rfl, rfl⟩⟩, fun c hc => ?_, q⟩
  have le : t.heap.objs.size ≤ c := by
    simp only [List.mem_cons, List.not_mem_nil, or_false] at hc
    rcases hc with rfl | rfl | rfl | rfl | rfl
    all_goals first | exact Nat.le_refl _ | exact Nat.le_add_right _ _
  exact J.fpOk le (J.hok.fresh le)
theorem walk_zipM {K : PySem.W.Frag} {a b : Addr} {xs ys : List V} (hl : xs.length = ys.length) : Walk (ItzM K a b) xs.length (fun H => SqL K H a xs ∧ SqT K H b ys) (YPair (fun i => xs[i]?) (fun i => ys[i]?)) := by
  refine ⟨fun i H hi q => ⟨xs, ys, xs[i], ys[i]'(by omega), ⟨q.1, by simp [hi]⟩, q.2, by simp [show i < ys.length by omega]⟩, fun H q => ⟨xs, ys, q, .inl rfl, Nat.le_refl _, Nat.le_of_eq hl⟩, fun i H v H' _ q y => ?_⟩
  obtain ⟨T, l, r, ⟨e1, e2, e3⟩, gl, gr⟩ := y
  exact ⟨T, l, r, e1, e2, e3, gl _ q.1, gr _ q.2⟩
end E1

namespace E1
open PySem PySem.Spec PyProof.Rows L2
/-! ### the numbers of a turn -/
instance : Inhabited FormP := ⟨⟨none, 0, .down, false⟩⟩
def frm (fs : List FormP) (k : Nat) : FormP := fs.getD k default
/-- lists grown one by one -/
def accL (g : List Int → Row → Int) (rows : List Row) : List Int := rows.foldl (fun a r => a ++ [g a r]) []
theorem accL_snoc (g : List Int → Row → Int) (rows : List Row) (r : Row) : accL g (rows ++ [r]) = accL g rows ++ [g (accL g rows) r] := by
  unfold accL
  rw [List.foldl_append]
  rfl
theorem accL_len (g : List Int → Row → Int) (rows : List Row) : (accL g rows).length = rows.length := by
  have key : ∀ (rows : List Row) (acc : List Int), (rows.foldl (fun a r => a ++ [g a r]) acc).length = acc.length + rows.length := by
    intro rows
    induction rows with
    | nil => exact fun acc => rfl
    | cons r rs ih =>
      intro acc
      rw [List.foldl_cons, ih]
      simp only [List.length_append, List.length_cons, List.length_nil]
      omega
  have := key rows []
  rw [List.length_nil, Nat.zero_add] at this
  exact this
theorem accL_pre (g : List Int → Row → Int) (a b : List Row) : ∃ t, accL g (a ++ b) = accL g a ++ t := by
  have key : ∀ (b : List Row) (acc : List Int), ∃ t, b.foldl (fun a r => a ++ [g a r]) acc = acc ++ t := by
    intro b
    induction b with
    | nil => exact fun acc => ⟨[], (List.append_nil _).symm⟩
    | cons r rs ih =>
      intro acc
      obtain ⟨t, e⟩ := ih (acc ++ [g acc r])
      exact ⟨[g acc r] ++ t, by rw [List.foldl_cons, e, List.append_assoc]⟩
  obtain ⟨t, e⟩ := key b (accL g a)
  refine ⟨t, ?_⟩
  rw [← e]
  unfold accL
  rw [List.foldl_append]
theorem accL_take (g : List Int → Row → Int) (rows : List Row) (i : Nat) : (accL g rows).take i = accL g (rows.take i) := by
  by_cases h : i ≤ rows.length
  · obtain ⟨t, e⟩ := accL_pre g (rows.take i) (rows.drop i)
    rw [List.take_append_drop] at e
    rw [e, List.take_append_of_le_length (by rw [accL_len, List.length_take]; omega), List.take_of_length_le (by rw [accL_len, List.length_take]; omega)]
  · rw [List.take_of_length_le (by rw [accL_len]; omega), List.take_of_length_le (by omega)]
theorem accL_next {g : List Int → Row → Int} {rows : List Row} {i : Nat} {r : Row} (h : rows[i]? = some r) : accL g (rows.take (i + 1)) = accL g (rows.take i) ++ [g (accL g (rows.take i)) r] := by
  rw [List.take_add_one, h, Option.toList_some, accL_snoc]
theorem accL_at {g : List Int → Row → Int} {rows : List Row} {i : Nat} {r : Row} (h : rows[i]? = some r) : (accL g rows)[i]? = some (g (accL g (rows.take i)) r) := by
  have hl := (List.getElem?_eq_some_iff.mp h).1
  have e := accL_take g rows (i + 1)
  rw [accL_next h] at e
  have e2 := congrArg (fun l => l[i]?) e
  simp only [List.getElem?_take] at e2
  rw [if_pos (Nat.lt_succ_self i)] at e2
  rw [e2, List.getElem?_append_right (by rw [accL_len, List.length_take]; omega), accL_len, List.length_take, Nat.min_eq_left (Nat.le_of_lt hl), Nat.sub_self]
  rfl
theorem ptsOf_acc (en : Int) (hp fp : List Int) (rows : List Row) : ptsOf en hp fp rows = accL (rowPt en hp fp) rows := rfl
/-- a row's number, from the numbers ahead and the points -/
def sumN (pts nums : List Int) (a b : Nat) (sg : Int) : Int :=
  let x := pts.getD a 0; let y := pts.getD b 0; let p := if y > x then y else x
  nums.getD a 0 * 2 ^ (p - x).toNat + sg * (nums.getD b 0 * 2 ^ (p - y).toNat)
def numRow (fs : List FormP) (pts : List Int) (x : Int) (st nums : List Int) : Row → Int
  | .inn => x
  | .old k => st.getD k 0
  | .times f _ a => f * nums.getD a 0
  | .plus a b => sumN pts nums a b 1
  | .less a b => sumN pts nums a b (-1)
  | .move _ a => nums.getD a 0
  | .keep f a => let F := frm fs f; wordF F.w F.st (stepsAt F.pt F.m (nums.getD a 0) (pts.getD a 0))
def NetP.nums (n : NetP) (x : Int) (st : List Int) : List Int := accL (numRow n.fs n.pts x st) n.rows
/-! ### sizes -/
def SzN (i : Nat) : Nat := 70 + 600 * i
theorem abs_mul_lt {x y : Int} {a b : Nat} (hx : x.natAbs < 2 ^ a) (hy : y.natAbs < 2 ^ b) : (x * y).natAbs < 2 ^ (a + b) := by
  rw [Int.natAbs_mul, Nat.pow_add]
  exact Nat.mul_lt_mul'' hx hy
theorem abs_add_lt {x y : Int} {a : Nat} (hx : x.natAbs < 2 ^ a) (hy : y.natAbs < 2 ^ a) : (x + y).natAbs < 2 ^ (a + 1) := by
  rw [Nat.pow_succ]
  generalize 2 ^ a = N at *
  omega
theorem div_abs (t b : Int) : (t / b).natAbs ≤ t.natAbs := Int.natAbs_ediv_le_natAbs _ _
theorem half_abs {t b : Int} (hb : 0 < b) : (fHalf t b).natAbs ≤ t.natAbs + 1 := by
  rw [fHalf_is hb]
  have := div_abs t b
  split <;> omega
theorem rnd_abs (m : Mn) {t b : Int} (hb : 0 < b) : (m.f t b).natAbs ≤ t.natAbs + 2 := by
  have h1 := div_abs t b
  have h2 := div_abs (-t) b
  have h3 := half_abs (t := t) hb
  have h4 := half_abs (t := -t) hb
  cases m with
  | down => show (fDown t b).natAbs ≤ _; unfold fDown; omega
  | up => show (fUp t b).natAbs ≤ _; unfold fUp; omega
  | inn => show (fIn t b).natAbs ≤ _; unfold fIn fDown fUp; split <;> omega
  | out => show (fOut t b).natAbs ≤ _; unfold fOut fDown fUp; split <;> omega
  | half => show (fHalf t b).natAbs ≤ _; omega
  | even => show (fEven t b).natAbs ≤ _; unfold fEven; split <;> omega
  | far => show (fFar t b).natAbs ≤ _; unfold fFar; split <;> omega
theorem steps_lt {pt p n : Int} {m : Mn} {a : Nat} (hn : n.natAbs < 2 ^ a) (h0 : -64 ≤ pt) (h1 : pt ≤ 64) (p0 : -200 ≤ p) (p1 : p ≤ 200) : (stepsAt pt m n p).natAbs < 2 ^ (a + 300) := by
  unfold stepsAt
  split
  · refine Nat.lt_of_lt_of_le (abs_mul_lt hn (two_pow_lt (k := (pt - p).toNat) (n := 299) (by omega))) (Nat.pow_le_pow_right (by decide) (by omega))
  · have := rnd_abs m (t := n) (two_pow_pos (p - pt).toNat)
    have e : 2 ^ (a + 300) = 2 ^ a * 2 ^ 300 := Nat.pow_add ..
    have one : 0 < 2 ^ a := Nat.pow_pos (by decide)
    have big : 4 ≤ 2 ^ 300 := by decide
    have : 2 ^ a * 4 ≤ 2 ^ a * 2 ^ 300 := Nat.mul_le_mul_left _ big
    omega
theorem two_lt64 {y : Int} (h0 : 2 ≤ y) (h1 : y ≤ 64) : (two y).natAbs ≤ 2 ^ 64 := by
  unfold two
  rw [Int.natAbs_pow]
  exact Nat.pow_le_pow_right (by decide) (by omega)
theorem word_abs (w : Option Int) (st : Bool) (n : Int) (hw : WOk w) : (wordF w st n).natAbs ≤ n.natAbs ∨ (wordF w st n).natAbs < 2 ^ 70 := by
  unfold wordF
  cases w with
  | none => exact .inl (Nat.le_refl _)
  | some y =>
    obtain ⟨y0, y1⟩ := hw y rfl
    have t1 : (two (y - 1)).natAbs ≤ 2 ^ 64 := by
      unfold two
      rw [Int.natAbs_pow]
      exact Nat.pow_le_pow_right (by decide) (by omega)
    have t2 := two_lt64 y0 y1
    have p1 := two_pos (y - 1)
    have p2 := two_pos y
    have b1 : (2 : Nat) ^ 70 = 2 ^ 64 * 64 := by decide
    have m0 := Int.emod_nonneg (n - lst y) (show two y ≠ 0 by omega)
    have m1 := Int.emod_lt_of_pos (n - lst y) p2
    by_cases h : inR (some y) n = true
    · left
      show (if inR (some y) n = true then n else if st = true then (if n < 0 then lst y else grt y) else (n - lst y) % two y + lst y).natAbs ≤ n.natAbs
      rw [if_pos h]
      exact Nat.le_refl _
    · right
      rw [b1]
      show (if inR (some y) n = true then n else if st = true then (if n < 0 then lst y else grt y) else (n - lst y) % two y + lst y).natAbs < _
      rw [if_neg h]
      unfold lst grt at *
      generalize (2 : Nat) ^ 64 = N at *
      generalize two (y - 1) = u at *
      generalize two y = v at *
      generalize (n - -u) % v = r at *
      split
      · split <;> omega
      · omega
structure NumSm (n : NetP) (x : Int) (st : List Int) : Prop where
  x : x.natAbs < 2 ^ 70
  st : ∀ k ∈ st, k.natAbs < 2 ^ 70
theorem getD_lt {l : List Int} {N i : Nat} (h : ∀ k ∈ l, k.natAbs < N) (hN : 0 < N) : (l.getD i 0).natAbs < N := by
  rw [List.getD_eq_getElem?_getD]
  cases e : l[i]? with
  | none => exact hN
  | some k => exact h k (List.mem_of_getElem? e)
theorem num_lt {n : NetP} (ok : NetOk n) {x : Int} {st : List Int} (ko : NumSm n x st) : ∀ i, i ≤ n.rows.length → ∀ k ∈ accL (numRow n.fs n.pts x st) (n.rows.take i), k.natAbs < 2 ^ SzN i := by
  intro i
  induction i with
  | zero => intro _ k hk; cases hk
  | succ i ih =>
    intro hi k hk
    obtain ⟨r, er⟩ : ∃ r, n.rows[i]? = some r := ⟨_, List.getElem?_eq_getElem (by omega)⟩
    rw [accL_next er] at hk
    have ih' := ih (by omega)
    have lp : 0 < 2 ^ SzN i := Nat.pow_pos (by decide)
    have wide : ∀ {y a : Nat}, y < 2 ^ a → a ≤ SzN (i + 1) → y < 2 ^ SzN (i + 1) := fun h l => up h l
    have sz : SzN (i + 1) = SzN i + 600 := rfl
    have s70 : 70 ≤ SzN i := Nat.le_add_right _ _
    rcases List.mem_append.mp hk with hk | hk
    · exact wide (ih' k hk) (by omega)
    rw [List.mem_singleton.mp hk]
    have at' : ∀ a, ((accL (numRow n.fs n.pts x st) (n.rows.take i)).getD a 0).natAbs < 2 ^ SzN i := fun a => getD_lt ih' lp
    have pp : ∀ a, -200 ≤ n.pts.getD a 0 ∧ n.pts.getD a 0 ≤ 200 := fun a => by
      rw [List.getD_eq_getElem?_getD]
      cases e : n.pts[a]? with
      | none => exact ⟨by decide, by decide⟩
      | some k => exact ok.po k (List.mem_of_getElem? e)
    have sums : ∀ a b sg, (sg = 1 ∨ sg = -1) → (sumN n.pts (accL (numRow n.fs n.pts x st) (n.rows.take i)) a b sg).natAbs < 2 ^ SzN (i + 1) := fun a b sg hs => by
      obtain ⟨a0, a1⟩ := pp a
      obtain ⟨b0, b1⟩ := pp b
      unfold sumN
      have k1 : ∀ c, ((if n.pts.getD b 0 > n.pts.getD a 0 then n.pts.getD b 0 else n.pts.getD a 0) - n.pts.getD c 0).toNat < 401 := fun c => by
        obtain ⟨c0, c1⟩ := pp c
        split <;> omega
      have x1 := abs_mul_lt (at' a) (two_pow_lt (k1 a))
      have x2 := abs_mul_lt (at' b) (two_pow_lt (k1 b))
      refine wide (abs_add_lt x1 ?_) (by omega)
      rcases hs with rfl | rfl
      · rw [Int.one_mul]
        exact x2
      · rw [Int.neg_mul, Int.one_mul, Int.natAbs_neg]
        exact x2
    have ro := ok.ro i r er
    match r, ro with
    | .inn, _ => exact wide ko.x (by omega)
    | .old k, _ => exact wide (getD_lt ko.st (by decide)) (by omega)
    | .times f m a, h => exact wide (abs_mul_lt (show f.natAbs < 2 ^ 63 from h.1) (at' a)) (by omega)
    | .plus a b, _ => exact sums a b 1 (.inl rfl)
    | .less a b, _ => exact sums a b (-1) (.inr rfl)
    | .move m a, _ => exact wide (at' a) (by omega)
    | .keep f a, h =>
      obtain ⟨p0, p1⟩ := pp a
      have fo : (frm n.fs f).Ok := by
        have e : frm n.fs f = n.fs[f]'h.1 := by
          unfold frm
          rw [List.getD_eq_getElem?_getD, List.getElem?_eq_getElem h.1]
          rfl
        rw [e]
        exact ok.fo _ (List.getElem_mem _)
      have s1 := steps_lt (m := (frm n.fs f).m) (at' a) fo.p0 fo.p1 p0 p1
      rcases word_abs (frm n.fs f).w (frm n.fs f).st (stepsAt (frm n.fs f).pt (frm n.fs f).m ((accL (numRow n.fs n.pts x st) (n.rows.take i)).getD a 0) (n.pts.getD a 0)) fo.wo with h | h
      · exact wide (Nat.lt_of_le_of_lt h s1) (by omega)
      · exact wide h (by omega)

/-- all numbers of a turn are of a size that can be reckoned with -/
def NumOk (n : NetP) (x : Int) (st : List Int) : Prop := ∀ k ∈ n.nums x st, k.natAbs < 2 ^ 900000
theorem NumOk.pre {n : NetP} {x : Int} {st : List Int} (h : NumOk n x st) {i : Nat} {k : Int} (hk : k ∈ accL (numRow n.fs n.pts x st) (n.rows.take i)) : k.natAbs < 2 ^ 900000 := by
  rw [← accL_take] at hk
  exact h k (List.mem_of_mem_take hk)
def Row.small : Row → Prop
  | .times f _ _ => f.natAbs ≤ 9
  | _ => True
/-- a net whose numbers grow slowly -/
structure Calm (n : NetP) : Prop where
  rs : ∀ r ∈ n.rows, r.small
  ps : ∀ p ∈ n.pts, -48 ≤ p ∧ p ≤ 48
  fs : ∀ f ∈ n.fs, -7 ≤ f.pt ∧ f.pt ≤ 7
  ln : n.rows.length ≤ 27
def Mild (n : NetP) : Prop := (∀ f ∈ n.fs, f.w ≠ none) ∨ Calm n
theorem steps_lt2 {pt p n : Int} {m : Mn} {a : Nat} (hn : n.natAbs < 2 ^ a) (h0 : -7 ≤ pt) (h1 : pt ≤ 7) (p0 : -48 ≤ p) (p1 : p ≤ 48) : (stepsAt pt m n p).natAbs < 2 ^ (a + 60) := by
  unfold stepsAt
  split
  · refine Nat.lt_of_lt_of_le (abs_mul_lt hn (two_pow_lt (k := (pt - p).toNat) (n := 59) (by omega))) (Nat.pow_le_pow_right (by decide) (by omega))
  · have := rnd_abs m (t := n) (two_pow_pos (p - pt).toNat)
    have e : 2 ^ (a + 60) = 2 ^ a * 2 ^ 60 := Nat.pow_add ..
    have one : 0 < 2 ^ a := Nat.pow_pos (by decide)
    have big : 4 ≤ 2 ^ 60 := by decide
    have : 2 ^ a * 4 ≤ 2 ^ a * 2 ^ 60 := Nat.mul_le_mul_left _ big
    omega
theorem num_calm {n : NetP} (ok : NetOk n) (cm : Calm n) {x : Int} {st : List Int} {s : Nat} (s70 : 70 ≤ s) (hx : x.natAbs < 2 ^ 70) (hst : ∀ k ∈ st, k.natAbs < 2 ^ s) : ∀ i, i ≤ n.rows.length → ∀ k ∈ accL (numRow n.fs n.pts x st) (n.rows.take i), k.natAbs < 2 ^ (s + 100 * i) := by
  intro i
  induction i with
  | zero => intro _ k hk; cases hk
  | succ i ih =>
    intro hi k hk
    obtain ⟨r, er⟩ : ∃ r, n.rows[i]? = some r := ⟨_, List.getElem?_eq_getElem (by omega)⟩
    rw [accL_next er] at hk
    have ih' := ih (by omega)
    have lp : 0 < 2 ^ (s + 100 * i) := Nat.pow_pos (by decide)
    have wide : ∀ {y a : Nat}, y < 2 ^ a → a ≤ s + 100 * (i + 1) → y < 2 ^ (s + 100 * (i + 1)) := fun h l => up h l
    rcases List.mem_append.mp hk with hk | hk
    · exact wide (ih' k hk) (by omega)
    rw [List.mem_singleton.mp hk]
    have at' : ∀ a, ((accL (numRow n.fs n.pts x st) (n.rows.take i)).getD a 0).natAbs < 2 ^ (s + 100 * i) := fun a => getD_lt ih' lp
    have pp : ∀ a, -48 ≤ n.pts.getD a 0 ∧ n.pts.getD a 0 ≤ 48 := fun a => by
      rw [List.getD_eq_getElem?_getD]
      cases e : n.pts[a]? with
      | none => exact ⟨by decide, by decide⟩
      | some k => exact cm.ps k (List.mem_of_getElem? e)
    have sums : ∀ a b sg, (sg = 1 ∨ sg = -1) → (sumN n.pts (accL (numRow n.fs n.pts x st) (n.rows.take i)) a b sg).natAbs < 2 ^ (s + 100 * (i + 1)) := fun a b sg hs => by
      obtain ⟨a0, a1⟩ := pp a
      obtain ⟨b0, b1⟩ := pp b
      unfold sumN
      have k1 : ∀ c, ((if n.pts.getD b 0 > n.pts.getD a 0 then n.pts.getD b 0 else n.pts.getD a 0) - n.pts.getD c 0).toNat < 97 := fun c => by
        obtain ⟨c0, c1⟩ := pp c
        split <;> omega
      have x1 := abs_mul_lt (at' a) (two_pow_lt (k1 a))
      have x2 := abs_mul_lt (at' b) (two_pow_lt (k1 b))
      refine wide (abs_add_lt x1 ?_) (by omega)
      rcases hs with rfl | rfl
      · rw [Int.one_mul]
        exact x2
      · rw [Int.neg_mul, Int.one_mul, Int.natAbs_neg]
        exact x2
    have ro := ok.ro i r er
    have rs := cm.rs r (List.mem_of_getElem? er)
    match r, ro, rs with
    | .inn, _, _ => exact wide hx (by omega)
    | .old k, _, _ => exact wide (getD_lt hst (Nat.pow_pos (by decide))) (by omega)
    | .times f m a, h, rs => exact wide (abs_mul_lt (show f.natAbs < 2 ^ 4 from Nat.lt_of_le_of_lt rs (by decide)) (at' a)) (by omega)
    | .plus a b, _, _ => exact sums a b 1 (.inl rfl)
    | .less a b, _, _ => exact sums a b (-1) (.inr rfl)
    | .move m a, _, _ => exact wide (at' a) (by omega)
    | .keep f a, h, _ =>
      obtain ⟨p0, p1⟩ := pp a
      have e : frm n.fs f = n.fs[f]'h.1 := by
        unfold frm
        rw [List.getD_eq_getElem?_getD, List.getElem?_eq_getElem h.1]
        rfl
      have fo : (frm n.fs f).Ok := by
        rw [e]
        exact ok.fo _ (List.getElem_mem _)
      have ff : -7 ≤ (frm n.fs f).pt ∧ (frm n.fs f).pt ≤ 7 := by
        rw [e]
        exact cm.fs _ (List.getElem_mem _)
      have s1 := steps_lt2 (m := (frm n.fs f).m) (at' a) ff.1 ff.2 p0 p1
      rcases word_abs (frm n.fs f).w (frm n.fs f).st (stepsAt (frm n.fs f).pt (frm n.fs f).m ((accL (numRow n.fs n.pts x st) (n.rows.take i)).getD a 0) (n.pts.getD a 0)) fo.wo with h | h
      · exact wide (Nat.lt_of_le_of_lt h s1) (by omega)
      · exact wide h (by omega)
theorem all_take {n : NetP} {x : Int} {st : List Int} {N : Nat} (h : ∀ k ∈ accL (numRow n.fs n.pts x st) (n.rows.take n.rows.length), k.natAbs < N) : ∀ k ∈ n.nums x st, k.natAbs < N := fun k hk => h k (by
  rw [List.take_length]
  exact hk)
end E1

namespace E1
open PySem PySem.Spec PyProof.Rows L2
abbrev s_Net___eq__ : Stmt := inClass (topS 62) 10
abbrev s_Net___str__ : Stmt := inClass (topS 62) 11
abbrev s_Net___repr__ : Stmt := inClass (topS 62) 12
abbrev s_Net_forms : Stmt := inClass (topS 62) 1
abbrev s_Net_enters : Stmt := inClass (topS 62) 2
abbrev s_Net_rows : Stmt := inClass (topS 62) 3
abbrev s_Net_holds : Stmt := inClass (topS 62) 4
abbrev s_Net_out : Stmt := inClass (topS 62) 5
abbrev s_Net_points : Stmt := inClass (topS 62) 6
abbrev s_Net_keeps : Stmt := inClass (topS 62) 7
abbrev s_Net_start : Stmt := inClass (topS 62) 8
abbrev s_Net___len__ : Stmt := inClass (topS 62) 9

def NIs (C CN : Addr) (H : Hp) (p : Addr) (n : NetP) : Prop := NetAt C CN H p n
/-- a method of a net that tells a new list -/
def spFormsM (C CN : Addr) : Sp := fun vs H Q _ => ∃ (p : Addr) (n : NetP), vs = [.ref p] ∧ NetAt C CN H p n ∧ ∀ l fv H', H l = none → Same H H' → H' l = some (.lst fv) → FsAt C H' fv n.fs → Q (.ref l) H'
def spRowsM (C CN : Addr) : Sp := fun vs H Q _ => ∃ (p : Addr) (n : NetP), vs = [.ref p] ∧ NetAt C CN H p n ∧ ∀ l rv H', H l = none → Same H H' → H' l = some (.lst rv) → TsAt H' rv (n.rows.map Row.vs) → Q (.ref l) H'
def spHoldsM (C CN : Addr) : Sp := fun vs H Q _ => ∃ (p : Addr) (n : NetP), vs = [.ref p] ∧ NetAt C CN H p n ∧ ∀ l hv H', H l = none → Same H H' → H' l = some (.lst hv) → TsAt H' hv (n.holds.map Hold.vs) → Q (.ref l) H'
def spPtsM (C CN : Addr) : Sp := fun vs H Q _ => ∃ (p : Addr) (n : NetP), vs = [.ref p] ∧ NetAt C CN H p n ∧ ∀ l H', H l = none → Same H H' → H' l = some (.lst (n.pts.map V.int)) → Q (.ref l) H'
def spEnM (C CN : Addr) : Sp := fun vs H Q _ => ∃ (p : Addr) (n : NetP), vs = [.ref p] ∧ NetAt C CN H p n ∧ Q (.int n.en) H
def spEnterForm (C CN : Addr) : Sp := fun vs H Q _ => ∃ (p : Addr) (n : NetP), vs = [.ref p] ∧ NetAt C CN H p n ∧ ∀ q H', Same H H' → FAt C H' q (frm n.fs n.en) → Q (.ref q) H'
def spSumNum : Sp := fun vs H Q _ => ∃ (ra na pa : Addr) (r : Row) (a b : Nat) (sg : Int) (nums pts : List Int), vs = [.ref ra, .ref na, .ref pa] ∧ H ra = some (.tup r.vs) ∧ ((r = .plus a b ∧ sg = 1) ∨ (r = .less a b ∧ sg = -1)) ∧ H na = some (.lst (nums.map V.int)) ∧ H pa = some (.lst (pts.map V.int)) ∧ a < nums.length ∧ b < nums.length ∧ nums.length ≤ pts.length ∧ (∀ k ∈ nums, k.natAbs < 2 ^ 900000) ∧ (∀ p ∈ pts, -200 ≤ p ∧ p ≤ 200) ∧ Q (.int (sumN pts nums a b sg)) H
def spNumRow (C : Addr) : Sp := fun vs H Q _ => ∃ (ra na fa pa : Addr) (r : Row) (fv : List V) (fs : List FormP) (hc : Nat) (x : Int) (st nums pts : List Int), vs = [.ref ra, .ref na, .ref fa, .ref pa] ∧ H ra = some (.tup r.vs) ∧ r.kd ≠ .inn ∧ r.kd ≠ .old ∧ H na = some (.lst (nums.map V.int)) ∧ H fa = some (.lst fv) ∧ FsAt C H fv fs ∧ H pa = some (.lst (pts.map V.int)) ∧ RowOk hc fs.length nums.length r ∧ nums.length ≤ pts.length ∧ (∀ k ∈ nums, k.natAbs < 2 ^ 900000) ∧ (∀ p ∈ pts, -200 ≤ p ∧ p ≤ 200) ∧
  ∀ H', Same H H' → Q (.int (numRow fs pts x st nums r)) H'
def spSwept (C CN fR : Addr) : Sp := fun vs H Q _ => ∃ (p sa : Addr) (n : NetP) (x : Int) (st : List Int), vs = [.ref p, .int x, .ref sa, .ref fR] ∧ NetAt C CN H p n ∧ H sa = some (.tup (st.map V.int)) ∧ st.length = n.holds.length ∧ NumOk n x st ∧ ∀ l H', H l = none → Same H H' → H' l = some (.lst ((n.nums x st).map V.int)) → Q (.ref l) H'
/-- a state of a net -/
structure StOk (n : NetP) (st : List Int) : Prop where
  len : st.length = n.holds.length
  inr : ∀ (i : Nat) (h : Hold) (k : Int), n.holds[i]? = some h → st[i]? = some k → inR (frm n.fs h.k).w k = true
def spIsState (C CN : Addr) : Sp := fun vs H Q _ => ∃ (p sa : Addr) (n : NetP) (st : List Int), vs = [.ref p, .ref sa] ∧ NetAt C CN H p n ∧ H sa = some (.tup (st.map V.int)) ∧ StOk n st ∧ ∀ H', Same H H' → Q (.bl true) H'
def spCkState (C CN : Addr) : Sp := fun vs H Q _ => ∃ (p sa : Addr) (n : NetP) (st : List Int), vs = [.ref p, .ref sa] ∧ NetAt C CN H p n ∧ H sa = some (.tup (st.map V.int)) ∧ StOk n st ∧ ∀ H', Same H H' → Q .non H'
def spCkWord (C CN : Addr) : Sp := fun vs H Q _ => ∃ (p : Addr) (n : NetP) (x : Int), vs = [.ref p, .int x] ∧ NetAt C CN H p n ∧ inR (frm n.fs n.en).w x = true ∧ ∀ H', Same H H' → Q .non H'
def NetP.behind (n : NetP) (nums : List Int) : List Int := n.holds.map fun h => nums.getD h.l 0
def spBehind (C CN : Addr) : Sp := fun vs H Q _ => ∃ (p na : Addr) (n : NetP) (nums : List Int), vs = [.ref p, .ref na] ∧ NetAt C CN H p n ∧ H na = some (.lst (nums.map V.int)) ∧ nums.length = n.rows.length ∧ ∀ t H', H t = none → Same H H' → H' t = some (.tup ((n.behind nums).map V.int)) → Q (.ref t) H'
/-- what a turn tells: a new tuple of a new list and a new tuple -/
def TurnOut (H : Hp) (Q : VK) (ns st' : List Int) : Prop := ∀ t l s H', Same H H' → H t = none → H l = none → H s = none → H' t = some (.tup [.ref l, .ref s]) → H' l = some (.lst (ns.map V.int)) → H' s = some (.tup (st'.map V.int)) → Q (.ref t) H'
def spTurnOf (C CN : Addr) : Sp := fun vs H Q _ => ∃ (p sa : Addr) (n : NetP) (x : Int) (st : List Int), vs = [.ref p, .ref sa, .int x] ∧ NetAt C CN H p n ∧ H sa = some (.tup (st.map V.int)) ∧ st.length = n.holds.length ∧ NumOk n x st ∧ TurnOut H Q (n.nums x st) (n.behind (n.nums x st))
def spTurned (C CN : Addr) : Sp := fun vs H Q _ => ∃ (p sa : Addr) (n : NetP) (x : Int) (st : List Int), vs = [.ref p, .ref sa, .int x] ∧ NetAt C CN H p n ∧ H sa = some (.tup (st.map V.int)) ∧ StOk n st ∧ inR (frm n.fs n.en).w x = true ∧ NumOk n x st ∧ TurnOut H Q (n.nums x st) (n.behind (n.nums x st))
section
variable {fl : Addr} {en : Int} {rl hl : Addr} {out : Int} {pl : Addr}
theorem fks_ne : ∀ i j : Fin 6, i ≠ j → ((fks[i.val]'i.isLt) == (fks[j.val]'j.isLt)) = false := by decide +kernel
theorem nl_f : (nflds fl en rl hl out pl).lookup ("form_list" : Str) = some (.ref fl) := by
  unfold nflds
  rw [List.lookup_cons, beq_self_eq_true]
theorem nl_e : (nflds fl en rl hl out pl).lookup ("enters_at" : Str) = some (.int en) := by
  unfold nflds
  rw [List.lookup_cons, show (("enters_at" : Str) == "form_list") = false from fks_ne 1 0 (by decide), List.lookup_cons, beq_self_eq_true]
theorem nl_r : (nflds fl en rl hl out pl).lookup ("row_list" : Str) = some (.ref rl) := by
  unfold nflds
  rw [List.lookup_cons, show (("row_list" : Str) == "form_list") = false from fks_ne 2 0 (by decide), List.lookup_cons, show (("row_list" : Str) == "enters_at") = false from fks_ne 2 1 (by decide), List.lookup_cons, beq_self_eq_true]
theorem nl_h : (nflds fl en rl hl out pl).lookup ("hold_list" : Str) = some (.ref hl) := by
  unfold nflds
  rw [List.lookup_cons, show (("hold_list" : Str) == "form_list") = false from fks_ne 3 0 (by decide), List.lookup_cons, show (("hold_list" : Str) == "enters_at") = false from fks_ne 3 1 (by decide), List.lookup_cons, show (("hold_list" : Str) == "row_list") = false from fks_ne 3 2 (by decide), List.lookup_cons, beq_self_eq_true]
theorem nl_o : (nflds fl en rl hl out pl).lookup ("out_at" : Str) = some (.int out) := by
  unfold nflds
  rw [List.lookup_cons, show (("out_at" : Str) == "form_list") = false from fks_ne 4 0 (by decide), List.lookup_cons, show (("out_at" : Str) == "enters_at") = false from fks_ne 4 1 (by decide), List.lookup_cons, show (("out_at" : Str) == "row_list") = false from fks_ne 4 2 (by decide), List.lookup_cons, show (("out_at" : Str) == "hold_list") = false from fks_ne 4 3 (by decide), List.lookup_cons, beq_self_eq_true]
theorem nl_p : (nflds fl en rl hl out pl).lookup ("point_list" : Str) = some (.ref pl) := by
  unfold nflds
  rw [List.lookup_cons, show (("point_list" : Str) == "form_list") = false from fks_ne 5 0 (by decide), List.lookup_cons, show (("point_list" : Str) == "enters_at") = false from fks_ne 5 1 (by decide), List.lookup_cons, show (("point_list" : Str) == "row_list") = false from fks_ne 5 2 (by decide), List.lookup_cons, show (("point_list" : Str) == "hold_list") = false from fks_ne 5 3 (by decide), List.lookup_cons, show (("point_list" : Str) == "out_at") = false from fks_ne 5 4 (by decide), List.lookup_cons, beq_self_eq_true]
theorem nl_no {x : Str} (h : (fks.map fun k => x == k) = [false, false, false, false, false, false]) : (nflds fl en rl hl out pl).lookup x = none := by
  have e : ∀ i : Nat, (fks.map fun k => x == k)[i]? = [false, false, false, false, false, false][i]? := fun i => by rw [h]
  have h0 : (x == ("form_list" : Str)) = false := Option.some.inj (e 0)
  have h1 : (x == ("enters_at" : Str)) = false := Option.some.inj (e 1)
  have h2 : (x == ("row_list" : Str)) = false := Option.some.inj (e 2)
  have h3 : (x == ("hold_list" : Str)) = false := Option.some.inj (e 3)
  have h4 : (x == ("out_at" : Str)) = false := Option.some.inj (e 4)
  have h5 : (x == ("point_list" : Str)) = false := Option.some.inj (e 5)
  unfold nflds
  rw [List.lookup_cons, h0, List.lookup_cons, h1, List.lookup_cons, h2, List.lookup_cons, h3, List.lookup_cons, h4, List.lookup_cons, h5]
  rfl
end
theorem pts_len (n : NetP) : n.pts.length = n.rows.length := ptsOf_len ..
theorem nums_len (n : NetP) (x : Int) (st : List Int) : (n.nums x st).length = n.rows.length := accL_len ..
theorem frm_at {fs : List FormP} {k : Nat} {f : FormP} (h : fs[k]? = some f) : frm fs k = f := by
  unfold frm
  rw [List.getD_eq_getElem?_getD, h]
  rfl
theorem FsAt.frm {C : Addr} {H : Hp} {vs : List V} {fs : List FormP} (h : FsAt C H vs fs) {k : Nat} (hk : k < fs.length) : ∃ p, vs[k]? = some (.ref p) ∧ FAt C H p (frm fs k) := by
  have e := List.getElem?_eq_getElem hk
  obtain ⟨p, a, b⟩ := h.at e
  exact ⟨p, a, by rw [frm_at e]; exact b⟩
theorem num_big {i : Nat} (h : i ≤ 60) {y : Nat} (l : y < 2 ^ SzN i) : y < 2 ^ 900000 := up l (by unfold SzN; omega)
theorem sumN_p (pts nums : List Int) (a b : Nat) : sumN pts nums a b 1 = nums.getD a 0 * 2 ^ ((if pts.getD b 0 > pts.getD a 0 then pts.getD b 0 else pts.getD a 0) - pts.getD a 0).toNat + nums.getD b 0 * 2 ^ ((if pts.getD b 0 > pts.getD a 0 then pts.getD b 0 else pts.getD a 0) - pts.getD b 0).toNat := by
  unfold sumN
  simp only [Int.one_mul]
theorem sumN_l (pts nums : List Int) (a b : Nat) : sumN pts nums a b (-1) = nums.getD a 0 * 2 ^ ((if pts.getD b 0 > pts.getD a 0 then pts.getD b 0 else pts.getD a 0) - pts.getD a 0).toNat - nums.getD b 0 * 2 ^ ((if pts.getD b 0 > pts.getD a 0 then pts.getD b 0 else pts.getD a 0) - pts.getD b 0).toNat := by
  unfold sumN
  simp only [Int.neg_mul, Int.one_mul, Int.sub_eq_add_neg]
theorem FsAt.butL {C a : Addr} {ys : List V} {H H' : Hp} {vs : List V} {fs : List FormP} (h : FsAt C H vs fs) (s : SameBut a H H') (ha : H a = some (.lst ys)) : FsAt C H' vs fs := by
  induction h with
  | nil => exact .nil
  | cons e _ ih =>
    obtain ⟨d, ho⟩ := e.ob
    exact .cons ⟨⟨d, s _ _ (ne_of ho ha (fun z => nomatch z)) ho⟩, e.wo, e.p0, e.p1⟩ ih
theorem kd_ne (a b : Kd7) (h : a ≠ b) : a.s ≠ b.s := by
  revert h
  cases a <;> cases b <;> first | (intro h; exact absurd rfl h) | (intro _; decide +kernel)
theorem kd_s {a b : Kd7} : decide (V.str a.s = V.str b.s) = decide (a.s = b.s) := by
  by_cases h : a.s = b.s
  · rw [h, decide_eq_true rfl, decide_eq_true rfl]
  · rw [decide_eq_false h, decide_eq_false (fun z => h (V.str.inj z))]
section
variable {P : Program} {w : World} {K : PySem.W.Frag} {mg : Str → Option Value} {base : Heap}
theorem sc_Net_forms : FnScope ["self"] ["self"] (defScope s_Net_forms) := ⟨rfl, rfl, rfl, by decide +kernel, rfl, by decide +kernel, by decide +kernel⟩
theorem ok_Net_forms {f : Addr} {fd : FuncData} {k : Nat} {C CN : Addr} (TN : NTxt K mg CN) (F : Fun K "forms" "Net.forms" s_Net_forms f fd) (z : Zs mg) : FnOk P w K mg base CX0 (k + 1) f fd ["self"] (spFormsM C CN) := by
  refine F.ok sc_Net_forms (fun vs H Q E h => ?_) (fun cdv A outer s H vs Q E hr h => ?_)
  · obtain ⟨p, n, rfl, _⟩ := h
    rfl
  · obtain ⟨p, n, rfl, ⟨ok, dx, fl, rl, hl2, pl, fv, rv, hv, b⟩, q⟩ := h
    refine ⟨_, (pss_one (ps_ret (pe_callTy call_list_of (by rfl) z.list (by decide +kernel) (pa_cons (pe_fld (pv 0) rfl) pa_nil)))), ?_⟩
    refine ⟨_, rfl, p, CN, dx, _, _, rfl, b.ob, TN.cl, TN.n_form_list, nl_f, _, _, rfl, .inl (SqL.of b.fa), fun l hl => ?_⟩
    generalize hG : upd _ l _ = G
    obtain ⟨s, h_l⟩ := upd_gen hG hl
    exact q l _ _ hl s h_l (b.fs.same s)
theorem sc_Net_rows : FnScope ["self"] ["self"] (defScope s_Net_rows) := ⟨rfl, rfl, rfl, by decide +kernel, rfl, by decide +kernel, by decide +kernel⟩
theorem ok_Net_rows {f : Addr} {fd : FuncData} {k : Nat} {C CN : Addr} (TN : NTxt K mg CN) (F : Fun K "rows" "Net.rows" s_Net_rows f fd) (z : Zs mg) : FnOk P w K mg base CX0 (k + 1) f fd ["self"] (spRowsM C CN) := by
  refine F.ok sc_Net_rows (fun vs H Q E h => ?_) (fun cdv A outer s H vs Q E hr h => ?_)
  · obtain ⟨p, n, rfl, _⟩ := h
    rfl
  · obtain ⟨p, n, rfl, ⟨ok, dx, fl, rl, hl2, pl, fv, rv, hv, b⟩, q⟩ := h
    refine ⟨_, (pss_one (ps_ret (pe_callTy call_list_of (by rfl) z.list (by decide +kernel) (pa_cons (pe_fld (pv 0) rfl) pa_nil)))), ?_⟩
    refine ⟨_, rfl, p, CN, dx, _, _, rfl, b.ob, TN.cl, TN.n_row_list, nl_r, _, _, rfl, .inl (SqL.of b.ra), fun l hl => ?_⟩
    generalize hG : upd _ l _ = G
    obtain ⟨s, h_l⟩ := upd_gen hG hl
    exact q l _ _ hl s h_l (b.rs.same s)
theorem sc_Net_holds : FnScope ["self"] ["self"] (defScope s_Net_holds) := ⟨rfl, rfl, rfl, by decide +kernel, rfl, by decide +kernel, by decide +kernel⟩
theorem ok_Net_holds {f : Addr} {fd : FuncData} {k : Nat} {C CN : Addr} (TN : NTxt K mg CN) (F : Fun K "holds" "Net.holds" s_Net_holds f fd) (z : Zs mg) : FnOk P w K mg base CX0 (k + 1) f fd ["self"] (spHoldsM C CN) := by
  refine F.ok sc_Net_holds (fun vs H Q E h => ?_) (fun cdv A outer s H vs Q E hr h => ?_)
  · obtain ⟨p, n, rfl, _⟩ := h
    rfl
  · obtain ⟨p, n, rfl, ⟨ok, dx, fl, rl, hl2, pl, fv, rv, hv, b⟩, q⟩ := h
    refine ⟨_, (pss_one (ps_ret (pe_callTy call_list_of (by rfl) z.list (by decide +kernel) (pa_cons (pe_fld (pv 0) rfl) pa_nil)))), ?_⟩
    refine ⟨_, rfl, p, CN, dx, _, _, rfl, b.ob, TN.cl, TN.n_hold_list, nl_h, _, _, rfl, .inl (SqL.of b.ha), fun l hl => ?_⟩
    generalize hG : upd _ l _ = G
    obtain ⟨s, h_l⟩ := upd_gen hG hl
    exact q l _ _ hl s h_l (b.hs.same s)
theorem sc_Net_points : FnScope ["self"] ["self"] (defScope s_Net_points) := ⟨rfl, rfl, rfl, by decide +kernel, rfl, by decide +kernel, by decide +kernel⟩
theorem ok_Net_points {f : Addr} {fd : FuncData} {k : Nat} {C CN : Addr} (TN : NTxt K mg CN) (F : Fun K "points" "Net.points" s_Net_points f fd) (z : Zs mg) : FnOk P w K mg base CX0 (k + 1) f fd ["self"] (spPtsM C CN) := by
  refine F.ok sc_Net_points (fun vs H Q E h => ?_) (fun cdv A outer s H vs Q E hr h => ?_)
  · obtain ⟨p, n, rfl, _⟩ := h
    rfl
  · obtain ⟨p, n, rfl, ⟨ok, dx, fl, rl, hl2, pl, fv, rv, hv, b⟩, q⟩ := h
    refine ⟨_, (pss_one (ps_ret (pe_callTy call_list_of (by rfl) z.list (by decide +kernel) (pa_cons (pe_fld (pv 0) rfl) pa_nil)))), ?_⟩
    refine ⟨_, rfl, p, CN, dx, _, _, rfl, b.ob, TN.cl, TN.n_point_list, nl_p, _, _, rfl, .inl (SqL.of b.pa), fun l hl => ?_⟩
    generalize hG : upd _ l _ = G
    obtain ⟨s, h_l⟩ := upd_gen hG hl
    exact q l _ hl s h_l
theorem sc_Net_enters : FnScope ["self"] ["self"] (defScope s_Net_enters) := ⟨rfl, rfl, rfl, by decide +kernel, rfl, by decide +kernel, by decide +kernel⟩
theorem ok_Net_enters {f : Addr} {fd : FuncData} {k : Nat} {C CN : Addr} (TN : NTxt K mg CN) (F : Fun K "enters" "Net.enters" s_Net_enters f fd) : FnOk P w K mg base CX0 (k + 1) f fd ["self"] (spEnM C CN) := by
  refine F.ok sc_Net_enters (fun vs H Q E h => ?_) (fun cdv A outer s H vs Q E hr h => ?_)
  · obtain ⟨p, n, rfl, _⟩ := h
    rfl
  · obtain ⟨p, n, rfl, ⟨ok, dx, fl, rl, hl2, pl, fv, rv, hv, b⟩, q⟩ := h
    refine ⟨_, (pss_one (ps_ret (pe_fld (pv 0) rfl))), ?_⟩
    exact ⟨_, rfl, p, CN, dx, _, _, rfl, b.ob, TN.cl, TN.n_enters_at, nl_e, q⟩
end
end E1

namespace E1
open PySem PySem.Spec PyProof.Rows L2
section
variable {P : Program} {w : World} {K : PySem.W.Frag} {mg : Str → Option Value} {base : Heap}
theorem sc_enter_form : FnScope ["net"] ["net"] (defScope s_enter_form) := ⟨rfl, rfl, rfl, by decide +kernel, rfl, by decide +kernel, by decide +kernel⟩
theorem ok_enter_form {f : Addr} {fd : FuncData} {C CN : Addr} (TN : NTxt K mg CN) (F : Fun K "enter_form" "enter_form" s_enter_form f fd) (n_forms : CalM P w K mg base 1 CN "forms" ["self"] (spFormsM C CN)) (n_enters : CalM P w K mg base 1 CN "enters" ["self"] (spEnM C CN)) : FnOk P w K mg base CX0 2 f fd ["net"] (spEnterForm C CN) := by
  refine F.ok sc_enter_form (fun vs H Q E h => ?_) (fun cdv A outer s H vs Q E hr h => ?_)
  · obtain ⟨p, n, rfl, _⟩ := h
    rfl
  · obtain ⟨p, n, rfl, hn, q⟩ := h
    refine ⟨_, (pss_one (ps_ret (pe_ix ix_list (pe_calm0 (pv 0) TN.cl n_forms hr) (pe_calm0 (pv 0) TN.cl n_enters hr) (fun _ _ => rfl)))), ?_⟩
    obtain ⟨ok, dx, fl, rl, hl, pl, fv, rv, hv, b⟩ := id hn
    refine ⟨_, rfl, p, dx, _, rfl, b.ob, nl_no (by decide +kernel), p, n, rfl, hn, fun l fv2 H1 hl1 s1 h_l hf => ?_⟩
    obtain ⟨q1, e1, f1⟩ := hf.frm ok.en
    refine ⟨_, rfl, p, dx, _, rfl, s1 _ _ b.ob, nl_no (by decide +kernel), p, n, rfl, hn.same s1, ?_⟩
    exact ⟨l, _, _, .ref q1, rfl, rfl, SqL.of h_l, atI_nat e1, q q1 _ s1 f1⟩
theorem sc_sum_number : FnScope ["row", "numbers", "points", "word", "one", "other", "point", "left", "right"] ["row", "numbers", "points"] (defScope s_sum_number) := ⟨rfl, rfl, rfl, by decide +kernel, rfl, by decide +kernel, by decide +kernel⟩
theorem ok_sum_number {f : Addr} {fd : FuncData} {k : Nat} (F : Fun K "sum_number" "sum_number" s_sum_number f fd) (z : Zs mg) : FnOk P w K mg base CX0 (k + 1) f fd ["row", "numbers", "points"] spSumNum := by
  refine F.ok sc_sum_number (fun vs H Q E h => ?_) (fun cdv A outer s H vs Q E hr h => ?_)
  · obtain ⟨ra, na, pa, r, a, b, sg, nums, pts, rfl, _⟩ := h
    rfl
  · obtain ⟨ra, na, pa, r, a, b, sg, nums, pts, rfl, hra, hr2, hna, hpa, la, lb, lp, hn, hp, q⟩ := h
    refine ⟨_, (pss_cons (ps_asg (pv 0) (pg_tup (by rfl) (pgs_cons (pg_name (i := 3) sc_sum_number.nd rfl (.inl rfl)) (pgs_cons (pg_name (i := 4) sc_sum_number.nd rfl (.inl rfl)) (pgs_cons (pg_name (i := 5) sc_sum_number.nd rfl (.inl rfl)) pgs_nil)))))
      (pss_cons (ps_set (i := 6) sc_sum_number.nd rfl (.inl rfl) (pe_callB (call_max2 rfl) (by rfl) z.max (by decide +kernel) (pa_cons (pe_ix ix_list (pv 2) (pv 4) (fun _ _ => rfl)) (pa_cons (pe_ix ix_list (pv 2) (pv 5) (fun _ _ => rfl)) pa_nil))))
      (pss_cons (ps_set (i := 7) sc_sum_number.nd rfl (.inl rfl) (pe_op op_shlW (pe_ix ix_list (pv 1) (pv 4) (fun _ _ => rfl)) (pe_op op_sub (pv 6) (pe_ix ix_list (pv 2) (pv 4) (fun _ _ => rfl)))))
      (pss_cons (ps_set (i := 8) sc_sum_number.nd rfl (.inl rfl) (pe_op op_shlW (pe_ix ix_list (pv 1) (pv 5) (fun _ _ => rfl)) (pe_op op_sub (pv 6) (pe_ix ix_list (pv 2) (pv 5) (fun _ _ => rfl)))))
      (pss_one (ps_ret (pe_ifExp (pt_cmpR op_eq (pv 3) pe_str (nomark _)) (pe_op op_add (pv 7) (pv 8)) (pe_op op_sub (pv 7) (pv 8))))))))), ?_⟩
    have la' : a < pts.length := by omega
    have lb' : b < pts.length := by omega
    have pp : ∀ c, c < pts.length → -200 ≤ pts.getD c 0 ∧ pts.getD c 0 ≤ 200 := fun c hc => hp _ (by
      rw [List.getD_eq_getElem?_getD, List.getElem?_eq_getElem hc]
      exact List.getElem_mem _)
    obtain ⟨a0, a1⟩ := pp a la'
    obtain ⟨b0, b1⟩ := pp b lb'
    have nn : ∀ c, (nums.getD c 0).natAbs < 2 ^ 900000 := fun c => getD_lt hn (Nat.pow_pos (by decide))
    have sh : ∀ c, c < pts.length → CShl (nums.getD c 0) ((if pts.getD b 0 > pts.getD a 0 then pts.getD b 0 else pts.getD a 0) - pts.getD c 0) ∨ ¬ (c = a ∨ c = b) := fun c hc => by
      by_cases hh : c = a ∨ c = b
      · left
        have e : ((if pts.getD b 0 > pts.getD a 0 then pts.getD b 0 else pts.getD a 0) - pts.getD c 0) = ((((if pts.getD b 0 > pts.getD a 0 then pts.getD b 0 else pts.getD a 0) - pts.getD c 0).toNat : Nat) : Int) := by
          rcases hh with rfl | rfl <;> split <;> omega
        rw [e]
        refine shl_ok (nn c) ?_
        rcases hh with rfl | rfl <;> split <;> omega
      · exact .inr hh
    have sa := (sh a la').resolve_right (fun z => z (.inl rfl))
    have sb := (sh b lb').resolve_right (fun z => z (.inr rfl))
    rcases hr2 with ⟨rfl, rfl⟩ | ⟨rfl, rfl⟩
    · refine ⟨_, rfl, ra, _, rfl, SqT.of hra, rfl, _, _, rfl, _, _, rfl, _, _, rfl, rfl, _, rfl, _, rfl, pa, _, _, _, rfl, rfl, SqL.of hpa, ints_at la', _, rfl, _, rfl, pa, _, _, _, rfl, rfl, SqL.of hpa, ints_at lb', _, _, rfl, _, rfl, _, rfl, na, _, _, _, rfl, rfl, SqL.of hna, ints_at la, _, rfl, _, rfl, _, rfl, pa, _, _, _, rfl, rfl, SqL.of hpa, ints_at la', _, _, rfl, rfl, _, _, rfl, rfl, sa, _, rfl, _, rfl, na, _, _, _, rfl, rfl, SqL.of hna, ints_at lb, _, rfl, _, rfl, _, rfl, pa, _, _, _, rfl, rfl, SqL.of hpa, ints_at lb', _, _, rfl, rfl, _, _, rfl, rfl, sb, _, rfl, rfl, _, rfl, ?_⟩
      refine iteC (d := true) (decide_eq_true rfl) (iteT ⟨_, rfl, _, rfl, _, _, rfl, rfl, ?_⟩)
      rw [sumN_p] at q
      exact q
    · refine ⟨_, rfl, ra, _, rfl, SqT.of hra, rfl, _, _, rfl, _, _, rfl, _, _, rfl, rfl, _, rfl, _, rfl, pa, _, _, _, rfl, rfl, SqL.of hpa, ints_at la', _, rfl, _, rfl, pa, _, _, _, rfl, rfl, SqL.of hpa, ints_at lb', _, _, rfl, _, rfl, _, rfl, na, _, _, _, rfl, rfl, SqL.of hna, ints_at la, _, rfl, _, rfl, _, rfl, pa, _, _, _, rfl, rfl, SqL.of hpa, ints_at la', _, _, rfl, rfl, _, _, rfl, rfl, sa, _, rfl, _, rfl, na, _, _, _, rfl, rfl, SqL.of hna, ints_at lb, _, rfl, _, rfl, _, rfl, pa, _, _, _, rfl, rfl, SqL.of hpa, ints_at lb', _, _, rfl, rfl, _, _, rfl, rfl, sb, _, rfl, rfl, _, rfl, ?_⟩
      refine iteC (d := false) (decide_eq_false (fun z => absurd (V.str.inj z) (by decide +kernel))) (iteF ⟨_, rfl, _, rfl, _, _, rfl, rfl, ?_⟩)
      rw [sumN_l] at q
      exact q
theorem sc_number_of_row : FnScope ["row", "numbers", "forms", "points", "kind"] ["row", "numbers", "forms", "points"] (defScope s_number_of_row) := ⟨rfl, rfl, rfl, by decide +kernel, rfl, by decide +kernel, by decide +kernel⟩
theorem ok_number_of_row {f : Addr} {fd : FuncData} {C : Addr} (T : FTxt K mg C) (F : Fun K "number_of_row" "number_of_row" s_number_of_row f fd) (m_kept_at : CalM P w K mg base 5 C "kept_at" ["self", "number", "point"] (spKeptAt C)) (c_sum_number : Cal P w K mg base 1 "sum_number" ["row", "numbers", "points"] spSumNum) : FnOk P w K mg base CX0 6 f fd ["row", "numbers", "forms", "points"] (spNumRow C) := by
  refine F.ok sc_number_of_row (fun vs H Q E h => ?_) (fun cdv A outer s H vs Q E hr h => ?_)
  · obtain ⟨ra, na, fa, pa, r, fv, fs, hc, x, st, nums, pts, rfl, _⟩ := h
    rfl
  · obtain ⟨ra, na, fa, pa, r, fv, fs, hc, x, st, nums, pts, rfl, hra, ki, ko, hna, hfa, hf, hpa, hok, lp, hn, hp, q⟩ := h
    refine ⟨_, (pss_cons (ps_set (i := 4) sc_number_of_row.nd rfl (.inl rfl) (pe_ix ix_tup (pv 0) pe_int (fun _ _ => rfl)))
      (pss_cons (ps_if (pt_cmpR op_eq (pv 4) pe_str (nomark _)) (pss_one (ps_ret (pe_op op_mul (pe_ix ix_tup (pv 0) pe_int (fun _ _ => rfl)) (pe_ix ix_list (pv 1) (pe_ix ix_tup (pv 0) pe_int (fun _ _ => rfl)) (fun _ _ => rfl))))) pss_nil)
      (pss_cons (ps_if (pt_cmpR op_eq (pv 4) pe_str (nomark _)) (pss_one (ps_ret (pe_ix ix_list (pv 1) (pe_ix ix_tup (pv 0) pe_int (fun _ _ => rfl)) (fun _ _ => rfl)))) pss_nil)
      (pss_cons (ps_if (pt_cmpR op_eq (pv 4) pe_str (nomark _)) (pss_one (ps_ret (pe_ix ix_tup (pe_calm (pe_ix ix_list (pv 2) (pe_ix ix_tup (pv 0) pe_int (fun _ _ => rfl)) (fun _ _ => rfl)) T.cl m_kept_at hr (pa_cons (pe_ix ix_list (pv 1) (pe_ix ix_tup (pv 0) pe_int (fun _ _ => rfl)) (fun _ _ => rfl)) (pa_cons (pe_ix ix_list (pv 3) (pe_ix ix_tup (pv 0) pe_int (fun _ _ => rfl)) (fun _ _ => rfl)) pa_nil))) pe_int (fun _ _ => rfl)))) pss_nil)
      (pss_one (ps_ret (pe_cal c_sum_number hr (pa_cons (pv 0) (pa_cons (pv 1) (pa_cons (pv 3) pa_nil)))))))))), ?_⟩
    have nn : ∀ c, (nums.getD c 0).natAbs < 2 ^ 900000 := fun c => getD_lt hn (Nat.pow_pos (by decide))
    match r, ki, ko, hok, hra, q with
    | .inn, ki, _, _, _, _ => exact absurd rfl ki
    | .old _, _, ko, _, _, _ => exact absurd rfl ko
    | .times f m a, _, _, hok, hra, q =>
      obtain ⟨h1, h2, h3⟩ := hok
      refine ⟨_, rfl, ra, _, 0, .str _, rfl, rfl, SqT.of hra, a0, _, rfl, rfl, _, rfl, iteC (d := true) (decide_eq_true rfl) (iteT ?_)⟩
      exact ⟨_, rfl, ra, _, 1, .int f, rfl, rfl, SqT.of hra, a1, _, rfl, _, rfl, ra, _, 3, .int a, rfl, rfl, SqT.of hra, atI_nat (j := 3) rfl, na, _, _, _, rfl, rfl, SqL.of hna, ints_at h3, _, _, rfl, rfl, .inl ⟨by omega, by omega⟩, q _ (Same.refl _)⟩
    | .move m a, _, _, hok, hra, q =>
      obtain ⟨h1, h2⟩ := hok
      refine ⟨_, rfl, ra, _, 0, .str _, rfl, rfl, SqT.of hra, a0, _, rfl, rfl, _, rfl, iteC (d := false) (decide_eq_false (fun z => absurd (V.str.inj z) (by decide +kernel))) (iteF ⟨_, rfl, rfl, _, rfl, iteC (d := true) (decide_eq_true rfl) (iteT ?_)⟩)⟩
      exact ⟨_, rfl, _, rfl, ra, _, 2, .int a, rfl, rfl, SqT.of hra, a2, na, _, _, _, rfl, rfl, SqL.of hna, ints_at h2, q _ (Same.refl _)⟩
    | .keep f a, _, _, hok, hra, q =>
      obtain ⟨h1, h2⟩ := hok
      obtain ⟨p, ep, fp⟩ := hf.frm h1
      obtain ⟨dx, ho⟩ := fp.ob
      have h3 : a < pts.length := by omega
      obtain ⟨p0, p1⟩ := hp (pts.getD a 0) (by
        rw [List.getD_eq_getElem?_getD, List.getElem?_eq_getElem h3]
        exact List.getElem_mem _)
      refine ⟨_, rfl, ra, _, 0, .str _, rfl, rfl, SqT.of hra, a0, _, rfl, rfl, _, rfl, iteC (d := false) (decide_eq_false (fun z => absurd (V.str.inj z) (by decide +kernel))) (iteF ⟨_, rfl, rfl, _, rfl, iteC (d := false) (decide_eq_false (fun z => absurd (V.str.inj z) (by decide +kernel))) (iteF ⟨_, rfl, rfl, _, rfl, iteC (d := true) (decide_eq_true rfl) (iteT ?_)⟩)⟩)⟩
      refine ⟨_, rfl, _, rfl, ra, _, 1, .int f, rfl, rfl, SqT.of hra, a1, fa, _, _, .ref p, rfl, rfl, SqL.of hfa, atI_nat ep, p, dx, _, rfl, ho, fl_no (by decide +kernel), _, rfl, _, rfl, ra, _, 2, .int a, rfl, rfl, SqT.of hra, a2, na, _, _, _, rfl, rfl, SqL.of hna, ints_at h2, _, rfl, _, rfl, ra, _, 2, .int a, rfl, rfl, SqT.of hra, a2, pa, _, _, _, rfl, rfl, SqL.of hpa, ints_at h3, p, _, _, _, _, _, _, rfl, fp, p0, p1, nn a, fun t H' ht s h_t => ?_⟩
      exact ⟨t, _, 0, _, rfl, rfl, SqT.of h_t, a0, q _ s⟩
    | .plus a b, _, _, hok, hra, q =>
      obtain ⟨h1, h2⟩ := hok
      refine ⟨_, rfl, ra, _, 0, .str _, rfl, rfl, SqT.of hra, a0, _, rfl, rfl, _, rfl, iteC (d := false) (decide_eq_false (fun z => absurd (V.str.inj z) (by decide +kernel))) (iteF ⟨_, rfl, rfl, _, rfl, iteC (d := false) (decide_eq_false (fun z => absurd (V.str.inj z) (by decide +kernel))) (iteF ⟨_, rfl, rfl, _, rfl, iteC (d := false) (decide_eq_false (fun z => absurd (V.str.inj z) (by decide +kernel))) (iteF ?_)⟩)⟩)⟩
      exact ⟨_, rfl, _, rfl, _, rfl, ra, na, pa, .plus a b, a, b, 1, nums, pts, rfl, hra, .inl ⟨rfl, rfl⟩, hna, hpa, h1, h2, lp, hn, hp, q _ (Same.refl _)⟩
    | .less a b, _, _, hok, hra, q =>
      obtain ⟨h1, h2⟩ := hok
      refine ⟨_, rfl, ra, _, 0, .str _, rfl, rfl, SqT.of hra, a0, _, rfl, rfl, _, rfl, iteC (d := false) (decide_eq_false (fun z => absurd (V.str.inj z) (by decide +kernel))) (iteF ⟨_, rfl, rfl, _, rfl, iteC (d := false) (decide_eq_false (fun z => absurd (V.str.inj z) (by decide +kernel))) (iteF ⟨_, rfl, rfl, _, rfl, iteC (d := false) (decide_eq_false (fun z => absurd (V.str.inj z) (by decide +kernel))) (iteF ?_)⟩)⟩)⟩
      exact ⟨_, rfl, _, rfl, _, rfl, ra, na, pa, .less a b, a, b, (-1), nums, pts, rfl, hra, .inr ⟨rfl, rfl⟩, hna, hpa, h1, h2, lp, hn, hp, q _ (Same.refl _)⟩
theorem sc_swept : FnScope ["net", "heard", "held", "rule", "forms", "points", "done", "row"] ["net", "heard", "held", "rule"] (defScope s_swept) := ⟨rfl, rfl, rfl, by decide +kernel, rfl, by decide +kernel, by decide +kernel⟩
theorem ok_swept {f : Addr} {fd : FuncData} {C CN fR : Addr} {fdR : FuncData} (okR : FnOk P w K mg base CX0 6 fR fdR ["row", "numbers", "forms", "points"] (spNumRow C)) (kR : PySem.W.keepIn K (.ref fR) = true) (bR : Binds K fdR ["row", "numbers", "forms", "points"] []) (TN : NTxt K mg CN) (F : Fun K "swept" "swept" s_swept f fd) (n_forms : CalM P w K mg base 1 CN "forms" ["self"] (spFormsM C CN)) (n_points : CalM P w K mg base 1 CN "points" ["self"] (spPtsM C CN)) (n_rows : CalM P w K mg base 1 CN "rows" ["self"] (spRowsM C CN)) : FnOk P w K mg base CX0 7 f fd ["net", "heard", "held", "rule"] (spSwept C CN fR) := by
  refine F.ok sc_swept (fun vs H Q E h => ?_) (fun cdv A outer s H vs Q E hr h => ?_)
  · obtain ⟨p, sa, n, x, st, rfl, _⟩ := h
    rfl
  · obtain ⟨p, sa, n, x, st, rfl, hn, hsa, hls, ko, q⟩ := h
    refine ⟨_, (pss_cons (ps_set (i := 4) sc_swept.nd rfl (.inl rfl) (pe_calm0 (pv 0) TN.cl n_forms hr))
      (pss_cons (ps_set (i := 5) sc_swept.nd rfl (.inl rfl) (pe_calm0 (pv 0) TN.cl n_points hr))
      (pss_cons (ps_set (i := 6) sc_swept.nd rfl (.inl rfl) (pe_lst pa_nil))
      (pss_cons (ps_for PassesOwn.never rfl (pi_list (pe_calm0 (pv 0) TN.cl n_rows hr)) (pg_name (i := 7) sc_swept.nd rfl (.inl rfl)) (pss_one (ps_if (pt_cmpR op_eq (pe_ix ix_tup (pv 7) pe_int (fun _ _ => rfl)) pe_str (nomark _)) (pss_one (ps_expr (pe_bm PySem.F.plainAttrs_list PySem.F.slot_list_append PySem.F.type_list_append mt_append (pv 6) (pa_cons (pv 1) pa_nil)))) (pss_one (ps_if (pt_cmpR op_eq (pe_ix ix_tup (pv 7) pe_int (fun _ _ => rfl)) pe_str (nomark _)) (pss_one (ps_expr (pe_bm PySem.F.plainAttrs_list PySem.F.slot_list_append PySem.F.type_list_append mt_append (pv 6) (pa_cons (pe_ix ix_tup (pv 2) (pe_ix ix_tup (pv 7) pe_int (fun _ _ => rfl)) (fun _ _ => rfl)) pa_nil)))) (pss_one (ps_expr (pe_bm PySem.F.plainAttrs_list PySem.F.slot_list_append PySem.F.type_list_append mt_append (pv 6) (pa_cons (pe_callL (i := 3) okR hr rfl (Or.inl rfl) kR bR .nil pass0 (pa_cons (pv 7) (pa_cons (pv 6) (pa_cons (pv 4) (pa_cons (pv 5) pa_nil))))) pa_nil)))))))))
      (pss_one (ps_ret (pv 6))))))), ?_⟩
    obtain ⟨ok, dx, fl, rl, hl, pl, fv, rv, hv, b⟩ := id hn
    refine ⟨_, rfl, p, dx, _, rfl, b.ob, nl_no (by decide +kernel), p, n, rfl, hn, fun fl2 fv2 H1 hf1 s1 h_fl2 hff => ?_⟩
    refine ⟨_, rfl, p, dx, _, rfl, s1 _ _ b.ob, nl_no (by decide +kernel), p, n, rfl, hn.same s1, fun pl2 H2 hp2 s2 h_pl2 => ?_⟩
    refine ⟨(by show 0 ≤ sizeLine; decide), fun dl hdl => ?_⟩
    generalize hG : upd _ dl _ = H3
    obtain ⟨s3, h_dl⟩ := upd_gen hG hdl
    have S3 := (s1.trans s2).trans s3
    have hd0 : H dl = none := (s1.trans s2).free hdl
    refine ⟨_, rfl, p, dx, _, rfl, S3 _ _ b.ob, nl_no (by decide +kernel), p, n, rfl, hn.same S3, fun rl2 rv2 H4 hr4 s4 h_rl2 hrr => ?_⟩
    have S4 := S3.trans s4
    have ndf : fl2 ≠ dl := ne_of_none (s2 _ _ h_fl2) hdl
    have ndp : pl2 ≠ dl := ne_of_none h_pl2 hdl
    have nrd : rl2 ≠ dl := (ne_of_none h_dl hr4).symm
    replace h_dl := s4 _ _ h_dl
    replace h_fl2 := s4 _ _ (s3 _ _ (s2 _ _ h_fl2))
    replace h_pl2 := s4 _ _ (s3 _ _ h_pl2)
    replace hff := hff.same ((s2.trans s3).trans s4)
    have ll := hrr.len
    rw [List.length_map] at ll
    have hl60 := ok.r2
    have lpt := pts_len n
    refine ⟨rl2, rfl, ⟨_, SqL.of h_rl2⟩, ?_⟩
    refine for_it (walk_list (K := K) (a := rl2) (xs := rv2)) (fun i σ G => ∃ y : Option V, σ = [some (.ref p), some (.int x), some (.ref sa), some (.ref fR), some (.ref fl2), some (.ref pl2), some (.ref dl), y] ∧ SameBut dl H4 G ∧ G dl = some (.lst ((accL (numRow n.fs n.pts x st) (n.rows.take i)).map V.int))) ⟨none, rfl, SameBut.refl _ _, h_dl⟩ (fun i σ G hi hP => ?_) (fun i v σ G G' hi hP hY => ?_) (fun σ G hP => ?_)
    · obtain ⟨y, rfl, B, _⟩ := hP
      exact SqL.of (B _ _ nrd h_rl2)
    · obtain ⟨y, rfl, B, hd⟩ := hP
      obtain ⟨rfl, hx⟩ := hY
      obtain ⟨rp, xs, rfl, ex, hrp⟩ := hrr.get hx
      rw [List.getElem?_map] at ex
      obtain ⟨r, er, rfl⟩ := Option.map_eq_some_iff.mp ex
      have il := (List.getElem?_eq_some_iff.mp er).1
      replace hrp := B _ _ (ne_of hrp h_dl (fun z => nomatch z)) hrp
      have la : (accL (numRow n.fs n.pts x st) (n.rows.take i)).length = i := by
        rw [accL_len, List.length_take]
        omega
      have nx := accL_next (g := numRow n.fs n.pts x st) er
      have small : ((accL (numRow n.fs n.pts x st) (n.rows.take i)).map V.int).length < sizeLine := by
        rw [List.length_map, la]
        exact sl_lt (by omega)
      have step : ∀ (G2 : Hp), Same G' G2 → ∃ y : Option V, [some (V.ref p), some (.int x), some (.ref sa), some (.ref fR), some (.ref fl2), some (.ref pl2), some (.ref dl), some (.ref rp)] = [some (.ref p), some (.int x), some (.ref sa), some (.ref fR), some (.ref fl2), some (.ref pl2), some (.ref dl), y] ∧ SameBut dl H4 (upd G2 dl (.lst ((accL (numRow n.fs n.pts x st) (n.rows.take i)).map V.int ++ [V.int (numRow n.fs n.pts x st (accL (numRow n.fs n.pts x st) (n.rows.take i)) r)]))) ∧ (upd G2 dl (.lst ((accL (numRow n.fs n.pts x st) (n.rows.take i)).map V.int ++ [V.int (numRow n.fs n.pts x st (accL (numRow n.fs n.pts x st) (n.rows.take i)) r)]))) dl = some (.lst ((accL (numRow n.fs n.pts x st) (n.rows.take (i + 1))).map V.int)) := fun G2 s => by
        refine ⟨_, rfl, (B.trans (.of s)).trans SameBut.upd, ?_⟩
        rw [upd_same, nx, List.map_append]
        rfl
      refine ⟨_, rfl, rp, _, 0, .str r.kd.s, rfl, rfl, SqT.of hrp, atI_nat (j := 0) r.vs0, rfl, _, rfl, ?_⟩
      by_cases k1 : r.kd = .inn
      · refine iteC (d := true) (by rw [k1]; exact decide_eq_true rfl) (iteT ?_)
        match r, k1, step with
        | .inn, _, step => exact ⟨_, rfl, .inl ⟨rfl, _, SqL.of hd⟩, _, rfl, dl, _, _, rfl, rfl, hd, small, step _ (Same.refl _)⟩
      refine iteC (d := false) (decide_eq_false (fun z => kd_ne _ _ k1 (V.str.inj z))) (iteF ?_)
      refine ⟨_, rfl, rp, _, 0, .str r.kd.s, rfl, rfl, SqT.of hrp, atI_nat (j := 0) r.vs0, rfl, _, rfl, ?_⟩
      by_cases k2 : r.kd = .old
      · refine iteC (d := true) (by rw [k2]; exact decide_eq_true rfl) (iteT ?_)
        have hsa2 := B _ _ (ne_of (S4 _ _ hsa) h_dl (fun z => nomatch z)) (S4 _ _ hsa)
        match r, k2, step, hrp, ok.ro i r er with
        | .old k, _, step, hrp, hk =>
          have hk' : k < st.length := by rw [hls]; exact hk
          exact ⟨_, rfl, .inl ⟨rfl, _, SqL.of hd⟩, _, rfl, _, rfl, rp, _, 1, .int k, rfl, rfl, SqT.of hrp, a1, sa, _, _, _, rfl, rfl, SqT.of hsa2, ints_at hk', dl, _, _, rfl, rfl, hd, small, step _ (Same.refl _)⟩
      refine iteC (d := false) (decide_eq_false (fun z => kd_ne _ _ k2 (V.str.inj z))) (iteF ?_)
      refine ⟨_, rfl, .inl ⟨rfl, _, SqL.of hd⟩, rfl, _, rfl, _, rfl, _, rfl, _, rfl, rp, dl, fl2, pl2, r, fv2, n.fs, n.holds.length, x, st, _, n.pts, rfl, hrp, k1, k2, hd, B _ _ ndf h_fl2, hff.butL B h_dl, B _ _ ndp h_pl2, by rw [la]; exact ok.ro i r er, by omega, fun k hk => ko.pre hk, ok.po, fun G2 s => ?_⟩
      exact ⟨dl, _, _, rfl, rfl, s _ _ hd, small, step _ s⟩
    · obtain ⟨y, rfl, B, hd⟩ := hP
      rw [ll, List.take_length] at hd
      exact ⟨_, rfl, q dl _ hd0 (same_but S4 B hd0) hd⟩
end
end E1

namespace E1
open PySem PySem.Spec PyProof.Rows L2
section
variable {P : Program} {w : World} {K : PySem.W.Frag} {mg : Str → Option Value} {base : Heap}
theorem sc_is_state : FnScope ["net", "thing", "holds", "forms", "hold", "word"] ["net", "thing"] (defScope s_is_state) := ⟨rfl, rfl, rfl, by decide +kernel, rfl, by decide +kernel, by decide +kernel⟩
theorem ok_is_state {f : Addr} {fd : FuncData} {C CN : Addr} (T : FTxt K mg C) (TN : NTxt K mg CN) (F : Fun K "is_state" "is_state" s_is_state f fd) (z : Zs mg) (n_forms : CalM P w K mg base 1 CN "forms" ["self"] (spFormsM C CN)) (n_holds : CalM P w K mg base 1 CN "holds" ["self"] (spHoldsM C CN)) (m_has : CalM P w K mg base 2 C "has" ["self", "thing"] (spHas K C)) : FnOk P w K mg base CX0 3 f fd ["net", "thing"] (spIsState C CN) := by
  refine F.ok sc_is_state (fun vs H Q E h => ?_) (fun cdv A outer s H vs Q E hr h => ?_)
  · obtain ⟨p, sa, n, st, rfl, _⟩ := h
    rfl
  · obtain ⟨p, sa, n, st, rfl, hn, hsa, so, q⟩ := h
    refine ⟨_, (pss_cons (ps_set (i := 2) sc_is_state.nd rfl (.inl rfl) (pe_calm0 (pv 0) TN.cl n_holds hr))
      (pss_cons (ps_if (PW.pt (pw_or (pt_not (pt_val (pe_callB call_isi (by rfl) z.isinstance (by decide +kernel) (pa_cons (pv 1) (pa_cons (pe_bltn (v := .ty "tuple") (by rfl) z.tuple (by decide +kernel) rfl) pa_nil))))) (pw_or1 (pt_cmpR op_ne (pe_callB call_len_seq (by rfl) z.len PySem.boot_len (pa_cons (pv 1) pa_nil)) (pe_callB call_len_seq (by rfl) z.len PySem.boot_len (pa_cons (pv 2) pa_nil)) (nomark _))))) (pss_one (ps_ret pe_bl)) pss_nil)
      (pss_cons (ps_set (i := 3) sc_is_state.nd rfl (.inr rfl) (pe_calm0 (pv 0) TN.cl n_forms hr))
      (pss_one (ps_ret (pe_callB (cr_all rfl) (by rfl) z.all (by decide +kernel) (pa_cons (pe_lc (own := [("hold", 4), ("word", 5)]) (g := gTup K 2 (gCons (gName 4) (gCons (gName 5) gNil))) (tt := tYes) (te := tMeth C "has" (spHas K C) [] E0 (tOp (rIxL K) (tVar 3) (tOp (rIxT K) (tVar 4) (tC (.int 0)))) (tCons (tVar 5) tNil)) (by rfl) sc_is_state.nd (pi_zipM (by rfl) z.zip (pa_cons (pv 2) (pa_cons (pv 1) pa_nil))) (blkOk_by (own := [("hold", 4), ("word", 5)]) (N := ["net", "thing", "holds", "forms", "hold", "word"]) (sc := defScope s_is_state) (by decide +kernel)) (fun _ _ _ _ _ => by exact (pg_tup (by rfl) (pgs_cons (pg_name (i := 4) sc_is_state.nd rfl (.inl rfl)) (pgs_cons (pg_name (i := 5) sc_is_state.nd rfl (.inl rfl)) pgs_nil)))) (fun _ _ _ _ _ => by exact pts_nil) (fun _ _ _ _ _ => by exact (pe_calm (pe_ix ix_list (pv 3) (pe_ix ix_tup (pv 4) pe_int (fun _ _ => rfl)) (fun _ _ => rfl)) T.cl m_has hr (pa_cons (pv 5) pa_nil)))) pa_nil))))))), ?_⟩
    obtain ⟨ok, dx, fl, rl, hl, pl, fv, rv, hv, b⟩ := id hn
    have sl := so.len
    have h6 := ok.h2
    refine ⟨_, rfl, p, dx, _, rfl, b.ob, nl_no (by decide +kernel), p, n, rfl, hn, fun hl2 hv2 H1 hf1 s1 h_hl2 hhh => ?_⟩
    have lh := hhh.len
    rw [List.length_map] at lh
    refine ⟨_, rfl, _, .ty "tuple", _, _, true, rfl, .ty _, .base (.tup (s1 _ _ hsa)), kit_ty (by decide +kernel), _, rfl, iteF ⟨_, rfl, sa, _, rfl, .inr (SqT.of (s1 _ _ hsa)), _, rfl, hl2, _, rfl, .inl (SqL.of h_hl2), rfl, _, rfl, iteC (d := false) (by rw [List.length_map, sl, lh, decide_eq_true rfl]; rfl) (iteF ?_)⟩⟩
    refine ⟨_, rfl, p, dx, _, rfl, s1 _ _ b.ob, nl_no (by decide +kernel), p, n, rfl, hn.same s1, fun fl2 fv2 H2 hf2 s2 h_fl2 hff => ?_⟩
    have S2 := s1.trans s2
    have hsa2 := S2 _ _ hsa
    have hhl2 := s2 _ _ h_hl2
    refine ⟨_, rfl, _, rfl, hl2, sa, hv2, st.map V.int, rfl, SqL.of hhl2, SqT.of hsa2, fun D hD => ?_⟩
    refine lc_it (walk_zipM (K := K) (a := hl2) (b := sa) (xs := hv2) (ys := st.map V.int) (by rw [List.length_map]; omega)) (fun i G => Same H2 G ∧ G D = some (.lst ((List.replicate i true).map V.bl))) ⟨same_new hD, upd_same⟩ (fun i G _ hP => ⟨SqL.of (hP.1 _ _ hhl2), SqT.of (hP.1 _ _ hsa2)⟩) (fun i x G G' hi hP hY => ?_) (fun G hP => ?_)
    · obtain ⟨s3, hd⟩ := hP
      obtain ⟨Tp, u, v, rfl, nT, rfl, e1, e2⟩ := hY
      obtain ⟨hp, xs, rfl, ex, hhp⟩ := hhh.get e1
      replace e2 : (st.map V.int)[i]? = some v := e2
      rw [List.getElem?_map] at ex e2
      obtain ⟨hh, eh, rfl⟩ := Option.map_eq_some_iff.mp ex
      obtain ⟨k, ek, rfl⟩ := Option.map_eq_some_iff.mp e2
      have kl := (ok.ho hh (List.mem_of_getElem? eh)).1
      obtain ⟨fp, efp, hfp⟩ := hff.frm kl
      have sN := same_new (o := .tup [.ref hp, .int k]) nT
      have S3 := s3.trans sN
      have ffp := FormAt.same hfp S3
      obtain ⟨dxf, hof⟩ := ffp.ob
      refine ⟨Tp, _, rfl, SqT.of upd_same, rfl, _, _, rfl, _, _, rfl, rfl, rfl, ?_⟩
      refine ⟨_, rfl, _, rfl, hp, _, 0, .int hh.k, rfl, rfl, SqT.of (S3 _ _ (s2 _ _ hhp)), a0, fl2, _, _, .ref fp, rfl, rfl, SqL.of (S3 _ _ h_fl2), atI_nat efp, fp, dxf, _, rfl, hof, fl_no (by decide +kernel), _, rfl, fp, _, _, _, _, .int k, _, rfl, ffp, .inl ⟨k, rfl, rfl⟩, _, sN _ _ hd, ?_, fun c o e => ?_, ?_⟩
      · rw [List.length_map, List.length_replicate]
        exact sl_lt (by omega)
      · rw [upd_ne (ne_of_none e hD)]
        exact S3 _ _ e
      · rw [upd_same, so.inr i hh k eh ek, List.replicate_succ', List.map_append]
        rfl
    · obtain ⟨s3, hd⟩ := hP
      refine ⟨D, _, rfl, SqL.of hd, ?_⟩
      rw [show (List.replicate hv2.length true).all id = true by rw [List.all_eq_true]; exact fun x hx => (List.mem_replicate.mp hx).2]
      exact q _ (S2.trans s3)
theorem sc_check_state : FnScope ["net", "state"] ["net", "state"] (defScope s_check_state) := ⟨rfl, rfl, rfl, by decide +kernel, rfl, by decide +kernel, by decide +kernel⟩
theorem ok_check_state {f : Addr} {fd : FuncData} {C CN : Addr} (F : Fun K "check_state" "check_state" s_check_state f fd) (c_is_state : Cal P w K mg base 3 "is_state" ["net", "thing"] (spIsState C CN)) : FnOk P w K mg base CX0 4 f fd ["net", "state"] (spCkState C CN) := by
  refine F.ok sc_check_state (fun vs H Q E h => ?_) (fun cdv A outer s H vs Q E hr h => ?_)
  · obtain ⟨p, sa, n, st, rfl, _⟩ := h
    rfl
  · obtain ⟨p, sa, n, st, rfl, hn, hsa, so, q⟩ := h
    refine ⟨_, (pss_one (ps_if (pt_not (pt_val (pe_cal c_is_state hr (pa_cons (pv 0) (pa_cons (pv 1) pa_nil))))) (pss_one ps_never) pss_nil)), ?_⟩
    exact ⟨_, rfl, _, rfl, p, sa, n, st, rfl, hn, hsa, so, fun H' s => ⟨_, rfl, iteF (q _ s)⟩⟩
theorem sc_check_word : FnScope ["net", "word"] ["net", "word"] (defScope s_check_word) := ⟨rfl, rfl, rfl, by decide +kernel, rfl, by decide +kernel, by decide +kernel⟩
theorem ok_check_word {f : Addr} {fd : FuncData} {C CN : Addr} (T : FTxt K mg C) (F : Fun K "check_word" "check_word" s_check_word f fd) (c_enter_form : Cal P w K mg base 2 "enter_form" ["net"] (spEnterForm C CN)) (m_has : CalM P w K mg base 2 C "has" ["self", "thing"] (spHas K C)) : FnOk P w K mg base CX0 3 f fd ["net", "word"] (spCkWord C CN) := by
  refine F.ok sc_check_word (fun vs H Q E h => ?_) (fun cdv A outer s H vs Q E hr h => ?_)
  · obtain ⟨p, n, x, rfl, _⟩ := h
    rfl
  · obtain ⟨p, n, x, rfl, hn, hi, q⟩ := h
    refine ⟨_, (pss_one (ps_if (pt_not (pt_val (pe_calm (pe_cal c_enter_form hr (pa_cons (pv 0) pa_nil)) T.cl m_has hr (pa_cons (pv 1) pa_nil)))) (pss_one ps_never) pss_nil)), ?_⟩
    refine ⟨_, rfl, p, n, rfl, hn, fun fp H1 s1 hf => ?_⟩
    obtain ⟨dx, ho⟩ := hf.ob
    refine ⟨fp, dx, _, rfl, ho, fl_no (by decide +kernel), _, rfl, fp, _, _, _, _, .int x, _, rfl, hf, .inl ⟨x, rfl, rfl⟩, _, rfl, ?_⟩
    rw [hi]
    exact iteF (q _ s1)
theorem sc_state_behind : FnScope ["net", "numbers", "hold"] ["net", "numbers"] (defScope s_state_behind) := ⟨rfl, rfl, rfl, by decide +kernel, rfl, by decide +kernel, by decide +kernel⟩
theorem ok_state_behind {f : Addr} {fd : FuncData} {C CN : Addr} (TN : NTxt K mg CN) (F : Fun K "state_behind" "state_behind" s_state_behind f fd) (z : Zs mg) (n_holds : CalM P w K mg base 1 CN "holds" ["self"] (spHoldsM C CN)) : FnOk P w K mg base CX0 2 f fd ["net", "numbers"] (spBehind C CN) := by
  refine F.ok sc_state_behind (fun vs H Q E h => ?_) (fun cdv A outer s H vs Q E hr h => ?_)
  · obtain ⟨p, na, n, nums, rfl, _⟩ := h
    rfl
  · obtain ⟨p, na, n, nums, rfl, hn, hna, ln, q⟩ := h
    refine ⟨_, (pss_one (ps_ret (pe_callTy call_tuple_of (by rfl) z.tuple (by decide +kernel) (pa_cons (pe_lc (own := [("hold", 2)]) (g := gName 2) (tt := tYes) (te := (tOp (rIxL K) (tVar 1) (tOp (rIxT K) (tVar 2) (tC (.int 2))))) (by rfl) sc_state_behind.nd (pi_list (pe_calm0 (pv 0) TN.cl n_holds hr)) (blkOk_by (own := [("hold", 2)]) (N := ["net", "numbers", "hold"]) (sc := defScope s_state_behind) (by decide +kernel)) (fun _ _ _ _ _ => by exact (pg_name (i := 2) sc_state_behind.nd rfl (.inl rfl))) (fun _ _ _ _ _ => by exact pts_nil) (fun _ _ _ _ _ => by exact (pe_ix ix_list (pv 1) (pe_ix ix_tup (pv 2) pe_int (fun _ _ => rfl)) (fun _ _ => rfl)))) pa_nil)))), ?_⟩
    obtain ⟨ok, dx, fl, rl, hl, pl, fv, rv, hv, b⟩ := id hn
    have h6 := ok.h2
    refine ⟨_, rfl, p, dx, _, rfl, b.ob, nl_no (by decide +kernel), p, n, rfl, hn, fun hl2 hv2 H1 hf1 s1 h_hl2 hhh => ?_⟩
    have lh := hhh.len
    rw [List.length_map] at lh
    refine ⟨hl2, rfl, ⟨_, SqL.of h_hl2⟩, fun D hD => ?_⟩
    refine lc_it (walk_list (K := K) (a := hl2) (xs := hv2)) (fun i G => Same H1 G ∧ G D = some (.lst (((n.holds.take i).map fun h => nums.getD h.l 0).map V.int))) ⟨same_new hD, upd_same⟩ (fun i G _ hP => SqL.of (hP.1 _ _ h_hl2)) (fun i x G G' hi hP hY => ?_) (fun G hP => ?_)
    · obtain ⟨s3, hd⟩ := hP
      obtain ⟨rfl, e1⟩ := hY
      obtain ⟨hp, xs, rfl, ex, hhp⟩ := hhh.get e1
      rw [List.getElem?_map] at ex
      obtain ⟨hh, eh, rfl⟩ := Option.map_eq_some_iff.mp ex
      obtain ⟨a, ea⟩ := (ok.ho hh (List.mem_of_getElem? eh)).2.2
      have al := (List.getElem?_eq_some_iff.mp ea).1
      refine ⟨rfl, _, rfl, _, rfl, hp, _, 2, .int hh.l, rfl, rfl, SqT.of (s3 _ _ hhp), a2, na, _, _, _, rfl, rfl, SqL.of ((s1.trans s3) _ _ hna), ints_at (by omega), _, hd, ?_, fun c o e => ?_, ?_⟩
      · rw [List.length_map, List.length_map, List.length_take]
        exact sl_lt (by omega)
      · rw [upd_ne (ne_of_none e hD)]
        exact s3 _ _ e
      · rw [upd_same, List.take_add_one, eh, List.map_append, List.map_append]
        rfl
    · obtain ⟨s3, hd⟩ := hP
      rw [lh, List.take_length] at hd
      refine ⟨D, _, rfl, .inl ⟨SqL.of hd, fun t ht => ?_⟩⟩
      generalize hG : upd _ t _ = G2
      obtain ⟨s4, h_t⟩ := upd_gen hG ht
      exact q t _ ((s1.trans s3).free ht) ((s1.trans s3).trans s4) h_t
theorem sc_turn_of : FnScope ["net", "state", "word", "numbers"] ["net", "state", "word"] (defScope s_turn_of) := ⟨rfl, rfl, rfl, by decide +kernel, rfl, by decide +kernel, by decide +kernel⟩
theorem ok_turn_of {f : Addr} {fd : FuncData} {C CN fR : Addr} (gR : mg "number_of_row" = some (.ref fR)) (F : Fun K "turn_of" "turn_of" s_turn_of f fd) (c_swept : Cal P w K mg base 7 "swept" ["net", "heard", "held", "rule"] (spSwept C CN fR)) (c_state_behind : Cal P w K mg base 2 "state_behind" ["net", "numbers"] (spBehind C CN)) : FnOk P w K mg base CX0 8 f fd ["net", "state", "word"] (spTurnOf C CN) := by
  refine F.ok sc_turn_of (fun vs H Q E h => ?_) (fun cdv A outer s H vs Q E hr h => ?_)
  · obtain ⟨p, sa, n, x, st, rfl, _⟩ := h
    rfl
  · obtain ⟨p, sa, n, x, st, rfl, hn, hsa, hl, ko, q⟩ := h
    refine ⟨_, (pss_cons (ps_set (i := 3) sc_turn_of.nd rfl (.inl rfl) (pe_cal c_swept hr (pa_cons (pv 0) (pa_cons (pv 2) (pa_cons (pv 1) (pa_cons (pe_glob (v := .ref fR) (by rfl) gR rfl) pa_nil))))))
      (pss_one (ps_ret (pe_tup (pa_cons (pv 3) (pa_cons (pe_cal c_state_behind hr (pa_cons (pv 0) (pa_cons (pv 3) pa_nil))) pa_nil)))))), ?_⟩
    refine ⟨_, rfl, _, rfl, _, rfl, p, sa, n, x, st, rfl, hn, hsa, hl, ko, fun l H1 hl0 s1 h_l => ?_⟩
    refine ⟨_, rfl, _, rfl, _, rfl, p, l, n, _, rfl, hn.same s1, h_l, nums_len n x st, fun s H2 hs s2 h_s => ⟨(by show 2 ≤ sizeLine; decide), fun t ht => ?_⟩⟩
    generalize hG : upd _ t _ = G2
    obtain ⟨s3, h_t⟩ := upd_gen hG ht
    exact q t l s _ ((s1.trans s2).trans s3) ((s1.trans s2).free ht) hl0 (s1.free hs) h_t (s3 _ _ (s2 _ _ h_l)) (s3 _ _ h_s)
end
end E1

namespace E1
open PySem PySem.Spec PyProof.Rows L2

theorem WellAt.ne {H : Hp} {a p : Addr} {c : Int} (h : WellAt H a c) (hp : H p = none) : p ≠ a := fun e => by
  obtain ⟨x, y, z, ha, _⟩ := h
  rw [← e, hp] at ha
  cases ha
theorem WellAt.lst {H : Hp} {a : Addr} {c : Int} (h : WellAt H a c) : ∃ xs, H a = some (.lst xs) := by
  obtain ⟨x, y, z, ha, _⟩ := h
  exact ⟨_, ha⟩
theorem WellAt.nt {H : Hp} {a p : Addr} {c : Int} {xs : List V} (h : WellAt H a c) (hp : H p = some (.tup xs)) : p ≠ a := fun e => by
  obtain ⟨x, y, z, ha, _⟩ := h
  rw [← e, hp] at ha
  cases ha
theorem sevenI {r : Int} (h0 : 0 ≤ r) (h1 : r < 7) : ∃ m : Mn, atI [V.str "down", V.str "up", V.str "in", V.str "out", V.str "half", V.str "even", V.str "far"] r = some (.str m.str) := by
  rcases (by omega : r = 0 ∨ r = 1 ∨ r = 2 ∨ r = 3 ∨ r = 4 ∨ r = 5 ∨ r = 6) with rfl | rfl | rfl | rfl | rfl | rfl | rfl
  · exact ⟨.down, rfl⟩
  · exact ⟨.up, rfl⟩
  · exact ⟨.inn, rfl⟩
  · exact ⟨.out, rfl⟩
  · exact ⟨.half, rfl⟩
  · exact ⟨.even, rfl⟩
  · exact ⟨.far, rfl⟩
theorem endI {r : Int} (h0 : 0 ≤ r) (h1 : r < 2) : ∃ st, atI [V.str "wrap", V.str "stop"] r = some (.str (endS st)) := by
  rcases (by omega : r = 0 ∨ r = 1) with rfl | rfl
  · exact ⟨false, rfl⟩
  · exact ⟨true, rfl⟩
theorem twoI {x y : V} {r : Int} (h0 : 0 ≤ r) (h1 : r < 2) : ∃ v, atI [x, y] r = some v ∧ (v = x ∨ v = y) := by
  rcases (by omega : r = 0 ∨ r = 1) with rfl | rfl
  · exact ⟨x, rfl, .inl rfl⟩
  · exact ⟨y, rfl, .inr rfl⟩
theorem threeI {x y z : V} {r : Int} (h0 : 0 ≤ r) (h1 : r < 3) : ∃ v, atI [x, y, z] r = some v ∧ (v = x ∨ v = y ∨ v = z) := by
  rcases (by omega : r = 0 ∨ r = 1 ∨ r = 2) with rfl | rfl | rfl
  · exact ⟨x, rfl, .inl rfl⟩
  · exact ⟨y, rfl, .inr (.inl rfl)⟩
  · exact ⟨z, rfl, .inr (.inr rfl)⟩
def spLForm : Sp := fun vs H Q _ => ∃ (a : Addr) (fr : Bool) (R c : Int), vs = [.ref a, .bl fr, .int R] ∧ 0 ≤ R ∧ R ≤ 60 ∧ WellAt H a c ∧ 0 ≤ c ∧ c ≤ 10000 ∧ ∀ (f : FormP) (p : Addr) (H' : Hp), f.Ok → (fr = false → f.w ≠ none) → -R - 2 ≤ f.pt → f.pt ≤ R + 2 → SameBut a H H' → WellAt H' a (c + 7) → p ≠ a → H p = none → H' p = some (.tup f.vs) → Q (.ref p) H'
def spLWord : Sp := fun vs H Q _ => ∃ (a p : Addr) (f : FormP) (c : Int), vs = [.ref a, .ref p] ∧ H p = some (.tup f.vs) ∧ f.Ok ∧ WellAt H a c ∧ 0 ≤ c ∧ c ≤ 10000 ∧ ∀ (s : Int) (H' : Hp), inR f.w s = true → s.natAbs < 2 ^ 70 → SameBut a H H' → WellAt H' a (c + 5) → Q (.int s) H'
/-- by how much a row moves the point -/
def Row.by_ : Row → Int → Prop
  | .times _ m _, R => (m : Int) ≤ R
  | .move m _, R => -R ≤ m ∧ m ≤ R
  | _, _ => True
def spLRow : Sp := fun vs H Q _ => ∃ (a : Addr) (fc i hc : Nat) (fr : Bool) (R c : Int), vs = [.ref a, .int fc, .int i, .bl fr, .int R, .int hc] ∧ 1 ≤ fc ∧ fc ≤ 12 ∧ 1 ≤ i ∧ i ≤ 100 ∧ 0 ≤ R ∧ R ≤ 60 ∧ hc ≤ 100 ∧ WellAt H a c ∧ 0 ≤ c ∧ c ≤ 10000 ∧
  ∀ (r : Row) (p : Addr) (H' : Hp), RowOk hc fc i r → r.by_ R → (fr = true → r.small) → SameBut a H H' → WellAt H' a (c + 10) → p ≠ a → H p = none → H' p = some (.tup r.vs) → Q (.ref p) H'
theorem same_free {a p : Addr} {H H' : Hp} {xs : List V} (s : SameBut a H H') (ha : H a = some (.lst xs)) (h : H' p = none) (n : p ≠ a) : H p = none := by
  cases e : H p with
  | none => rfl
  | some o =>
    rw [s _ _ n e] at h
    cases h

theorem TsAt.push {H : Hp} {l p : Addr} {vs xs : List V} {xss : List (List V)} (hl : H l = some (.lst vs)) (t : TsAt H vs xss) (hp : H p = some (.tup xs)) : TsAt (upd H l (.lst (vs ++ [.ref p]))) (vs ++ [.ref p]) (xss ++ [xs]) := by
  refine TsAt.app (t.but SameBut.upd hl) (.cons ?_ .nil)
  rw [upd_ne (ne_of hp hl (fun z => nomatch z))]
  exact hp
def BegOk (hc : Nat) : Row → Prop
  | .inn => True
  | .old k => k < hc
  | _ => False
def spLBegin : Sp := fun vs H Q _ => ∃ (a : Addr) (hc : Nat) (c : Int), vs = [.ref a, .int hc] ∧ hc ≤ 3 ∧ WellAt H a c ∧ 0 ≤ c ∧ c ≤ 10000 ∧
  ∀ (rows : List Row) (l : Addr) (H' : Hp), (∀ r ∈ rows, BegOk hc r) → 1 ≤ rows.length → rows.length ≤ 6 → SameBut a H H' → WellAt H' a (c + 20) → l ≠ a → H l = none → TL7 H' l (rows.map Row.vs) → Q (.ref l) H'
/-- but for two -/
def SameBut2 (a l : Addr) (H H' : Hp) : Prop := ∀ b o, b ≠ a → b ≠ l → H b = some o → H' b = some o
theorem SameBut2.trans {a l : Addr} {H H1 H2 : Hp} (x : SameBut2 a l H H1) (y : SameBut2 a l H1 H2) : SameBut2 a l H H2 := fun b o n m e => y b o n m (x b o n m e)
theorem SameBut2.refl (a l : Addr) (H : Hp) : SameBut2 a l H H := fun _ _ _ _ e => e
theorem SameBut2.one {a l : Addr} {H H' : Hp} (s : SameBut a H H') : SameBut2 a l H H' := fun b o n _ e => s b o n e
theorem SameBut2.two {a l : Addr} {H H' : Hp} (s : SameBut l H H') : SameBut2 a l H H' := fun b o _ m e => s b o m e
theorem SameBut2.of {a l : Addr} {H H' : Hp} (s : Same H H') : SameBut2 a l H H' := fun b o _ _ e => s b o e
def MixRow (n0 : Nat) (M : Int) : Row → Prop
  | .times f m a => a < n0 ∧ (m : Int) ≤ M ∧ f.natAbs ≤ 9
  | .plus _ _ => True
  | .less _ _ => True
  | _ => False
def spLMixed : Sp := fun vs H Q _ => ∃ (a l : Addr) (rows : List Row) (M c : Int), vs = [.ref a, .ref l, .int M] ∧ TL7 H l (rows.map Row.vs) ∧ l ≠ a ∧ 0 ≤ M ∧ M ≤ 6 ∧ 1 ≤ rows.length ∧ rows.length ≤ 6 ∧ WellAt H a c ∧ 0 ≤ c ∧ c ≤ 10000 ∧
  ∀ (ex : List Row) (last : Nat) (H' : Hp), (∀ r ∈ ex, MixRow rows.length M r) → (∀ i r, (rows ++ ex)[i]? = some r → rows.length ≤ i → ∀ hc fc, RowOk hc fc i r) → last < (rows ++ ex).length → ex.length ≤ 10 → SameBut2 a l H H' → WellAt H' a (c + 20) → TL7 H' l ((rows ++ ex).map Row.vs) → Q (.int last) H'
def spLLink (K : PySem.W.Frag) : Sp := fun vs H Q _ => ∃ (a l : Addr) (rows : List Row) (kd last : Nat) (c : Int), vs = [.ref a, .ref l, .int kd, .int last] ∧ TL7 H l (rows.map Row.vs) ∧ l ≠ a ∧ last < rows.length ∧ rows.length ≤ 50 ∧ WellAt H a c ∧ 0 ≤ c ∧ c ≤ 10000 ∧
  ∀ (ex : List Row) (j x : Nat) (H' : Hp), (ex = [] ∨ ex = [.keep kd x] ∧ x < rows.length) → (∃ y, (rows ++ ex)[j]? = some (.keep kd y)) → SameBut2 a l H H' → WellAt H' a (c + 5) → TL7 H' l ((rows ++ ex).map Row.vs) → Q (.int j) H'
theorem range_snoc {β : Type} (f : Nat → β) (i : Nat) : (List.range (i + 1)).map f = (List.range i).map f ++ [f i] := by
  rw [List.range_succ, List.map_append]
  rfl
theorem snoc_at {rows ex : List Row} {r r' : Row} {i : Nat} (h : (rows ++ (ex ++ [r']))[i]? = some r) : (rows ++ ex)[i]? = some r ∨ (i = (rows ++ ex).length ∧ r = r') := by
  rw [← List.append_assoc] at h
  by_cases c : i < (rows ++ ex).length
  · rw [List.getElem?_append_left c] at h
    exact .inl h
  · rw [List.getElem?_append_right (by omega)] at h
    have : i - (rows ++ ex).length = 0 := by
      have := (List.getElem?_eq_some_iff.mp h).1
      simp only [List.length_singleton] at this
      omega
    rw [this] at h
    refine .inr ⟨by omega, (Option.some.inj h).symm⟩

theorem TL7.push {G : Hp} {l p : Addr} {rows : List Row} {r : Row} {vs : List V} (hl : G l = some (.lst vs)) (t : TsAt G vs (rows.map Row.vs)) (hp : G p = some (.tup r.vs)) : TL7 (upd G l (.lst (vs ++ [.ref p]))) l ((rows ++ [r]).map Row.vs) := by
  refine ⟨_, upd_same, ?_⟩
  rw [List.map_append]
  exact TsAt.push hl t hp
theorem TsAt.rlen {G : Hp} {rows : List Row} {vs : List V} (t : TsAt G vs (rows.map Row.vs)) : vs.length = rows.length := by
  rw [t.len, List.length_map]
theorem snoc_len {rows ex : List Row} {r : Row} : (rows ++ (ex ++ [r])).length = (rows ++ ex).length + 1 := by simp only [List.length_append, List.length_singleton]; omega
/-- a row's first two things -/
def Row.d2 : Row → List PyData
  | .inn => [.str "in"]
  | .old k => [.str "old", .int k]
  | .times f _ _ => [.str "times", .int f]
  | .plus a _ => [.str "plus", .int a]
  | .less a _ => [.str "less", .int a]
  | .move m _ => [.str "move", .int m]
  | .keep f _ => [.str "keep", .int f]
theorem Row.d2_shaped (r : Row) : SeqAt.shaped (.tuple r.d2) = true := by
  have k1 : ∀ (z : Str) (k : Int), PyData.canLay0 (.str z) = true → SeqAt.shaped (.tuple [.str z, .int k]) = true := fun z k h => by
    show (PyData.canLay0 (.tuple [.str z, .int k]) && decide (PyData.depth (.tuple [.str z, .int k]) ≤ 64)) = true
    have e : PyData.canLay0 (.tuple [.str z, .int k]) = true := by
      simp only [PyData.canLay0, PyData.canLayAll0, Bool.and_true] at h ⊢
      exact h
    rw [e, Bool.true_and]
    simp only [PyData.depth, PyData.depthAll]
    rfl
  cases r with
  | inn => exact (by decide +kernel : SeqAt.shaped (.tuple [.str "in"]) = true)
  | old k => exact k1 _ _ (by simp only [PyData.canLay0]; decide +kernel)
  | times f m a => exact k1 _ _ (by simp only [PyData.canLay0]; decide +kernel)
  | plus a b => exact k1 _ _ (by simp only [PyData.canLay0]; decide +kernel)
  | less a b => exact k1 _ _ (by simp only [PyData.canLay0]; decide +kernel)
  | move m a => exact k1 _ _ (by simp only [PyData.canLay0]; decide +kernel)
  | keep f a => exact k1 _ _ (by simp only [PyData.canLay0]; decide +kernel)
theorem Row.d2_keep (r : Row) (kd : Nat) (h : PyData.eqv (.tuple r.d2) (.tuple [.str "keep", .int kd]) = true) : ∃ y, r = .keep kd y := by
  have ne : ∀ (z : Str), (z == ("keep" : Str)) = false → ∀ t, PyData.eqv (.tuple (.str z :: t)) (.tuple [.str "keep", .int kd]) = true → False := fun z hz t e => by
    simp only [PyData.eqv, PyData.eqvAll] at e
    rw [hz] at e
    cases e
  cases r with
  | inn => exact (ne _ (by decide +kernel) _ h).elim
  | old k => exact (ne _ (by decide +kernel) _ h).elim
  | times f m a => exact (ne _ (by decide +kernel) _ h).elim
  | plus a b => exact (ne _ (by decide +kernel) _ h).elim
  | less a b => exact (ne _ (by decide +kernel) _ h).elim
  | move m a => exact (ne _ (by decide +kernel) _ h).elim
  | keep f a =>
    simp only [Row.d2, PyData.eqv, PyData.eqvAll, Bool.and_true, Bool.and_eq_true, beq_iff_eq] at h
    have := h.2
    refine ⟨a, ?_⟩
    congr 1
    omega
theorem Row.dp1 {K : PySem.W.Frag} {H : Hp} (r : Row) (h : HT.sIx r.vs.length 0 none = 0 ∧ HT.sIx r.vs.length r.vs.length (some 2) = r.vs.length) : DpAll K H r.vs r.d2 := by
  cases r with
  | inn => exact .cons (.str _) .nil
  | old k => exact .cons (.str _) (.cons (.int _) .nil)
  | times f m a => exact absurd h (by show ¬ (HT.sIx 4 0 none = 0 ∧ HT.sIx 4 4 (some 2) = 4); decide)
  | plus a b => exact absurd h (by show ¬ (HT.sIx 3 0 none = 0 ∧ HT.sIx 3 3 (some 2) = 3); decide)
  | less a b => exact absurd h (by show ¬ (HT.sIx 3 0 none = 0 ∧ HT.sIx 3 3 (some 2) = 3); decide)
  | move m a => exact absurd h (by show ¬ (HT.sIx 3 0 none = 0 ∧ HT.sIx 3 3 (some 2) = 3); decide)
  | keep f a => exact absurd h (by show ¬ (HT.sIx 3 0 none = 0 ∧ HT.sIx 3 3 (some 2) = 3); decide)
theorem Row.dp2 {K : PySem.W.Frag} {H : Hp} (r : Row) : DpAll K H (cutV r.vs none (some 2)) r.d2 := by
  cases r with
  | inn => exact .cons (.str _) .nil
  | old k => exact .cons (.str _) (.cons (.int _) .nil)
  | times f m a => exact .cons (.str _) (.cons (.int _) .nil)
  | plus a b => exact .cons (.str _) (.cons (.int _) .nil)
  | less a b => exact .cons (.str _) (.cons (.int _) .nil)
  | move m a => exact .cons (.str _) (.cons (.int _) .nil)
  | keep f a => exact .cons (.str _) (.cons (.int _) .nil)
theorem dp_nats {K : PySem.W.Frag} {H : Hp} : ∀ ns : List Nat, DpAll K H (ns.map fun n : Nat => V.int (n : Int)) ((ns.map fun n : Nat => (n : Int)).map PyData.int)
  | [] => .nil
  | _ :: ns => .cons (.int _) (dp_nats ns)
/-! ### how far the points of a net go -/
structure Bd (en : Int) (hp fp : List Int) (W : Int) : Prop where
  w0 : 0 ≤ W
  en : -W ≤ en ∧ en ≤ W
  hp : ∀ x ∈ hp, -W ≤ x ∧ x ≤ W
  fp : ∀ x ∈ fp, -W ≤ x ∧ x ≤ W
theorem getD_bd {l : List Int} {k : Nat} {W : Int} (h : ∀ x ∈ l, -W ≤ x ∧ x ≤ W) (w : 0 ≤ W) : -W ≤ l.getD k 0 ∧ l.getD k 0 ≤ W := by
  by_cases c : k < l.length
  · refine h _ ?_
    rw [List.getD_eq_getElem?_getD, List.getElem?_eq_getElem c]
    exact List.getElem_mem _
  · rw [List.getD_eq_getElem?_getD, List.getElem?_eq_none (by omega)]
    show -W ≤ 0 ∧ (0 : Int) ≤ W
    omega
structure RowsG (hc fc : Nat) (en : Int) (hp fp : List Int) (rows : List Row) (B : Int) : Prop where
  ok : ∀ i r, rows[i]? = some r → RowOk hc fc i r
  pb : ∀ p ∈ ptsOf en hp fp rows, -B ≤ p ∧ p ≤ B
theorem row_get {rows : List Row} {r r' : Row} {i : Nat} (h : (rows ++ [r'])[i]? = some r) : rows[i]? = some r ∨ (i = rows.length ∧ r = r') := by
  have := snoc_at (rows := rows) (ex := []) (r := r) (r' := r') (i := i) (by rw [List.nil_append]; exact h)
  rw [List.append_nil] at this
  exact this
section
variable {hc fc : Nat} {en : Int} {hp fp : List Int} {W R B B' M : Int}
theorem RowsG.mono {rows : List Row} (g : RowsG hc fc en hp fp rows B) (l : B ≤ B') : RowsG hc fc en hp fp rows B' :=
  ⟨g.ok, fun p h => by have := g.pb p h; omega⟩
theorem rowPt_bd {pts : List Int} (b : Bd en hp fp W) (wb : W ≤ B) (r0 : 0 ≤ R) (hpb : ∀ p ∈ pts, -B ≤ p ∧ p ≤ B) (r : Row) (by_ : r.by_ R) : -(B + R) ≤ rowPt en hp fp pts r ∧ rowPt en hp fp pts r ≤ B + R := by
  have w0 := b.w0
  have P : ∀ k, -B ≤ pts.getD k 0 ∧ pts.getD k 0 ≤ B := fun k => getD_bd hpb (by omega)
  have Hq : ∀ k, -W ≤ hp.getD k 0 ∧ hp.getD k 0 ≤ W := fun k => getD_bd b.hp w0
  have Fq : ∀ k, -W ≤ fp.getD k 0 ∧ fp.getD k 0 ≤ W := fun k => getD_bd b.fp w0
  cases r with
  | inn =>
    have := b.en
    show -(B + R) ≤ en ∧ en ≤ B + R
    omega
  | old k =>
    have := Hq k
    show -(B + R) ≤ hp.getD k 0 ∧ hp.getD k 0 ≤ B + R
    omega
  | times f m a =>
    have := P a
    have h : (m : Int) ≤ R := by_
    show -(B + R) ≤ pts.getD a 0 + m ∧ pts.getD a 0 + m ≤ B + R
    omega
  | plus x y =>
    have := P x
    have := P y
    show -(B + R) ≤ (if pts.getD y 0 > pts.getD x 0 then pts.getD y 0 else pts.getD x 0) ∧ (if pts.getD y 0 > pts.getD x 0 then pts.getD y 0 else pts.getD x 0) ≤ B + R
    split <;> omega
  | less x y =>
    have := P x
    have := P y
    show -(B + R) ≤ (if pts.getD y 0 > pts.getD x 0 then pts.getD y 0 else pts.getD x 0) ∧ (if pts.getD y 0 > pts.getD x 0 then pts.getD y 0 else pts.getD x 0) ≤ B + R
    split <;> omega
  | move m a =>
    have := P a
    obtain ⟨h1, h2⟩ : -R ≤ m ∧ m ≤ R := by_
    show -(B + R) ≤ pts.getD a 0 - m ∧ pts.getD a 0 - m ≤ B + R
    omega
  | keep f a =>
    have := Fq f
    show -(B + R) ≤ fp.getD f 0 ∧ fp.getD f 0 ≤ B + R
    omega
theorem RowsG.snoc {rows : List Row} {r : Row} (g : RowsG hc fc en hp fp rows B) (b : Bd en hp fp W) (wb : W ≤ B) (r0 : 0 ≤ R) (ok : RowOk hc fc rows.length r) (by_ : r.by_ R) : RowsG hc fc en hp fp (rows ++ [r]) (B + R) := by
  refine ⟨fun i x h => ?_, fun p h => ?_⟩
  · rcases row_get h with h | ⟨rfl, rfl⟩
    · exact g.ok i x h
    · exact ok
  · rw [ptsOf_snoc] at h
    rcases List.mem_append.mp h with h | h
    · have := g.pb p h
      omega
    · rw [List.mem_singleton.mp h]
      exact rowPt_bd b wb r0 g.pb r by_
theorem RowsG.keep {rows : List Row} {kd x : Nat} (g : RowsG hc fc en hp fp rows B) (b : Bd en hp fp W) (wb : W ≤ B) (hk : kd < fc) (hx : x < rows.length) : RowsG hc fc en hp fp (rows ++ [.keep kd x]) B := by
  have := g.snoc (r := .keep kd x) (R := 0) b wb (Int.le_refl _) ⟨hk, hx⟩ trivial
  exact this.mono (by omega)
theorem RowsG.begin {rows : List Row} (b : Bd en hp fp W) (h : ∀ r ∈ rows, BegOk hc r) : RowsG hc fc en hp fp rows W := by
  refine ⟨fun i r e => ?_, fun p hpm => ?_⟩
  · have := h r (List.mem_of_getElem? e)
    cases r with
    | inn => trivial
    | old k => exact this
    | _ => exact this.elim
  · obtain ⟨i, hi, rfl⟩ := List.getElem_of_mem hpm
    have hl : i < rows.length := by rw [ptsOf_len] at hi; exact hi
    have e := List.getElem?_eq_getElem hl
    have e2 := accL_at (g := rowPt en hp fp) e
    rw [← ptsOf_acc, List.getElem?_eq_getElem hi] at e2
    rw [Option.some.inj e2]
    have := h _ (List.getElem_mem hl)
    generalize rows[i] = r at *
    cases r with
    | inn => exact b.en
    | old k => exact getD_bd b.hp b.w0
    | _ => exact this.elim
theorem getD_pre {l t : List Int} {k : Nat} (h : k < l.length) : (l ++ t).getD k 0 = l.getD k 0 := by
  rw [List.getD_eq_getElem?_getD, List.getD_eq_getElem?_getD, List.getElem?_append_left h]
theorem mix_pb {rows : List Row} (m0 : 0 ≤ M) (b : Bd en hp fp W) (hb : ∀ p ∈ ptsOf en hp fp rows, -W ≤ p ∧ p ≤ W) : ∀ (n : Nat) (ex : List Row), ex.length = n → (∀ r ∈ ex, MixRow rows.length M r) → ∀ p ∈ ptsOf en hp fp (rows ++ ex), -(W + M) ≤ p ∧ p ≤ W + M := by
  have w0 := b.w0
  intro n
  induction n with
  | zero =>
    intro ex le _ p h
    rw [List.length_eq_zero_iff.mp le, List.append_nil] at h
    have := hb p h
    omega
  | succ n ih =>
    intro ex le hm p h
    obtain ⟨ex', r, rfl⟩ : ∃ ex' r, ex = ex' ++ [r] := by
      have hne : ex ≠ [] := fun z => by rw [z] at le; cases le
      exact ⟨_, _, (List.dropLast_concat_getLast hne).symm⟩
    have le' : ex'.length = n := by rw [List.length_append, List.length_singleton] at le; omega
    have ih' := ih ex' le' fun x hx => hm x (List.mem_append.mpr (.inl hx))
    rw [← List.append_assoc, ptsOf_snoc] at h
    rcases List.mem_append.mp h with h | h
    · exact ih' p h
    · rw [List.mem_singleton.mp h]
      have P : ∀ k, -(W + M) ≤ (ptsOf en hp fp (rows ++ ex')).getD k 0 ∧ (ptsOf en hp fp (rows ++ ex')).getD k 0 ≤ W + M := fun k => getD_bd ih' (by omega)
      have hr := hm r (List.mem_append.mpr (.inr (List.mem_singleton.mpr rfl)))
      cases r with
      | times f m a =>
        obtain ⟨h1, h2, _⟩ := hr
        show -(W + M) ≤ (ptsOf en hp fp (rows ++ ex')).getD a 0 + m ∧ (ptsOf en hp fp (rows ++ ex')).getD a 0 + m ≤ W + M
        obtain ⟨t, et⟩ := accL_pre (rowPt en hp fp) rows ex'
        rw [← ptsOf_acc, ← ptsOf_acc] at et
        rw [et, getD_pre (by rw [ptsOf_len]; exact h1)]
        have := getD_bd (k := a) hb w0
        omega
      | plus x y =>
        have := P x
        have := P y
        show -(W + M) ≤ (if (ptsOf en hp fp (rows ++ ex')).getD y 0 > (ptsOf en hp fp (rows ++ ex')).getD x 0 then (ptsOf en hp fp (rows ++ ex')).getD y 0 else (ptsOf en hp fp (rows ++ ex')).getD x 0) ∧ (if (ptsOf en hp fp (rows ++ ex')).getD y 0 > (ptsOf en hp fp (rows ++ ex')).getD x 0 then (ptsOf en hp fp (rows ++ ex')).getD y 0 else (ptsOf en hp fp (rows ++ ex')).getD x 0) ≤ W + M
        split <;> omega
      | less x y =>
        have := P x
        have := P y
        show -(W + M) ≤ (if (ptsOf en hp fp (rows ++ ex')).getD y 0 > (ptsOf en hp fp (rows ++ ex')).getD x 0 then (ptsOf en hp fp (rows ++ ex')).getD y 0 else (ptsOf en hp fp (rows ++ ex')).getD x 0) ∧ (if (ptsOf en hp fp (rows ++ ex')).getD y 0 > (ptsOf en hp fp (rows ++ ex')).getD x 0 then (ptsOf en hp fp (rows ++ ex')).getD y 0 else (ptsOf en hp fp (rows ++ ex')).getD x 0) ≤ W + M
        split <;> omega
      | inn => exact hr.elim
      | old k => exact hr.elim
      | move m a => exact hr.elim
      | keep f a => exact hr.elim
theorem RowsG.mix {rows ex : List Row} (m0 : 0 ≤ M) (b : Bd en hp fp W) (g : RowsG hc fc en hp fp rows W) (hm : ∀ r ∈ ex, MixRow rows.length M r) (ho : ∀ i r, (rows ++ ex)[i]? = some r → rows.length ≤ i → ∀ hc fc, RowOk hc fc i r) : RowsG hc fc en hp fp (rows ++ ex) (W + M) := by
  refine ⟨fun i r e => ?_, mix_pb m0 b g.pb _ ex rfl hm⟩
  by_cases c : i < rows.length
  · rw [List.getElem?_append_left c] at e
    exact g.ok i r e
  · exact ho i r e (by omega) _ _
end
/-! ### the heap of a law's net -/
theorem TsAt.but2 {H H' : Hp} {a l : Addr} {xs ys vs : List V} {xss : List (List V)} (h : TsAt H vs xss) (s : SameBut2 a l H H') (ha : H a = some (.lst xs)) (hl : H l = some (.lst ys)) : TsAt H' vs xss :=
  h.mono fun _ _ e => s _ _ (ne_of e ha (fun z => nomatch z)) (ne_of e hl (fun z => nomatch z)) e
theorem TL7.but2 {H H' : Hp} {a l b : Addr} {xs ys : List V} {xss : List (List V)} (h : TL7 H b xss) (s : SameBut2 a l H H') (ha : H a = some (.lst xs)) (hl : H l = some (.lst ys)) (n1 : b ≠ a) (n2 : b ≠ l) : TL7 H' b xss := by
  obtain ⟨vs, e, t⟩ := h
  exact ⟨vs, s _ _ n1 n2 e, t.but2 s ha hl⟩
def nI (n : Nat) : V := .int (n : Int)
structure NB (H G : Hp) (a kl fl ml : Addr) (ks : List Nat) (fs : List FormP) (rows : List Row) (c : Int) : Prop where
  sb : SameBut a H G
  w : WellAt G a c
  k : G kl = some (.lst (ks.map nI))
  f : TL7 G fl (fs.map FormP.vs)
  m : TL7 G ml (rows.map Row.vs)
  n1 : kl ≠ a
  n2 : fl ≠ a
  n3 : ml ≠ a
  n4 : kl ≠ ml
  n5 : fl ≠ ml
  f0 : H ml = none
section
variable {H G G' : Hp} {a kl fl ml : Addr} {ks : List Nat} {fs : List FormP} {rows rows' : List Row} {c c' : Int}
theorem NB.one (b : NB H G a kl fl ml ks fs rows c) (s : SameBut a G G') (w : WellAt G' a c') : NB H G' a kl fl ml ks fs rows c' := by
  obtain ⟨xs, hx⟩ := b.w.lst
  exact ⟨b.sb.trans s, w, s _ _ b.n1 b.k, b.f.but s hx b.n2, b.m.but s hx b.n3, b.n1, b.n2, b.n3, b.n4, b.n5, b.f0⟩
theorem NB.new (b : NB H G a kl fl ml ks fs rows c) (s : Same G G') : NB H G' a kl fl ml ks fs rows c := b.one (.of s) (b.w.same s)
theorem NB.mono (b : NB H G a kl fl ml ks fs rows c) (l : c ≤ c') : NB H G a kl fl ml ks fs rows c' := ⟨b.sb, b.w.mono l, b.k, b.f, b.m, b.n1, b.n2, b.n3, b.n4, b.n5, b.f0⟩
theorem NB.two (b : NB H G a kl fl ml ks fs rows c) (s : SameBut2 a ml G G') (w : WellAt G' a c') (m : TL7 G' ml (rows'.map Row.vs)) : NB H G' a kl fl ml ks fs rows' c' := by
  obtain ⟨xs, hx⟩ := b.w.lst
  obtain ⟨ys, hy, _⟩ := b.m
  refine ⟨fun x o n e => s x o n (fun z => ?_) (b.sb x o n e), w, s _ _ b.n1 b.n4 b.k, b.f.but2 s hx hy b.n2 b.n5, m, b.n1, b.n2, b.n3, b.n4, b.n5, b.f0⟩
  have := b.f0
  rw [← z, e] at this
  cases this
theorem NB.but {x : Addr} {ys : List V} (b : NB H G a kl fl ml ks fs rows c) (s : SameBut x G G') (hx : G x = some (.lst ys)) (h0 : H x = none) (m1 : a ≠ x) (m2 : kl ≠ x) (m3 : fl ≠ x) (m4 : ml ≠ x) : NB H G' a kl fl ml ks fs rows c := by
  refine ⟨fun y o n e => s y o (fun z => ?_) (b.sb y o n e), b.w.but s m1, s _ _ m2 b.k, b.f.but s hx m3, b.m.but s hx m4, b.n1, b.n2, b.n3, b.n4, b.n5, b.f0⟩
  rw [z, h0] at e
  cases e
end
/-- the parts of a law's net -/
def PartsAt (H : Hp) (p : Addr) (n : NetP) : Prop := ∃ fa ra ha, H p = some (.tup [.ref fa, .int n.en, .ref ra, .ref ha, .int n.out]) ∧ TL7 H fa (n.fs.map FormP.vs) ∧ TL7 H ra (n.rows.map Row.vs) ∧ TL7 H ha (n.holds.map Hold.vs)
theorem PartsAt.same {H H' : Hp} {p : Addr} {n : NetP} (h : PartsAt H p n) (s : Same H H') : PartsAt H' p n := by
  obtain ⟨fa, ra, ha, e, x, y, z⟩ := h
  exact ⟨fa, ra, ha, s _ _ e, x.same s, y.same s, z.same s⟩
theorem PartsAt.but {H H' : Hp} {p a : Addr} {n : NetP} {ys : List V} (h : PartsAt H p n) (s : SameBut a H H') (ha : H a = some (.lst ys)) (n1 : ∀ fa ra hb, H p = some (.tup [.ref fa, .int n.en, .ref ra, .ref hb, .int n.out]) → fa ≠ a ∧ ra ≠ a ∧ hb ≠ a) : PartsAt H' p n := by
  obtain ⟨fa, ra, hb, e, x, y, z⟩ := h
  obtain ⟨m1, m2, m3⟩ := n1 fa ra hb e
  exact ⟨fa, ra, hb, s _ _ (ne_of e ha (fun z => nomatch z)) e, x.but s ha m1, y.but s ha m2, z.but s ha m3⟩
def HoldOk (fs : List FormP) (rows : List Row) (h : Hold) : Prop := h.k < fs.length ∧ inR (frm fs h.k).w h.s = true ∧ h.s.natAbs < 2 ^ 70 ∧ ∃ x, rows[h.l]? = some (.keep h.k x)
theorem HoldOk.more {fs : List FormP} {rows t : List Row} {h : Hold} (k : HoldOk fs rows h) : HoldOk fs (rows ++ t) h := by
  obtain ⟨a, b, c, x, e⟩ := k
  refine ⟨a, b, c, x, ?_⟩
  rw [List.getElem?_append_left (List.getElem?_eq_some_iff.mp e).1]
  exact e
def spLNet : Sp := fun vs H Q _ => ∃ a : Addr, vs = [.ref a] ∧ WellAt H a 0 ∧ ∀ (n : NetP) (p : Addr) (H' : Hp), NetOk n → (∀ h ∈ n.holds, h.s.natAbs < 2 ^ 70) → Mild n → SameBut a H H' → H p = none → PartsAt H' p n → Q (.ref p) H'
theorem sixR {r : Int} (h0 : 0 ≤ r) (h1 : r < 6) : ∃ R : Int, atI [V.int 5, V.int 5, V.int 20, V.int 20, V.int 20, V.int 60] r = some (.int R) ∧ 5 ≤ R ∧ R ≤ 60 ∧ (r ≠ 5 → R ≤ 20) ∧ (r < 2 → R ≤ 5) := by
  rcases (by omega : r = 0 ∨ r = 1 ∨ r = 2 ∨ r = 3 ∨ r = 4 ∨ r = 5) with rfl | rfl | rfl | rfl | rfl | rfl
  · exact ⟨5, rfl, by omega, by omega, fun _ => by omega, fun _ => by omega⟩
  · exact ⟨5, rfl, by omega, by omega, fun _ => by omega, fun _ => by omega⟩
  · exact ⟨20, rfl, by omega, by omega, fun _ => by omega, fun z => absurd z (by decide)⟩
  · exact ⟨20, rfl, by omega, by omega, fun _ => by omega, fun z => absurd z (by decide)⟩
  · exact ⟨20, rfl, by omega, by omega, fun _ => by omega, fun z => absurd z (by decide)⟩
  · exact ⟨60, rfl, by omega, by omega, (fun z => absurd rfl z), fun z => absurd z (by decide)⟩
/-- so many rows of chance -/
theorem pickN {x y so : Int} (A B : Int) (x0 : 0 ≤ x) (x1 : x < A) (y0 : 0 ≤ y) (y1 : y < B) : ∃ n : Nat, atI [V.int x, V.int y] (if decide (V.int so = V.int 5) = true then 1 else 0) = some (.int (n : Int)) ∧ (so = 5 → (n : Int) < B) ∧ (so ≠ 5 → (n : Int) < A) := by
  by_cases h : so = 5
  · refine ⟨y.toNat, ?_, fun _ => by omega, fun z => absurd h z⟩
    rw [h, decide_eq_true rfl, show ((y.toNat : Nat) : Int) = y by omega]
    exact a1
  · refine ⟨x.toNat, ?_, fun z => absurd z h, fun _ => by omega⟩
    rw [decide_eq_false (fun z => h (V.int.inj z)), show ((x.toNat : Nat) : Int) = x by omega]
    exact a0

theorem beg_small {hc : Nat} {rows : List Row} (h : ∀ r ∈ rows, BegOk hc r) : ∀ r ∈ rows, r.small := fun r hr => by
  have := h r hr
  cases r <;> first | trivial | exact this.elim
theorem mix_small {n0 : Nat} {M : Int} {ex : List Row} (h : ∀ r ∈ ex, MixRow n0 M r) : ∀ r ∈ ex, r.small := fun r hr => by
  have := h r hr
  cases r <;> first | trivial | exact this.elim | exact this.2.2
theorem app_small {a b : List Row} (ha : ∀ r ∈ a, r.small) (hb : ∀ r ∈ b, r.small) : ∀ r ∈ a ++ b, r.small := fun r hr => by
  rcases List.mem_append.mp hr with h | h
  · exact ha r h
  · exact hb r h
theorem one_small {r : Row} (h : r.small) : ∀ x ∈ [r], x.small := fun x hx => by
  rw [List.mem_singleton.mp hx]
  exact h
end E1

namespace E1
open PySem PySem.Spec PyProof.Rows L2
def Kd7.isKp : Kd7 → Bool
  | .keep => true
  | _ => false
theorem kp_no {k : Kd7} (h : k ≠ .keep) : k.isKp = false := by
  cases k <;> first | rfl | exact absurd rfl h

def kpAt (rows : List Row) (i : Nat) : Bool := match rows[i]? with
  | some (.keep _ _) => true
  | _ => false
/-- what went at a row -/
def wentV (n : NetP) (nums : List Int) (f a : Nat) : Int :=
  stepsAt (frm n.fs f).pt (frm n.fs f).m (nums.getD a 0) (n.pts.getD a 0) - wordF (frm n.fs f).w (frm n.fs f).st (stepsAt (frm n.fs f).pt (frm n.fs f).m (nums.getD a 0) (n.pts.getD a 0))
def wentAt (n : NetP) (nums : List Int) (i : Nat) : Bool := match n.rows[i]? with
  | some (.keep f a) => !decide (V.int (wentV n nums f a) = V.int 0)
  | _ => false
def keepsOf (rows : List Row) : List Nat := (List.range rows.length).filter (kpAt rows)
def oversOf (n : NetP) (nums : List Int) : List Nat := (List.range n.rows.length).filter (wentAt n nums)
theorem filt_one (p : Nat → Bool) (i : Nat) : [i].filter p = if p i = true then [i] else [] := by
  rw [List.filter_cons]
  rfl
theorem range_filt (p : Nat → Bool) (i : Nat) : (List.range (i + 1)).filter p = (List.range i).filter p ++ (if p i = true then [i] else []) := by
  rw [List.range_succ, List.filter_append, filt_one]
theorem went_kp {n : NetP} {nums : List Int} {i : Nat} (h : wentAt n nums i = true) : kpAt n.rows i = true := by
  unfold wentAt at h
  split at h
  · rename_i f a e
    unfold kpAt
    rw [e]
  · cases h
theorem overs_is (n : NetP) (nums : List Int) : (keepsOf n.rows).filter (wentAt n nums) = oversOf n nums := by
  unfold keepsOf oversOf
  rw [List.filter_filter]
  refine List.filter_congr fun i _ => ?_
  cases h : wentAt n nums i with
  | false => rfl
  | true => exact went_kp h
theorem keeps_at {rows : List Row} {i : Nat} (h : i ∈ keepsOf rows) : ∃ f a, rows[i]? = some (.keep f a) := by
  have := (List.mem_filter.mp h).2
  unfold kpAt at this
  split at this
  · rename_i f a e
    exact ⟨f, a, e⟩
  · cases this
theorem kp_of {rows : List Row} {i : Nat} {r : Row} (e : rows[i]? = some r) : kpAt rows i = r.kd.isKp := by
  unfold kpAt
  rw [e]
  cases r <;> rfl

def spKeepsM (C CN : Addr) : Sp := fun vs H Q _ => ∃ (p : Addr) (n : NetP), vs = [.ref p] ∧ NetAt C CN H p n ∧ ∀ l H', H l = none → Same H H' → H' l = some (.lst ((keepsOf n.rows).map nI)) → Q (.ref l) H'
structure NumsOk (n : NetP) (nums : List Int) : Prop where
  len : nums.length = n.rows.length
  sz : ∀ k ∈ nums, k.natAbs < 2 ^ 900000
def spWent (C CN : Addr) : Sp := fun vs H Q _ => ∃ (p na : Addr) (n : NetP) (i : Nat) (nums : List Int) (f a : Nat), vs = [.ref p, .int i, .ref na] ∧ NetAt C CN H p n ∧ n.rows[i]? = some (.keep f a) ∧ H na = some (.lst (nums.map V.int)) ∧ NumsOk n nums ∧ ∀ H', Same H H' → Q (.bl (wentAt n nums i)) H'
def spOvers (C CN : Addr) : Sp := fun vs H Q _ => ∃ (p na : Addr) (n : NetP) (nums : List Int), vs = [.ref p, .ref na] ∧ NetAt C CN H p n ∧ H na = some (.lst (nums.map V.int)) ∧ NumsOk n nums ∧ ∀ l H', H l = none → Same H H' → H' l = some (.lst ((oversOf n nums).map nI)) → Q (.ref l) H'
section
variable {P : Program} {w : World} {K : PySem.W.Frag} {mg : Str → Option Value} {base : Heap}
theorem sc_Net_keeps : FnScope ["self", "at", "row"] ["self"] (defScope s_Net_keeps) := ⟨rfl, rfl, rfl, by decide +kernel, rfl, by decide +kernel, by decide +kernel⟩
theorem ok_Net_keeps {f : Addr} {fd : FuncData} {k : Nat} {C CN : Addr} (TN : NTxt K mg CN) (F : Fun K "keeps" "Net.keeps" s_Net_keeps f fd) (z : Zs mg) : FnOk P w K mg base CX0 (k + 1) f fd ["self"] (spKeepsM C CN) := by
  refine F.ok sc_Net_keeps (fun vs H Q E h => ?_) (fun cdv A outer s H vs Q E hr h => ?_)
  · obtain ⟨p, n, rfl, _⟩ := h
    rfl
  · obtain ⟨p, n, rfl, ⟨ok, dx, fl, rl, hl2, pl, fv, rv, hv, b⟩, q⟩ := h
    refine ⟨_, (pss_one (ps_ret (pe_lc (own := [("at", 1), ("row", 2)]) (g := gTup K 2 (gCons (gName 1) (gCons (gName 2) gNil))) (te := (tVar 1)) (tt := (tTest (tOp rEq (tOp (rIxT K) (tVar 2) (tC (.int 0))) (tC (.str "keep"))))) (by rfl) sc_Net_keeps.nd (pi_enum (by rfl) z.enumerate (pa_cons (pe_fld (pv 0) rfl) pa_nil)) (blkOk_by (own := [("at", 1), ("row", 2)]) (N := ["self", "at", "row"]) (sc := defScope s_Net_keeps) (by decide +kernel)) (fun _ _ _ _ _ => by exact (pg_tup (by rfl) (pgs_cons (pg_name (i := 1) sc_Net_keeps.nd rfl (.inl rfl)) (pgs_cons (pg_name (i := 2) sc_Net_keeps.nd rfl (.inl rfl)) pgs_nil)))) (fun _ _ _ _ _ => by exact (pts_one (pt_cmpR op_eq (pe_ix ix_tup (pv 2) pe_int (fun _ _ => rfl)) pe_str (nomark _)))) (fun _ _ _ _ _ => by exact (pv 1))))), ?_⟩
    have lr := b.rs.rlen
    have r60 := ok.r2
    refine ⟨_, rfl, p, CN, dx, _, _, rfl, b.ob, TN.cl, TN.n_row_list, nl_r, rl, _, rfl, SqL.of b.ra, fun D hD => ?_⟩
    refine lc_it (walk_enum (K := K) (a := rl) (xs := rv)) (fun i G => Same H G ∧ G D = some (.lst (((List.range i).filter (kpAt n.rows)).map nI))) ⟨same_new hD, upd_same⟩ (fun i G _ hP => SqL.of (hP.1 _ _ b.ra)) (fun i v G G' hi hP hY => ?_) (fun G hP => ?_)
    · obtain ⟨s1, hd⟩ := hP
      obtain ⟨Tp, u, v', rfl, nT, rfl, e1, e2⟩ := hY
      cases e1
      obtain ⟨rp, xs, rfl, ex, hrp⟩ := b.rs.get e2
      rw [List.getElem?_map] at ex
      obtain ⟨r, er, rfl⟩ := Option.map_eq_some_iff.mp ex
      have sN := same_new (o := .tup [.int (i : Nat), .ref rp]) nT
      have S := s1.trans sN
      have ek := kp_of er
      have lt : (((List.range i).filter (kpAt n.rows)).map nI).length < sizeLine := by
        rw [List.length_map]
        refine sl_lt (Nat.le_trans (List.length_filter_le _ _) ?_)
        rw [List.length_range]
        omega
      refine ⟨Tp, _, rfl, SqT.of upd_same, rfl, _, _, rfl, _, _, rfl, rfl, rfl, ?_⟩
      refine ⟨_, rfl, rp, _, 0, .str r.kd.s, rfl, rfl, SqT.of (S _ _ hrp), atI_nat (j := 0) r.vs0, rfl, _, rfl, ?_⟩
      by_cases k1 : r.kd = .keep
      · refine iteC (d := true) (by rw [k1]; exact decide_eq_true rfl) (iteT ⟨_, rfl, _, sN _ _ hd, lt, fun c o e => ?_, ?_⟩)
        · rw [upd_ne (ne_of_none e hD)]
          exact S _ _ e
        · rw [upd_same, range_filt, ek, k1, if_pos (show Kd7.keep.isKp = true from rfl), List.map_append]
          rfl
      · refine iteC (d := false) (decide_eq_false (fun z => kd_ne _ _ k1 (V.str.inj z))) (iteF ⟨S, ?_⟩)
        rw [range_filt, ek, kp_no k1, if_neg (by decide), List.append_nil]
        exact sN _ _ hd
    · obtain ⟨s1, hd⟩ := hP
      rw [lr] at hd
      exact q D _ hD s1 hd
theorem sc_went_over : FnScope ["net", "row", "numbers", "word", "form", "at"] ["net", "row", "numbers"] (defScope s_went_over) := ⟨rfl, rfl, rfl, by decide +kernel, rfl, by decide +kernel, by decide +kernel⟩
theorem ok_went_over {f : Addr} {fd : FuncData} {C CN : Addr} (T : FTxt K mg C) (TN : NTxt K mg CN) (F : Fun K "went_over" "went_over" s_went_over f fd) (n_forms : CalM P w K mg base 1 CN "forms" ["self"] (spFormsM C CN)) (n_rows : CalM P w K mg base 1 CN "rows" ["self"] (spRowsM C CN)) (n_points : CalM P w K mg base 1 CN "points" ["self"] (spPtsM C CN)) (m_kept_at : CalM P w K mg base 5 C "kept_at" ["self", "number", "point"] (spKeptAt C)) : FnOk P w K mg base CX0 6 f fd ["net", "row", "numbers"] (spWent C CN) := by
  refine F.ok sc_went_over (fun vs H Q E h => ?_) (fun cdv A outer s H vs Q E hr h => ?_)
  · obtain ⟨p, na, n, i, nums, f, a, rfl, _⟩ := h
    rfl
  · obtain ⟨p, na, n, i, nums, f, a, rfl, hn, er, hna, no, q⟩ := h
    refine ⟨_, (pss_cons (ps_asg (pe_ix ix_list (pe_calm0 (pv 0) TN.cl n_rows hr) (pv 1) (fun _ _ => rfl)) (pg_tup (by rfl) (pgs_cons (pg_name (i := 3) sc_went_over.nd rfl (.inl rfl)) (pgs_cons (pg_name (i := 4) sc_went_over.nd rfl (.inl rfl)) (pgs_cons (pg_name (i := 5) sc_went_over.nd rfl (.inl rfl)) pgs_nil)))))
      (pss_one (ps_ret (pe_cmpR op_ne (pe_ix ix_tup (pe_calm (pe_ix ix_list (pe_calm0 (pv 0) TN.cl n_forms hr) (pv 4) (fun _ _ => rfl)) T.cl m_kept_at hr (pa_cons (pe_ix ix_list (pv 2) (pv 5) (fun _ _ => rfl)) (pa_cons (pe_ix ix_list (pe_calm0 (pv 0) TN.cl n_points hr) (pv 5) (fun _ _ => rfl)) pa_nil))) pe_int (fun _ _ => rfl)) pe_int (nomark _))))), ?_⟩
    obtain ⟨ok, dx, fl, rl, hl, pl, fv, rv, hv, b⟩ := id hn
    obtain ⟨hf, ha⟩ := ok.ro i _ er
    have il := (List.getElem?_eq_some_iff.mp er).1
    have lp := pts_len n
    refine ⟨_, rfl, p, dx, _, rfl, b.ob, nl_no (by decide +kernel), p, n, rfl, hn, fun rl2 rv2 H1 hr1 s1 h_rl2 hrr => ?_⟩
    obtain ⟨rp, erp, hrp⟩ := hrr.at (i := i) (xs := (Row.keep f a).vs) (by rw [List.getElem?_map, er]; rfl)
    refine ⟨_, rfl, rl2, _, _, .ref rp, rfl, rfl, SqL.of h_rl2, atI_nat erp, rp, _, rfl, SqT.of hrp, rfl, _, _, rfl, _, _, rfl, _, _, rfl, rfl, ?_⟩
    refine ⟨_, rfl, p, dx, _, rfl, s1 _ _ b.ob, nl_no (by decide +kernel), p, n, rfl, hn.same s1, fun fl2 fv2 H2 hf1 s2 h_fl2 hff => ?_⟩
    obtain ⟨fp, efp, hfp⟩ := hff.frm hf
    obtain ⟨dxf, hof⟩ := hfp.ob
    have S2 := s1.trans s2
    refine ⟨_, rfl, fl2, _, _, .ref fp, rfl, rfl, SqL.of h_fl2, atI_nat efp, fp, dxf, _, rfl, hof, fl_no (by decide +kernel), _, rfl, _, rfl, na, _, _, _, rfl, rfl, SqL.of (S2 _ _ hna), ints_at (by rw [no.len]; omega), ?_⟩
    refine ⟨_, rfl, p, dx, _, rfl, S2 _ _ b.ob, nl_no (by decide +kernel), p, n, rfl, hn.same S2, fun pl2 H3 hp1 s3 h_pl2 => ?_⟩
    have hb : -200 ≤ n.pts.getD a 0 ∧ n.pts.getD a 0 ≤ 200 := ok.po _ (by
      rw [List.getD_eq_getElem?_getD, List.getElem?_eq_getElem (by omega)]
      exact List.getElem_mem _)
    refine ⟨_, rfl, pl2, _, _, _, rfl, rfl, SqL.of h_pl2, ints_at (by omega), fp, _, _, _, _, _, _, rfl, hfp.same s3, hb.1, hb.2, getD_lt no.sz (Nat.pow_pos (by decide)), fun t H4 ht s4 h_t => ?_⟩
    refine ⟨t, _, 1, _, rfl, rfl, SqT.of h_t, a1, rfl, ?_⟩
    have := q H4 ((S2.trans s3).trans s4)
    have e : wentAt n nums i = !decide (V.int (wentV n nums f a) = V.int 0) := by
      unfold wentAt
      rw [er]
    rw [e] at this
    exact this
theorem sc_overs : FnScope ["net", "numbers", "row"] ["net", "numbers"] (defScope s_overs) := ⟨rfl, rfl, rfl, by decide +kernel, rfl, by decide +kernel, by decide +kernel⟩
theorem ok_overs {f : Addr} {fd : FuncData} {C CN : Addr} (TN : NTxt K mg CN) (F : Fun K "overs" "overs" s_overs f fd) (n_keeps : CalM P w K mg base 1 CN "keeps" ["self"] (spKeepsM C CN)) (c_went_over : Cal P w K mg base 6 "went_over" ["net", "row", "numbers"] (spWent C CN)) : FnOk P w K mg base CX0 7 f fd ["net", "numbers"] (spOvers C CN) := by
  refine F.ok sc_overs (fun vs H Q E h => ?_) (fun cdv A outer s H vs Q E hr h => ?_)
  · obtain ⟨p, na, n, nums, rfl, _⟩ := h
    rfl
  · obtain ⟨p, na, n, nums, rfl, hn, hna, no, q⟩ := h
    refine ⟨_, (pss_one (ps_ret (pe_lc (own := [("row", 2)]) (g := gName 2) (te := (tVar 2)) (tt := (tB (tCall (spWent C CN) [] E0 (tCons (tVar 0) (tCons (tVar 2) (tCons (tVar 1) tNil)))))) (by rfl) sc_overs.nd (pi_list (pe_calm0 (pv 0) TN.cl n_keeps hr)) (blkOk_by (own := [("row", 2)]) (N := ["net", "numbers", "row"]) (sc := defScope s_overs) (by decide +kernel)) (fun _ _ _ _ _ => by exact (pg_name (i := 2) sc_overs.nd rfl (.inl rfl))) (fun _ _ _ _ _ => by exact (pts_one (pt_val (pe_cal c_went_over hr (pa_cons (pv 0) (pa_cons (pv 2) (pa_cons (pv 1) pa_nil))))))) (fun _ _ _ _ _ => by exact (pv 2))))), ?_⟩
    obtain ⟨ok, dx, fl, rl, hl, pl, fv, rv, hv, b⟩ := id hn
    have r60 := ok.r2
    have kl : (keepsOf n.rows).length ≤ 60 := by
      refine Nat.le_trans (List.length_filter_le _ _) ?_
      rw [List.length_range]
      omega
    refine ⟨_, rfl, p, dx, _, rfl, b.ob, nl_no (by decide +kernel), p, n, rfl, hn, fun kl2 H1 hk1 s1 h_kl => ?_⟩
    refine ⟨kl2, rfl, ⟨_, SqL.of h_kl⟩, fun D hD => ?_⟩
    refine lc_it (walk_list (K := K) (a := kl2) (xs := (keepsOf n.rows).map nI)) (fun i G => Same H1 G ∧ G D = some (.lst ((((keepsOf n.rows).take i).filter (wentAt n nums)).map nI))) ⟨same_new hD, upd_same⟩ (fun i G _ hP => SqL.of (hP.1 _ _ h_kl)) (fun i v G G' hi hP hY => ?_) (fun G hP => ?_)
    · obtain ⟨s2, hd⟩ := hP
      obtain ⟨rfl, hx⟩ := hY
      rw [List.getElem?_map] at hx
      obtain ⟨j, ej, rfl⟩ := Option.map_eq_some_iff.mp hx
      obtain ⟨f, a, er⟩ := keeps_at (List.mem_of_getElem? ej)
      have S := s1.trans s2
      have et : ((keepsOf n.rows).take (i + 1)).filter (wentAt n nums) = ((keepsOf n.rows).take i).filter (wentAt n nums) ++ (if wentAt n nums j = true then [j] else []) := by
        rw [List.take_add_one, ej, List.filter_append, Option.toList_some, filt_one]
      refine ⟨rfl, _, rfl, _, rfl, _, rfl, p, na, n, j, nums, f, a, rfl, hn.same S, er, S _ _ hna, no, fun H3 s3 => ⟨_, rfl, ite2 (fun c => ?_) (fun c => ?_)⟩⟩
      · refine ⟨_, rfl, _, s3 _ _ hd, ?_, fun b' o e => ?_, ?_⟩
        · rw [List.length_map]
          refine sl_lt (Nat.le_trans (List.length_filter_le _ _) ?_)
          rw [List.length_take]
          omega
        · rw [upd_ne (ne_of_none e hD)]
          exact s3 _ _ (s2 _ _ e)
        · rw [upd_same, et, if_pos c, List.map_append]
          rfl
      · refine ⟨s2.trans s3, ?_⟩
        rw [et, if_neg c, List.append_nil]
        exact s3 _ _ hd
    · obtain ⟨s2, hd⟩ := hP
      rw [List.length_map, List.take_length, overs_is] at hd
      exact q D _ (s1.free hD) (s1.trans s2) hd
end
end E1

namespace E1
open PySem PySem.Spec PyProof.Rows L2
def spLRound : Sp := fun vs H Q _ => ∃ (t b : Int) (m : Mn), vs = [.int t, .int b, .str m.str] ∧ 0 < b ∧ b.natAbs < 2 ^ 4000 ∧ ∀ H', Same H H' → Q (.int (lawR m t b)) H'
theorem lawR_zero (m : Mn) {t b : Int} (hb : 0 < b) (h : t % b = 0) : lawR m t b = t / b := by
  cases m <;> simp [lawR, h, hb]
/-- the law's own word -/
def wordL (w : Option Int) (st : Bool) (n : Int) : Int := match w with
  | none => n
  | some x => if st = true then (if (if n < two (x - 1) - 1 then n else two (x - 1) - 1) > 0 - two (x - 1) then (if n < two (x - 1) - 1 then n else two (x - 1) - 1) else 0 - two (x - 1)) else (n + two (x - 1)) % (2 * two (x - 1)) - two (x - 1)
theorem two_succ {x : Int} (h : 1 ≤ x) : two x = 2 * two (x - 1) := by
  unfold two
  have e : x.toNat = (x - 1).toNat + 1 := by omega
  rw [e, Int.pow_succ, Int.mul_comm]
theorem word_is {w : Option Int} (hw : WOk w) (st : Bool) (n : Int) : wordF w st n = wordL w st n := by
  cases w with
  | none => rfl
  | some x =>
    obtain ⟨h1, h2⟩ := hw x rfl
    have r0 := two_pos (x - 1)
    have e := two_succ (x := x) (by omega)
    show (if (decide (lst x ≤ n) && decide (n ≤ grt x)) = true then n else if st = true then (if n < 0 then lst x else grt x) else (n - lst x) % two x + lst x) = (if st = true then (if (if n < two (x - 1) - 1 then n else two (x - 1) - 1) > 0 - two (x - 1) then (if n < two (x - 1) - 1 then n else two (x - 1) - 1) else 0 - two (x - 1)) else (n + two (x - 1)) % (2 * two (x - 1)) - two (x - 1))
    unfold lst grt
    rw [e]
    generalize two (x - 1) = r at *
    by_cases hi : (decide (-r ≤ n) && decide (n ≤ r - 1)) = true
    · rw [if_pos hi]
      rw [Bool.and_eq_true, decide_eq_true_eq, decide_eq_true_eq] at hi
      cases st with
      | true =>
        rw [if_pos rfl]
        split <;> split <;> omega
      | false =>
        rw [if_neg Bool.false_ne_true]
        have := Int.emod_eq_of_lt (a := n + r) (b := 2 * r) (by omega) (by omega)
        rw [this]
        omega
    · rw [if_neg hi]
      rw [Bool.and_eq_true, decide_eq_true_eq, decide_eq_true_eq] at hi
      cases st with
      | true =>
        rw [if_pos rfl, if_pos rfl]
        split <;> split <;> (try split) <;> omega
      | false =>
        rw [if_neg Bool.false_ne_true, if_neg Bool.false_ne_true, show n - -r = n + r by omega]
        omega

theorem word_bd {y : Int} (h : WOk (some y)) (st : Bool) (n : Int) : (wordF (some y) st n).natAbs < 2 ^ 70 := by
  rw [word_is h]
  obtain ⟨y0, y1⟩ := h y rfl
  have t1 : (two (y - 1)).natAbs ≤ 2 ^ 64 := by
    unfold two
    rw [Int.natAbs_pow]
    exact Nat.pow_le_pow_right (by decide) (by omega)
  have p1 := two_pos (y - 1)
  have b1 : (2 : Nat) ^ 70 = 2 ^ 64 * 64 := by decide
  show (if st = true then (if (if n < two (y - 1) - 1 then n else two (y - 1) - 1) > 0 - two (y - 1) then (if n < two (y - 1) - 1 then n else two (y - 1) - 1) else 0 - two (y - 1)) else (n + two (y - 1)) % (2 * two (y - 1)) - two (y - 1)).natAbs < 2 ^ 70
  have m0 := Int.emod_nonneg (n + two (y - 1)) (show 2 * two (y - 1) ≠ 0 by omega)
  have m1 := Int.emod_lt_of_pos (n + two (y - 1)) (show 0 < 2 * two (y - 1) by omega)
  rw [b1]
  generalize (n + two (y - 1)) % (2 * two (y - 1)) = u at *
  generalize two (y - 1) = t at *
  generalize (2 : Nat) ^ 64 = N at *
  cases st with
  | true =>
    rw [if_pos rfl]
    split <;> split <;> omega
  | false =>
    rw [if_neg (by decide)]
    omega
/-- a state's size behind so many turns -/
def SzS (n : NetP) (i : Nat) (st : List Int) : Prop := (∀ k ∈ st, k.natAbs < 2 ^ 70) ∨ (Calm n ∧ ∀ k ∈ st, k.natAbs < 2 ^ (70 + 2700 * i))
theorem behind_of {n : NetP} {nums : List Int} {k : Int} (h : k ∈ n.behind nums) : ∃ h ∈ n.holds, k = nums.getD h.l 0 := by
  unfold NetP.behind at h
  obtain ⟨x, hx, rfl⟩ := List.mem_map.mp h
  exact ⟨x, hx, rfl⟩
theorem turn_sz {n : NetP} (ok : NetOk n) (ml : Mild n) {x : Int} {st : List Int} {i : Nat} (hx : x.natAbs < 2 ^ 70) (h : SzS n i st) (hi : i < 300) : NumOk n x st ∧ SzS n (i + 1) (n.behind (n.nums x st)) := by
  have r60 := ok.r2
  rcases h with h | ⟨cm, h⟩
  · have a := all_take (num_lt ok ⟨hx, h⟩ n.rows.length (Nat.le_refl _))
    refine ⟨fun k hk => num_big r60 (a k hk), ?_⟩
    rcases ml with bd | cm
    · refine .inl fun k hk => ?_
      obtain ⟨hh, hm, rfl⟩ := behind_of hk
      obtain ⟨hf, _, b, eb⟩ := ok.ho hh hm
      have ef := List.getElem?_eq_getElem hf
      have e := accL_at (g := numRow n.fs n.pts x st) eb
      have e2 : (n.nums x st).getD hh.l 0 = numRow n.fs n.pts x st (accL (numRow n.fs n.pts x st) (n.rows.take hh.l)) (.keep hh.k b) := by
        unfold NetP.nums
        rw [List.getD_eq_getElem?_getD, e]
        rfl
      rw [e2]
      have wo := (ok.fo _ (List.getElem_mem hf)).wo
      have wn := bd _ (List.getElem_mem hf)
      have efr := frm_at ef
      show (wordF (frm n.fs hh.k).w (frm n.fs hh.k).st _).natAbs < 2 ^ 70
      rw [efr]
      cases hw : n.fs[hh.k].w with
      | none => exact absurd hw wn
      | some y =>
        rw [hw] at wo
        exact word_bd wo _ _
    · refine .inr ⟨cm, fun k hk => ?_⟩
      obtain ⟨hh, hm, rfl⟩ := behind_of hk
      have ln := cm.ln
      exact up (getD_lt (all_take (num_calm ok cm (Nat.le_refl _) hx h n.rows.length (Nat.le_refl _))) (Nat.pow_pos (by decide))) (by omega)
  · have ln := cm.ln
    have a := all_take (num_calm ok cm (show 70 ≤ 70 + 2700 * i by omega) hx h n.rows.length (Nat.le_refl _))
    refine ⟨fun k hk => up (a k hk) (by omega), .inr ⟨cm, fun k hk => ?_⟩⟩
    obtain ⟨hh, hm, rfl⟩ := behind_of hk
    exact up (getD_lt a (Nat.pow_pos (by decide))) (by omega)
/-- what a run tells, and the state behind -/
def runF (n : NetP) (st : List Int) (xs : List Int) : List Int × List Int := xs.foldl (fun p x => (p.1 ++ [(n.nums x p.2).getD n.out 0], n.behind (n.nums x p.2))) ([], st)
theorem runF_next {n : NetP} {st xs : List Int} {i : Nat} {x : Int} (h : xs[i]? = some x) : runF n st (xs.take (i + 1)) = ((runF n st (xs.take i)).1 ++ [(n.nums x (runF n st (xs.take i)).2).getD n.out 0], n.behind (n.nums x (runF n st (xs.take i)).2)) := by
  unfold runF
  rw [List.take_add_one, h, Option.toList_some, List.foldl_append]
  rfl
theorem run_facts {n : NetP} {st xs : List Int} (hl : st.length = n.holds.length) : ∀ i, i ≤ xs.length → (runF n st (xs.take i)).1.length = i ∧ (runF n st (xs.take i)).2.length = n.holds.length := by
  intro i
  induction i with
  | zero => exact fun _ => ⟨rfl, hl⟩
  | succ i ih =>
    intro hi
    obtain ⟨x, ex⟩ : ∃ x, xs[i]? = some x := ⟨_, List.getElem?_eq_getElem (by omega)⟩
    rw [runF_next ex]
    refine ⟨?_, ?_⟩
    · rw [List.length_append, (ih (by omega)).1]
      rfl
    · show (n.behind _).length = _
      unfold NetP.behind
      rw [List.length_map]
def RunOk (n : NetP) (st xs : List Int) : Prop := xs.length ≤ 300 ∧ ∀ i x, xs[i]? = some x → NumOk n x (runF n st (xs.take i)).2
theorem run_ok {n : NetP} (ok : NetOk n) (ml : Mild n) {st xs : List Int} (h0 : ∀ k ∈ st, k.natAbs < 2 ^ 70) (hx : ∀ x ∈ xs, x.natAbs < 2 ^ 70) (hl : xs.length ≤ 300) : RunOk n st xs := by
  have key : ∀ i, i ≤ xs.length → SzS n i (runF n st (xs.take i)).2 := by
    intro i
    induction i with
    | zero => exact fun _ => .inl h0
    | succ i ih =>
      intro hi
      obtain ⟨x, ex⟩ : ∃ x, xs[i]? = some x := ⟨_, List.getElem?_eq_getElem (by omega)⟩
      rw [runF_next ex]
      exact (turn_sz ok ml (hx x (List.mem_of_getElem? ex)) (ih (by omega)) (by omega)).2
  refine ⟨hl, fun i x ex => ?_⟩
  have il := (List.getElem?_eq_some_iff.mp ex).1
  exact (turn_sz ok ml (hx x (List.mem_of_getElem? ex)) (key i (by omega)) (by omega)).1
def starts (n : NetP) : List Int := n.holds.map (·.s)
def spStartM (C CN : Addr) : Sp := fun vs H Q _ => ∃ (p : Addr) (n : NetP), vs = [.ref p] ∧ NetAt C CN H p n ∧ ∀ t H', H t = none → Same H H' → H' t = some (.tup ((starts n).map V.int)) → Q (.ref t) H'
def spOutM (C CN : Addr) : Sp := fun vs H Q _ => ∃ (p : Addr) (n : NetP), vs = [.ref p] ∧ NetAt C CN H p n ∧ Q (.int n.out) H
def spFirst (C CN : Addr) : Sp := fun vs H Q _ => ∃ (p : Addr) (n : NetP) (v : V) (st : List Int), vs = [.ref p, v] ∧ NetAt C CN H p n ∧ ((v = .non ∧ st = starts n) ∨ ∃ sa, v = .ref sa ∧ H sa = some (.tup (st.map V.int)) ∧ StOk n st) ∧ ∀ t H', Same H H' → H' t = some (.tup (st.map V.int)) → Q (.ref t) H'
def spCkRun (C CN : Addr) : Sp := fun vs H Q _ => ∃ (p wl : Addr) (n : NetP) (xs : List Int), vs = [.ref p, .ref wl] ∧ NetAt C CN H p n ∧ H wl = some (.lst (xs.map V.int)) ∧ (∀ x ∈ xs, inR (frm n.fs n.en).w x = true) ∧ ∀ H', Same H H' → Q .non H'
def spRun (C CN : Addr) : Sp := fun vs H Q _ => ∃ (p wl : Addr) (n : NetP) (xs : List Int) (v : V) (st : List Int), vs = [.ref p, .ref wl, v] ∧ NetAt C CN H p n ∧ H wl = some (.lst (xs.map V.int)) ∧ (∀ x ∈ xs, inR (frm n.fs n.en).w x = true) ∧ ((v = .non ∧ st = starts n) ∨ ∃ sa, v = .ref sa ∧ H sa = some (.tup (st.map V.int)) ∧ StOk n st) ∧ st.length = n.holds.length ∧ RunOk n st xs ∧
  ∀ l H', H l = none → Same H H' → H' l = some (.lst ((runF n st xs).1.map V.int)) → Q (.ref l) H'
section
variable {P : Program} {w : World} {K : PySem.W.Frag} {mg : Str → Option Value} {base : Heap}
theorem sc_Net_start : FnScope ["self", "hold"] ["self"] (defScope s_Net_start) := ⟨rfl, rfl, rfl, by decide +kernel, rfl, by decide +kernel, by decide +kernel⟩
theorem ok_Net_start {f : Addr} {fd : FuncData} {k : Nat} {C CN : Addr} (TN : NTxt K mg CN) (F : Fun K "start" "Net.start" s_Net_start f fd) (z : Zs mg) : FnOk P w K mg base CX0 (k + 1) f fd ["self"] (spStartM C CN) := by
  refine F.ok sc_Net_start (fun vs H Q E h => ?_) (fun cdv A outer s H vs Q E hr h => ?_)
  · obtain ⟨p, n, rfl, _⟩ := h
    rfl
  · obtain ⟨p, n, rfl, ⟨ok, dx, fl, rl, hl2, pl, fv, rv, hv, b⟩, q⟩ := h
    refine ⟨_, (pss_one (ps_ret (pe_callTy call_tuple_of (by rfl) z.tuple (by decide +kernel) (pa_cons (pe_lc (own := [("hold", 1)]) (g := gName 1) (tt := tYes) (te := (tOp (rIxT K) (tVar 1) (tC (.int 1)))) (by rfl) sc_Net_start.nd (pi_list (pe_fld (pv 0) rfl)) (blkOk_by (own := [("hold", 1)]) (N := ["self", "hold"]) (sc := defScope s_Net_start) (by decide +kernel)) (fun _ _ _ _ _ => by exact (pg_name (i := 1) sc_Net_start.nd rfl (.inl rfl))) (fun _ _ _ _ _ => by exact pts_nil) (fun _ _ _ _ _ => by exact (pe_ix ix_tup (pv 1) pe_int (fun _ _ => rfl)))) pa_nil)))), ?_⟩
    have lh := b.hs.len
    rw [List.length_map] at lh
    have h6 := ok.h2
    refine ⟨_, rfl, p, CN, dx, _, _, rfl, b.ob, TN.cl, TN.n_hold_list, nl_h, hl2, rfl, ⟨_, SqL.of b.ha⟩, fun D hD => ?_⟩
    refine lc_it (walk_list (K := K) (a := hl2) (xs := hv)) (fun i G => Same H G ∧ G D = some (.lst (((n.holds.take i).map (·.s)).map V.int))) ⟨same_new hD, upd_same⟩ (fun i G _ hP => SqL.of (hP.1 _ _ b.ha)) (fun i v G G' hi hP hY => ?_) (fun G hP => ?_)
    · obtain ⟨s3, hd⟩ := hP
      obtain ⟨rfl, e1⟩ := hY
      obtain ⟨hp, xs, rfl, ex, hhp⟩ := b.hs.get e1
      rw [List.getElem?_map] at ex
      obtain ⟨hh, eh, rfl⟩ := Option.map_eq_some_iff.mp ex
      refine ⟨rfl, _, rfl, hp, _, 1, .int hh.s, rfl, rfl, SqT.of (s3 _ _ hhp), a1, _, hd, ?_, fun c o e => ?_, ?_⟩
      · rw [List.length_map, List.length_map, List.length_take]
        exact sl_lt (by omega)
      · rw [upd_ne (ne_of_none e hD)]
        exact s3 _ _ e
      · rw [upd_same, List.take_add_one, eh, List.map_append, List.map_append]
        rfl
    · obtain ⟨s3, hd⟩ := hP
      rw [lh, List.take_length] at hd
      refine ⟨D, _, rfl, .inl ⟨SqL.of hd, fun t ht => ?_⟩⟩
      generalize hG : upd _ t _ = G2
      obtain ⟨s4, h_t⟩ := upd_gen hG ht
      exact q t _ (s3.free ht) (s3.trans s4) h_t
theorem sc_Net_out : FnScope ["self"] ["self"] (defScope s_Net_out) := ⟨rfl, rfl, rfl, by decide +kernel, rfl, by decide +kernel, by decide +kernel⟩
theorem ok_Net_out {f : Addr} {fd : FuncData} {k : Nat} {C CN : Addr} (TN : NTxt K mg CN) (F : Fun K "out" "Net.out" s_Net_out f fd) : FnOk P w K mg base CX0 (k + 1) f fd ["self"] (spOutM C CN) := by
  refine F.ok sc_Net_out (fun vs H Q E h => ?_) (fun cdv A outer s H vs Q E hr h => ?_)
  · obtain ⟨p, n, rfl, _⟩ := h
    rfl
  · obtain ⟨p, n, rfl, ⟨ok, dx, fl, rl, hl2, pl, fv, rv, hv, b⟩, q⟩ := h
    refine ⟨_, (pss_one (ps_ret (pe_fld (pv 0) rfl))), ?_⟩
    exact ⟨_, rfl, p, CN, dx, _, _, rfl, b.ob, TN.cl, TN.n_out_at, nl_o, q⟩
theorem sc_first_state : FnScope ["net", "state"] ["net", "state"] (defScope s_first_state) := ⟨rfl, rfl, rfl, by decide +kernel, rfl, by decide +kernel, by decide +kernel⟩
theorem ok_first_state {f : Addr} {fd : FuncData} {C CN : Addr} (TN : NTxt K mg CN) (F : Fun K "first_state" "first_state" s_first_state f fd) (n_start : CalM P w K mg base 1 CN "start" ["self"] (spStartM C CN)) (c_check_state : Cal P w K mg base 4 "check_state" ["net", "state"] (spCkState C CN)) : FnOk P w K mg base CX0 5 f fd ["net", "state"] (spFirst C CN) := by
  refine F.ok sc_first_state (fun vs H Q E h => ?_) (fun cdv A outer s H vs Q E hr h => ?_)
  · obtain ⟨p, n, v, st, rfl, _⟩ := h
    rfl
  · obtain ⟨p, n, v, st, rfl, hn, hv, q⟩ := h
    refine ⟨_, (pss_cons (ps_if (pt_cmpR op_isN (pv 1) pe_non (nomark _)) (pss_one (ps_ret (pe_calm0 (pv 0) TN.cl n_start hr))) pss_nil)
      (pss_cons (ps_expr (pe_cal c_check_state hr (pa_cons (pv 0) (pa_cons (pv 1) pa_nil))))
      (pss_one (ps_ret (pv 1))))), ?_⟩
    obtain ⟨ok, dx, fl, rl, hl, pl, fv, rv, hv2, b⟩ := id hn
    rcases hv with ⟨rfl, rfl⟩ | ⟨sa, rfl, hsa, so⟩
    · exact ⟨_, rfl, rfl, _, rfl, iteC (d := true) (decide_eq_true rfl) (iteT ⟨_, rfl, p, dx, _, rfl, b.ob, nl_no (by decide +kernel), p, n, rfl, hn, fun t H' ht s h_t => q t H' s h_t⟩)⟩
    · exact ⟨_, rfl, rfl, _, rfl, iteC (d := false) (decide_eq_false (fun z => nomatch z)) (iteF ⟨_, rfl, _, rfl, p, sa, n, st, rfl, hn, hsa, so, fun H' s => ⟨_, rfl, q sa H' s (s _ _ hsa)⟩⟩)⟩
end
end E1

namespace E1
open PySem PySem.Spec PyProof.Rows L2

/-- a turn that stands: its numbers and the state behind -/
structure Trn where
  nums : List Int
  aft : List Int
inductive PsAt (n : NetP) (A : Addr → Prop) (H : Hp) : List V → List Trn → Prop where
  | nil : PsAt n A H [] []
  | snoc {vs : List V} {ts : List Trn} {t l o s : Addr} {r : Trn} (p : PsAt n A H vs ts) (ht : H t = some (.tup [.ref l, .ref o, .ref s])) (hl : H l = some (.lst (r.nums.map V.int))) (ho : H o = some (.lst ((oversOf n r.nums).map nI))) (hs : H s = some (.tup (r.aft.map V.int))) (nl : ¬ A l) (no : ¬ A o) : PsAt n A H (vs ++ [.ref t]) (ts ++ [r])
theorem PsAt.same {n : NetP} {A : Addr → Prop} {H H' : Hp} {vs : List V} {ts : List Trn} (h : PsAt n A H vs ts) (s : Same H H') : PsAt n A H' vs ts := by
  induction h with
  | nil => exact .nil
  | snoc _ ht hl ho hs nl no ih => exact .snoc ih (s _ _ ht) (s _ _ hl) (s _ _ ho) (s _ _ hs) nl no
theorem PsAt.keep {n : NetP} {A : Addr → Prop} {x : Addr} {H H' : Hp} {vs : List V} {ts : List Trn} (h : PsAt n A H vs ts) (s : SameBut x H H') (ax : A x) {xs : List V} (hp : H x = some (.lst xs)) : PsAt n A H' vs ts := by
  induction h with
  | nil => exact .nil
  | snoc _ ht hl ho hs nl no ih => exact .snoc ih (s _ _ (ne_of ht hp (fun z => nomatch z)) ht) (s _ _ (fun z => nl (z ▸ ax)) hl) (s _ _ (fun z => no (z ▸ ax)) ho) (s _ _ (ne_of hs hp (fun z => nomatch z)) hs) nl no
/-- one more list to be kept off -/
theorem PsAt.grow {n : NetP} {A : Addr → Prop} {x : Addr} {H : Hp} {vs : List V} {ts : List Trn} (h : PsAt n A H vs ts) (hx : H x = none) : PsAt n (fun y => A y ∨ y = x) H vs ts := by
  induction h with
  | nil => exact .nil
  | snoc _ ht hl ho hs nl no ih => exact .snoc ih ht hl ho hs (fun z => z.elim nl fun e => by rw [e, hx] at hl; cases hl) (fun z => z.elim no fun e => by rw [e, hx] at ho; cases ho)
theorem PsAt.len {n : NetP} {A : Addr → Prop} {H : Hp} {vs : List V} {ts : List Trn} (h : PsAt n A H vs ts) : vs.length = ts.length := by
  induction h with
  | nil => rfl
  | snoc _ _ _ _ _ _ _ ih => rw [List.length_append, List.length_append, ih]; rfl
/-- the last turn -/
theorem PsAt.last {n : NetP} {A : Addr → Prop} {H : Hp} {vs : List V} {ts : List Trn} (h : PsAt n A H vs ts) : (vs = [] ∧ ts = []) ∨ ∃ vs' ts' t l o s r, vs = vs' ++ [.ref t] ∧ ts = ts' ++ [r] ∧ H t = some (.tup [.ref l, .ref o, .ref s]) ∧ H l = some (.lst (r.nums.map V.int)) ∧ H o = some (.lst ((oversOf n r.nums).map nI)) ∧ H s = some (.tup (r.aft.map V.int)) := by
  cases h with
  | nil => exact .inl ⟨rfl, rfl⟩
  | snoc _ ht hl ho hs _ _ => exact .inr ⟨_, _, _, _, _, _, _, rfl, rfl, ht, hl, ho, hs⟩
def mflds (fs np pl : Addr) : List (Str × V) := [("first", .ref fs), ("net", .ref np), ("past", .ref pl)]
structure MTxt (K : PySem.W.Frag) (mg : Str → Option Value) (CM : Addr) : Prop where
  cl : Cls K CM
  n_first : NoAttr K CM "first"
  n_net : NoAttr K CM "net"
  n_past : NoAttr K CM "past"
/-- a machine in the heap; B: what was there ahead of its list of turns; A: lists that its turns are kept off -/
structure MB (C CN CM : Addr) (A : Addr → Prop) (B H : Hp) (m pl : Addr) (n : NetP) (st0 : List Int) (hist : List Trn) (dx fs np : Addr) (pv : List V) : Prop where
  ob : H m = some (.ins CM dx (mflds fs np pl))
  bm : B m = none
  bp : B pl = none
  bs : Same B H
  net : NetAt C CN B np n
  fs : H fs = some (.tup (st0.map V.int))
  pa : H pl = some (.lst pv)
  ps : PsAt n A H pv hist
def MachAt (C CN CM : Addr) (A : Addr → Prop) (B H : Hp) (m pl : Addr) (n : NetP) (st0 : List Int) (hist : List Trn) : Prop := ∃ dx fs np pv, MB C CN CM A B H m pl n st0 hist dx fs np pv
section
variable {C CN CM : Addr} {A : Addr → Prop} {B H H' : Hp} {m pl : Addr} {n : NetP} {st0 : List Int} {hist : List Trn} {dx fs np : Addr} {pv : List V}
theorem MB.same (b : MB C CN CM A B H m pl n st0 hist dx fs np pv) (s : Same H H') : MB C CN CM A B H' m pl n st0 hist dx fs np pv :=
  ⟨s _ _ b.ob, b.bm, b.bp, b.bs.trans s, b.net, s _ _ b.fs, s _ _ b.pa, b.ps.same s⟩
theorem MachAt.same (h : MachAt C CN CM A B H m pl n st0 hist) (s : Same H H') : MachAt C CN CM A B H' m pl n st0 hist := by
  obtain ⟨dx, fs, np, pv, b⟩ := h
  exact ⟨dx, fs, np, pv, b.same s⟩
/-- under a turn of another machine -/
theorem MachAt.but {x : Addr} {xs : List V} (h : MachAt C CN CM A B H m pl n st0 hist) (s : SameBut x H H') (ax : A x) (hx : H x = some (.lst xs)) (bx : B x = none) (nx : pl ≠ x) : MachAt C CN CM A B H' m pl n st0 hist := by
  obtain ⟨dx, fs, np, pv, b⟩ := h
  exact ⟨dx, fs, np, pv, s _ _ (ne_of b.ob hx (fun z => nomatch z)) b.ob, b.bm, b.bp, same_but b.bs s bx, b.net, s _ _ (ne_of b.fs hx (fun z => nomatch z)) b.fs, s _ _ nx b.pa, b.ps.keep s ax hx⟩
theorem MachAt.lst (h : MachAt C CN CM A B H m pl n st0 hist) : ∃ xs, H pl = some (.lst xs) := by
  obtain ⟨dx, fs, np, pv, b⟩ := h
  exact ⟨pv, b.pa⟩
theorem MachAt.bp (h : MachAt C CN CM A B H m pl n st0 hist) : B pl = none := by
  obtain ⟨dx, fs, np, pv, b⟩ := h
  exact b.bp
theorem MachAt.bs (h : MachAt C CN CM A B H m pl n st0 hist) : Same B H := by
  obtain ⟨dx, fs, np, pv, b⟩ := h
  exact b.bs
end
/-- the state of a machine -/
def stOf (st0 : List Int) (hist : List Trn) : List Int := match hist.getLast? with
  | some r => r.aft
  | none => st0
theorem stOf_nil (st0 : List Int) : stOf st0 [] = st0 := rfl
theorem stOf_snoc (st0 : List Int) (ts : List Trn) (r : Trn) : stOf st0 (ts ++ [r]) = r.aft := by
  unfold stOf
  rw [List.getLast?_concat]
section
variable {fs np pl : Addr}
theorem mN1 : (("net" : Str) == "first") = false := by decide +kernel
theorem mN2 : (("past" : Str) == "first") = false := by decide +kernel
theorem mN3 : (("past" : Str) == "net") = false := by decide +kernel
theorem ml_f : (mflds fs np pl).lookup ("first" : Str) = some (.ref fs) := by
  unfold mflds
  rw [List.lookup_cons, beq_self_eq_true]
theorem ml_n : (mflds fs np pl).lookup ("net" : Str) = some (.ref np) := by
  unfold mflds
  rw [List.lookup_cons, mN1, List.lookup_cons, beq_self_eq_true]
theorem ml_p : (mflds fs np pl).lookup ("past" : Str) = some (.ref pl) := by
  unfold mflds
  rw [List.lookup_cons, mN2, List.lookup_cons, mN3, List.lookup_cons, beq_self_eq_true]
theorem ml_no {x : Str} (h : ((["first", "net", "past"] : List Str).map fun k => x == k) = [false, false, false]) : (mflds fs np pl).lookup x = none := by
  have e : ∀ i : Nat, ((["first", "net", "past"] : List Str).map fun k => x == k)[i]? = [false, false, false][i]? := fun i => by rw [h]
  have h0 : (x == ("first" : Str)) = false := Option.some.inj (e 0)
  have h1 : (x == ("net" : Str)) = false := Option.some.inj (e 1)
  have h2 : (x == ("past" : Str)) = false := Option.some.inj (e 2)
  unfold mflds
  rw [List.lookup_cons, h0, List.lookup_cons, h1, List.lookup_cons, h2]
  rfl
end
theorem at_last {xs : List V} {x : V} : atI (xs ++ [x]) (-1) = some x := by
  unfold atI ixN
  rw [if_neg (by decide), if_pos (by rw [List.length_append, List.length_singleton]; omega)]
  show (xs ++ [x])[((-1 : Int) + ((xs ++ [x]).length : Int)).toNat]? = some x
  rw [show ((-1 : Int) + ((xs ++ [x]).length : Int)).toNat = xs.length by rw [List.length_append, List.length_singleton]; omega, List.getElem?_append_right (Nat.le_refl _), Nat.sub_self]
  rfl
def spTurnsM (C CN CM : Addr) : Sp := fun vs H Q _ => ∃ (A : Addr → Prop) (B : Hp) (m pl : Addr) (n : NetP) (st0 : List Int) (hist : List Trn), vs = [.ref m] ∧ MachAt C CN CM A B H m pl n st0 hist ∧ Q (.int (hist.length : Nat)) H
def spStateM (C CN CM : Addr) : Sp := fun vs H Q _ => ∃ (A : Addr → Prop) (B : Hp) (m pl : Addr) (n : NetP) (st0 : List Int) (hist : List Trn), vs = [.ref m] ∧ MachAt C CN CM A B H m pl n st0 hist ∧ ∀ t, H t = some (.tup ((stOf st0 hist).map V.int)) → Q (.ref t) H
def lastN (hist : List Trn) : List Int := match hist.getLast? with
  | some r => r.nums
  | none => []
theorem lastN_snoc (ts : List Trn) (r : Trn) : lastN (ts ++ [r]) = r.nums := by
  unfold lastN
  rw [List.getLast?_concat]
def lastO (n : NetP) (hist : List Trn) : List Nat := match hist.getLast? with
  | some r => oversOf n r.nums
  | none => []
theorem lastO_snoc (n : NetP) (ts : List Trn) (r : Trn) : lastO n (ts ++ [r]) = oversOf n r.nums := by
  unfold lastO
  rw [List.getLast?_concat]
def spNumbersM (C CN CM : Addr) : Sp := fun vs H Q _ => ∃ (A : Addr → Prop) (B : Hp) (m pl : Addr) (n : NetP) (st0 : List Int) (hist : List Trn), vs = [.ref m] ∧ MachAt C CN CM A B H m pl n st0 hist ∧ ∀ l H', H l = none → Same H H' → H' l = some (.lst ((lastN hist).map V.int)) → Q (.ref l) H'
def spOversM (C CN CM : Addr) : Sp := fun vs H Q _ => ∃ (A : Addr → Prop) (B : Hp) (m pl : Addr) (n : NetP) (st0 : List Int) (hist : List Trn), vs = [.ref m] ∧ MachAt C CN CM A B H m pl n st0 hist ∧ ∀ l H', H l = none → Same H H' → H' l = some (.lst ((lastO n hist).map nI)) → Q (.ref l) H'
def spMInit (C CN CM : Addr) : Sp := fun vs H Q _ => ∃ (m dx np : Addr) (n : NetP) (v : V) (st : List Int) (B G : Hp), vs = [.ref m, .ref np, v] ∧ H m = some (.ins CM dx []) ∧ G m = none ∧ Same B G ∧ Same G H ∧ NetAt C CN B np n ∧ ((v = .non ∧ st = starts n) ∨ ∃ sa, v = .ref sa ∧ G sa = some (.tup (st.map V.int)) ∧ StOk n st) ∧
  ∀ pl H', (∀ A, MachAt C CN CM A B H' m pl n st []) → G pl = none → Same G H' → Q .non H'
theorem mf0 {a : V} : putF "first" a [] = [(("first" : Str), a)] := rfl
theorem mf1 {a b : V} : putF "net" b [(("first" : Str), a)] = [(("first" : Str), a), ("net", b)] := putF_app (show _ = true from (by decide +kernel : ((["first"] : List Str).all fun x => decide (x ≠ ("net" : Str))) = true))
theorem mf2 {a b c : V} : putF "past" c [(("first" : Str), a), ("net", b)] = [(("first" : Str), a), ("net", b), ("past", c)] := putF_app (show _ = true from (by decide +kernel : ((["first", "net"] : List Str).all fun x => decide (x ≠ ("past" : Str))) = true))
/-- a turn of a machine -/
def trn (n : NetP) (x : Int) (st : List Int) : Trn := ⟨n.nums x st, n.behind (n.nums x st)⟩
def spTurnM (C CN CM : Addr) : Sp := fun vs H Q _ => ∃ (A : Addr → Prop) (B : Hp) (m pl : Addr) (n : NetP) (st0 : List Int) (hist : List Trn) (x : Int), vs = [.ref m, .int x] ∧ MachAt C CN CM A B H m pl n st0 hist ∧ A pl ∧ (∀ y, A y → ∃ ys, H y = some (.lst ys)) ∧ inR (frm n.fs n.en).w x = true ∧ (stOf st0 hist).length = n.holds.length ∧ NumOk n x (stOf st0 hist) ∧ hist.length ≤ 2000 ∧
  ∀ H', SameBut pl H H' → MachAt C CN CM A B H' m pl n st0 (hist ++ [trn n x (stOf st0 hist)]) → Q (.int ((n.nums x (stOf st0 hist)).getD n.out 0)) H'
section
variable {P : Program} {w : World} {K : PySem.W.Frag} {mg : Str → Option Value} {base : Heap}
abbrev s_Machine___init__ : Stmt := inClass (topS 89) 0
abbrev s_Machine_turn : Stmt := inClass (topS 89) 1
abbrev s_Machine_turns : Stmt := inClass (topS 89) 2
abbrev s_Machine_state : Stmt := inClass (topS 89) 3
abbrev s_Machine_numbers : Stmt := inClass (topS 89) 4
abbrev s_Machine_overs : Stmt := inClass (topS 89) 5
abbrev s_Machine_went : Stmt := inClass (topS 89) 6
abbrev s_Machine_back : Stmt := inClass (topS 89) 7
abbrev s_Machine_twin : Stmt := inClass (topS 89) 8
theorem sc_Machine_turns : FnScope ["self"] ["self"] (defScope s_Machine_turns) := ⟨rfl, rfl, rfl, by decide +kernel, rfl, by decide +kernel, by decide +kernel⟩
theorem ok_Machine_turns {f : Addr} {fd : FuncData} {k : Nat} {C CN CM : Addr} (TM : MTxt K mg CM) (F : Fun K "turns" "Machine.turns" s_Machine_turns f fd) (z : Zs mg) : FnOk P w K mg base CX0 (k + 1) f fd ["self"] (spTurnsM C CN CM) := by
  refine F.ok sc_Machine_turns (fun vs H Q E h => ?_) (fun cdv A outer s H vs Q E hr h => ?_)
  · obtain ⟨A0, B, m, pl, n, st0, hist, rfl, _⟩ := h
    rfl
  · obtain ⟨A0, B, m, pl, n, st0, hist, rfl, ⟨dx, fs, np, pvs, b⟩, q⟩ := h
    refine ⟨_, (pss_one (ps_ret (pe_callB call_len_seq (by rfl) z.len PySem.boot_len (pa_cons (pe_fld (pv 0) rfl) pa_nil)))), ?_⟩
    have e := b.ps.len
    refine ⟨_, rfl, m, CM, dx, _, _, rfl, b.ob, TM.cl, TM.n_past, ml_p, pl, _, rfl, .inl (SqL.of b.pa), ?_⟩
    rw [e]
    exact q
theorem sc_Machine_state : FnScope ["self"] ["self"] (defScope s_Machine_state) := ⟨rfl, rfl, rfl, by decide +kernel, rfl, by decide +kernel, by decide +kernel⟩
theorem ok_Machine_state {f : Addr} {fd : FuncData} {k : Nat} {C CN CM : Addr} (TM : MTxt K mg CM) (F : Fun K "state" "Machine.state" s_Machine_state f fd) : FnOk P w K mg base CX0 (k + 1) f fd ["self"] (spStateM C CN CM) := by
  refine F.ok sc_Machine_state (fun vs H Q E h => ?_) (fun cdv A outer s H vs Q E hr h => ?_)
  · obtain ⟨A0, B, m, pl, n, st0, hist, rfl, _⟩ := h
    rfl
  · obtain ⟨A0, B, m, pl, n, st0, hist, rfl, ⟨dx, fs, np, pvs, b⟩, q⟩ := h
    refine ⟨_, (pss_one (ps_ret (pe_ifExp (pt_truth (pe_fld (pv 0) rfl) (by intro _; rfl)) (pe_ix ix_tup (pe_ix ix_list (pe_fld (pv 0) rfl) (pe_un un_neg pe_int) (fun _ _ => rfl)) pe_int (fun _ _ => rfl)) (pe_fld (pv 0) rfl)))), ?_⟩
    rcases b.ps.last with ⟨rfl, rfl⟩ | ⟨vs', ts', t, l, o, s, r, rfl, rfl, ht, hl, ho, hs⟩
    · exact ⟨_, rfl, m, CM, dx, _, _, rfl, b.ob, TM.cl, TM.n_past, ml_p, false, .inl ⟨_, SqL.of b.pa, rfl⟩, iteF ⟨_, rfl, m, CM, dx, _, _, rfl, b.ob, TM.cl, TM.n_first, ml_f, q fs b.fs⟩⟩
    · refine ⟨_, rfl, m, CM, dx, _, _, rfl, b.ob, TM.cl, TM.n_past, ml_p, true, .inl ⟨_, SqL.of b.pa, by cases vs' <;> rfl⟩, iteT ⟨_, rfl, m, CM, dx, _, _, rfl, b.ob, TM.cl, TM.n_past, ml_p, _, rfl, pl, _, _, .ref t, rfl, rfl, SqL.of b.pa, at_last, t, _, 2, .ref s, rfl, rfl, SqT.of ht, a2, q s ?_⟩⟩
      rw [stOf_snoc]
      exact hs
theorem sc_Machine_numbers : FnScope ["self"] ["self"] (defScope s_Machine_numbers) := ⟨rfl, rfl, rfl, by decide +kernel, rfl, by decide +kernel, by decide +kernel⟩
theorem ok_Machine_numbers {f : Addr} {fd : FuncData} {k : Nat} {C CN CM : Addr} (TM : MTxt K mg CM) (F : Fun K "numbers" "Machine.numbers" s_Machine_numbers f fd) (z : Zs mg) : FnOk P w K mg base CX0 (k + 1) f fd ["self"] (spNumbersM C CN CM) := by
  refine F.ok sc_Machine_numbers (fun vs H Q E h => ?_) (fun cdv A outer s H vs Q E hr h => ?_)
  · obtain ⟨A0, B, m, pl, n, st0, hist, rfl, _⟩ := h
    rfl
  · obtain ⟨A0, B, m, pl, n, st0, hist, rfl, ⟨dx, fs, np, pvs, b⟩, q⟩ := h
    refine ⟨_, (pss_one (ps_ret (pe_ifExp (pt_truth (pe_fld (pv 0) rfl) (by intro _; rfl)) (pe_callTy call_list_of (by rfl) z.list (by decide +kernel) (pa_cons (pe_ix ix_tup (pe_ix ix_list (pe_fld (pv 0) rfl) (pe_un un_neg pe_int) (fun _ _ => rfl)) pe_int (fun _ _ => rfl)) pa_nil)) (pe_lst pa_nil)))), ?_⟩
    rcases b.ps.last with ⟨rfl, rfl⟩ | ⟨vs', ts', t, l, o, s, r, rfl, rfl, ht, hl, ho, hs⟩
    · refine ⟨_, rfl, m, CM, dx, _, _, rfl, b.ob, TM.cl, TM.n_past, ml_p, false, .inl ⟨_, SqL.of b.pa, rfl⟩, iteF ⟨(by show 0 ≤ sizeLine; decide), fun l hl => ?_⟩⟩
      generalize hG : upd _ l _ = G
      obtain ⟨s, h_l⟩ := upd_gen hG hl
      exact q l G hl s h_l
    · refine ⟨_, rfl, m, CM, dx, _, _, rfl, b.ob, TM.cl, TM.n_past, ml_p, true, .inl ⟨_, SqL.of b.pa, by cases vs' <;> rfl⟩, iteT ⟨_, rfl, m, CM, dx, _, _, rfl, b.ob, TM.cl, TM.n_past, ml_p, _, rfl, pl, _, _, .ref t, rfl, rfl, SqL.of b.pa, at_last, t, _, 0, .ref l, rfl, rfl, SqT.of ht, a0, _, _, rfl, .inl (SqL.of hl), fun l2 hl2 => ?_⟩⟩
      generalize hG : upd _ l2 _ = G
      obtain ⟨s, h_l⟩ := upd_gen hG hl2
      rw [lastN_snoc] at q
      exact q l2 G hl2 s h_l
theorem sc_Machine_overs : FnScope ["self"] ["self"] (defScope s_Machine_overs) := ⟨rfl, rfl, rfl, by decide +kernel, rfl, by decide +kernel, by decide +kernel⟩
theorem ok_Machine_overs {f : Addr} {fd : FuncData} {k : Nat} {C CN CM : Addr} (TM : MTxt K mg CM) (F : Fun K "overs" "Machine.overs" s_Machine_overs f fd) (z : Zs mg) : FnOk P w K mg base CX0 (k + 1) f fd ["self"] (spOversM C CN CM) := by
  refine F.ok sc_Machine_overs (fun vs H Q E h => ?_) (fun cdv A outer s H vs Q E hr h => ?_)
  · obtain ⟨A0, B, m, pl, n, st0, hist, rfl, _⟩ := h
    rfl
  · obtain ⟨A0, B, m, pl, n, st0, hist, rfl, ⟨dx, fs, np, pvs, b⟩, q⟩ := h
    refine ⟨_, (pss_one (ps_ret (pe_ifExp (pt_truth (pe_fld (pv 0) rfl) (by intro _; rfl)) (pe_callTy call_list_of (by rfl) z.list (by decide +kernel) (pa_cons (pe_ix ix_tup (pe_ix ix_list (pe_fld (pv 0) rfl) (pe_un un_neg pe_int) (fun _ _ => rfl)) pe_int (fun _ _ => rfl)) pa_nil)) (pe_lst pa_nil)))), ?_⟩
    rcases b.ps.last with ⟨rfl, rfl⟩ | ⟨vs', ts', t, l, o, s, r, rfl, rfl, ht, hl, ho, hs⟩
    · refine ⟨_, rfl, m, CM, dx, _, _, rfl, b.ob, TM.cl, TM.n_past, ml_p, false, .inl ⟨_, SqL.of b.pa, rfl⟩, iteF ⟨(by show 0 ≤ sizeLine; decide), fun l hl => ?_⟩⟩
      generalize hG : upd _ l _ = G
      obtain ⟨s, h_l⟩ := upd_gen hG hl
      exact q l G hl s h_l
    · refine ⟨_, rfl, m, CM, dx, _, _, rfl, b.ob, TM.cl, TM.n_past, ml_p, true, .inl ⟨_, SqL.of b.pa, by cases vs' <;> rfl⟩, iteT ⟨_, rfl, m, CM, dx, _, _, rfl, b.ob, TM.cl, TM.n_past, ml_p, _, rfl, pl, _, _, .ref t, rfl, rfl, SqL.of b.pa, at_last, t, _, 1, .ref o, rfl, rfl, SqT.of ht, a1, _, _, rfl, .inl (SqL.of ho), fun l2 hl2 => ?_⟩⟩
      generalize hG : upd _ l2 _ = G
      obtain ⟨s, h_l⟩ := upd_gen hG hl2
      rw [lastO_snoc] at q
      exact q l2 G hl2 s h_l
theorem sc_Machine_turn : FnScope ["self", "word", "numbers", "after"] ["self", "word"] (defScope s_Machine_turn) := ⟨rfl, rfl, rfl, by decide +kernel, rfl, by decide +kernel, by decide +kernel⟩
theorem ok_Machine_turn {f : Addr} {fd : FuncData} {C CN CM : Addr} (TN : NTxt K mg CN) (TM : MTxt K mg CM) (F : Fun K "turn" "Machine.turn" s_Machine_turn f fd) (n_out : CalM P w K mg base 1 CN "out" ["self"] (spOutM C CN)) (x_state : CalM P w K mg base 1 CM "state" ["self"] (spStateM C CN CM)) (c_check_word : Cal P w K mg base 3 "check_word" ["net", "word"] (spCkWord C CN)) (c_turn_of : Cal P w K mg base 8 "turn_of" ["net", "state", "word"] (spTurnOf C CN)) (c_overs_machines : Cal P w K mg base 7 "overs_machines" ["net", "numbers"] (spOvers C CN)) : FnOk P w K mg base CX0 9 f fd ["self", "word"] (spTurnM C CN CM) := by
  refine F.ok sc_Machine_turn (fun vs H Q E h => ?_) (fun cdv A outer s H vs Q E hr h => ?_)
  · obtain ⟨A0, B, m, pl, n, st0, hist, x, rfl, _⟩ := h
    rfl
  · obtain ⟨A0, B, m, pl, n, st0, hist, x, rfl, ⟨dx, fs, np, pvs, b⟩, apl, lists, xin, hls, ko, h2000, q⟩ := h
    refine ⟨_, (pss_cons (ps_expr (pe_cal c_check_word hr (pa_cons (pe_fld (pv 0) rfl) (pa_cons (pv 1) pa_nil))))
      (pss_cons (ps_asg (pe_cal c_turn_of hr (pa_cons (pe_fld (pv 0) rfl) (pa_cons (pe_calm0 (pv 0) TM.cl x_state hr) (pa_cons (pv 1) pa_nil)))) (pg_tup (by rfl) (pgs_cons (pg_name (i := 2) sc_Machine_turn.nd rfl (.inl rfl)) (pgs_cons (pg_name (i := 3) sc_Machine_turn.nd rfl (.inl rfl)) pgs_nil))))
      (pss_cons (ps_expr (pe_bm PySem.F.plainAttrs_list PySem.F.slot_list_append PySem.F.type_list_append mt_append (pe_fld (pv 0) rfl) (pa_cons (pe_tup (pa_cons (pv 2) (pa_cons (pe_cal c_overs_machines hr (pa_cons (pe_fld (pv 0) rfl) (pa_cons (pv 2) pa_nil))) (pa_cons (pv 3) pa_nil)))) pa_nil)))
      (pss_one (ps_ret (pe_ix ix_list (pv 2) (pe_calm0 (pe_fld (pv 0) rfl) TN.cl n_out hr) (fun _ _ => rfl))))))), ?_⟩
    have ok := b.net.1
    refine ⟨_, rfl, m, CM, dx, _, _, rfl, b.ob, TM.cl, TM.n_net, ml_n, _, rfl, np, n, x, rfl, b.net.same b.bs, xin, fun H1 s1 => ?_⟩
    have b1 := b.same s1
    refine ⟨_, rfl, m, CM, dx, _, _, rfl, b1.ob, TM.cl, TM.n_net, ml_n, _, rfl, m, dx, _, rfl, b1.ob, ml_no (by decide +kernel), _, _, m, pl, n, st0, hist, rfl, ⟨dx, fs, np, pvs, b1⟩, fun st hst => ?_⟩
    refine ⟨_, rfl, np, st, n, x, _, rfl, b1.net.same b1.bs, hst, hls, ko, fun tt l s H2 s2 ht0 hl0 hs0 h_t h_l h_s => ⟨tt, _, rfl, SqT.of h_t, rfl, _, _, rfl, _, _, rfl, rfl, ?_⟩⟩
    have b2 := b1.same s2
    have no : NumsOk n (n.nums x (stOf st0 hist)) := ⟨nums_len _ _ _, fun k hk => ko k hk⟩
    refine ⟨_, rfl, m, CM, dx, _, _, rfl, b2.ob, TM.cl, TM.n_past, ml_p, .inl ⟨rfl, _, SqL.of b2.pa⟩, _, rfl, _, rfl, m, CM, dx, _, _, rfl, b2.ob, TM.cl, TM.n_net, ml_n, _, rfl, np, l, n, _, rfl, b2.net.same b2.bs, h_l, no, fun o H3 ho0 s3 h_o => ?_⟩
    have b3 := b2.same s3
    refine ⟨_, rfl, (by show 3 ≤ sizeLine; decide), fun t3 ht3 => ?_⟩
    generalize hG : upd _ t3 _ = H4
    obtain ⟨s4, h_t3⟩ := upd_gen hG ht3
    have b4 := b3.same s4
    have lp := b4.ps.len
    have nl : ¬ A0 l := fun z => by
      obtain ⟨ys, e⟩ := lists l z
      have := s1 _ _ e
      rw [hl0] at this
      cases this
    have no' : ¬ A0 o := fun z => by
      obtain ⟨ys, e⟩ := lists o z
      have := (s1.trans s2) _ _ e
      rw [ho0] at this
      cases this
    refine ⟨pl, _, _, rfl, rfl, b4.pa, sl_lt (by omega), ?_⟩
    generalize hG5 : upd _ pl _ = H5
    obtain ⟨s5, h_pl⟩ := upd_but hG5
    have hl5 := s5 l _ (fun z => nl (by rw [z]; exact apl)) (s4 _ _ (s3 _ _ h_l))
    have P : PsAt n A0 H5 (pvs ++ [.ref t3]) (hist ++ [trn n x (stOf st0 hist)]) := .snoc (b4.ps.keep s5 apl b4.pa) (s5 _ _ (ne_of h_t3 b4.pa (fun z => nomatch z)) h_t3) hl5 (s5 o _ (fun z => no' (by rw [z]; exact apl)) (s4 _ _ h_o)) (s5 _ _ (ne_of (s4 _ _ (s3 _ _ h_s)) b4.pa (fun z => nomatch z)) (s4 _ _ (s3 _ _ h_s))) nl no'
    have b5 : MB C CN CM A0 B H5 m pl n st0 (hist ++ [trn n x (stOf st0 hist)]) dx fs np (pvs ++ [.ref t3]) := ⟨s5 _ _ (ne_of b4.ob b4.pa (fun z => nomatch z)) b4.ob, b.bm, b.bp, same_but b4.bs s5 b.bp, b.net, s5 _ _ (ne_of b4.fs b4.pa (fun z => nomatch z)) b4.fs, h_pl, P⟩
    have N5 := b5.net.same b5.bs
    obtain ⟨_, dxn, fl, rl, hl, ppl, fv, rv, hv, nb⟩ := id N5
    refine ⟨_, rfl, _, rfl, m, CM, dx, _, _, rfl, b5.ob, TM.cl, TM.n_net, ml_n, np, dxn, _, rfl, nb.ob, nl_no (by decide +kernel), np, n, rfl, N5, l, _, _, _, rfl, rfl, SqL.of hl5, ints_at (by rw [nums_len]; exact ok.out), q H5 (((SameBut.of (((s1.trans s2).trans s3).trans s4))).trans s5) ⟨dx, fs, np, _, b5⟩⟩
theorem sc_Machine___init__ : FnScope ["self", "net", "state"] ["self", "net", "state"] (defScope s_Machine___init__) := ⟨rfl, rfl, rfl, by decide +kernel, rfl, by decide +kernel, by decide +kernel⟩
theorem ok_Machine___init__ {f : Addr} {fd : FuncData} {C CN CM : Addr} (TM : MTxt K mg CM) {dvs : List V} (F : FunD K "__init__" "Machine.__init__" (defArgs s_Machine___init__) (defBody s_Machine___init__) (defScope s_Machine___init__) dvs [] f fd) (c_first_state : Cal P w K mg base 5 "first_state" ["net", "state"] (spFirst C CN)) : FnOk P w K mg base CX0 6 f fd ["self", "net", "state"] (spMInit C CN CM) := by
  refine F.ok sc_Machine___init__ (fun vs H Q E h => ?_) (fun cdv A outer s H vs Q E hr h => ?_)
  · obtain ⟨m, dx, np, n, v, st, B, G0, rfl, _⟩ := h
    rfl
  · obtain ⟨m, dx, np, n, v, st, B, G0, rfl, hm, gm, bg, gs, hn, hv, q⟩ := h
    have bs := bg.trans gs
    refine ⟨_, PSs.nox (pss_cons (ps_fld (pv 0) (pe_cal c_first_state hr (pa_cons (pv 1) (pa_cons (pv 2) pa_nil))) rfl)
      (pss_cons (ps_fld (pv 0) (pv 1) rfl)
      (pss_one (ps_fld (pv 0) (pe_lst pa_nil) rfl)))), ?_⟩
    refine ⟨_, rfl, _, rfl, np, n, v, st, rfl, hn.same bs, (hv.imp id fun ⟨sa, e1, e2, e3⟩ => ⟨sa, e1, gs _ _ e2, e3⟩), fun fs H1 s1 h_fs => ?_⟩
    have nf : fs ≠ m := ne_of h_fs (s1 _ _ hm) (fun z => nomatch z)
    refine ⟨_, rfl, m, CM, dx, _, rfl, s1 _ _ hm, TM.cl, TM.n_first, (by show 0 < 1000; decide), ?_⟩
    generalize hG : upd _ m _ = H2
    obtain ⟨s2, hm2⟩ := upd_but hG
    rw [mf0] at hm2
    refine ⟨_, rfl, _, rfl, m, CM, dx, _, rfl, hm2, TM.cl, TM.n_net, (by show 1 < 1000; decide), ?_⟩
    generalize hG3 : upd _ m _ = H3
    obtain ⟨s3, hm3⟩ := upd_but hG3
    rw [mf1] at hm3
    refine ⟨(by show 0 ≤ sizeLine; decide), fun pl hpl => ?_⟩
    generalize hG4 : upd _ pl _ = H4
    obtain ⟨s4, h_pl⟩ := upd_gen hG4 hpl
    have np' : pl ≠ m := (ne_of_none hm3 hpl).symm
    refine ⟨_, rfl, m, CM, dx, _, rfl, s4 _ _ hm3, TM.cl, TM.n_past, (by show 2 < 1000; decide), ?_⟩
    generalize hG5 : upd _ m _ = H5
    obtain ⟨s5, hm5⟩ := upd_but hG5
    rw [mf2] at hm5
    have SB : SameBut m H1 H5 := s2.trans (s3.trans ((SameBut.of s4).trans s5))
    have S5 : Same G0 H5 := same_but (gs.trans s1) SB gm
    have fpl : G0 pl = none := by
      refine Same.free (gs.trans s1) ?_
      cases e : H1 pl with
      | none => rfl
      | some o =>
        have := (s2.trans s3) _ _ np' e
        rw [hpl] at this
        cases this
    exact q pl H5 (fun A => ⟨dx, fs, np, [], hm5, bg.free gm, bg.free fpl, bg.trans S5, hn, SB _ _ nf h_fs, s5 _ _ np' h_pl, .nil⟩) fpl S5
end
end E1

namespace E1
open PySem PySem.Spec PyProof.Rows L2
/-- a kept number is a word of its form -/
theorem word_in {w : Option Int} (hw : WOk w) (st : Bool) (v : Int) : inR w (wordF w st v) = true := by
  cases w with
  | none => rfl
  | some y =>
    obtain ⟨y0, y1⟩ := hw y rfl
    have e := two_succ (x := y) (by omega)
    have r0 := two_pos (y - 1)
    show (decide (lst y ≤ if inR (some y) v = true then v else if st = true then (if v < 0 then lst y else grt y) else (v - lst y) % two y + lst y) && decide ((if inR (some y) v = true then v else if st = true then (if v < 0 then lst y else grt y) else (v - lst y) % two y + lst y) ≤ grt y)) = true
    rw [Bool.and_eq_true, decide_eq_true_eq, decide_eq_true_eq]
    by_cases c : inR (some y) v = true
    · rw [if_pos c]
      unfold inR at c
      rw [Bool.and_eq_true, decide_eq_true_eq, decide_eq_true_eq] at c
      exact c
    · rw [if_neg c]
      have m0 := Int.emod_nonneg (v - lst y) (show two y ≠ 0 by omega)
      have m1 := Int.emod_lt_of_pos (v - lst y) (show 0 < two y by omega)
      unfold lst grt at *
      rw [e] at *
      generalize two (y - 1) = t at *
      generalize (v - -t) % (2 * t) = u at *
      cases st with
      | true =>
        rw [if_pos rfl]
        split <;> omega
      | false =>
        rw [if_neg (by decide)]
        omega
/-- the state behind a turn is a state -/
theorem behind_ok {n : NetP} (ok : NetOk n) (x : Int) (st : List Int) : StOk n (n.behind (n.nums x st)) := by
  refine ⟨by unfold NetP.behind; rw [List.length_map], fun i h k e1 e2 => ?_⟩
  unfold NetP.behind at e2
  rw [List.getElem?_map, e1] at e2
  cases e2
  obtain ⟨hf, _, b, eb⟩ := ok.ho h (List.mem_of_getElem? e1)
  have e := accL_at (g := numRow n.fs n.pts x st) eb
  have e3 : (n.nums x st).getD h.l 0 = numRow n.fs n.pts x st (accL (numRow n.fs n.pts x st) (n.rows.take h.l)) (.keep h.k b) := by
    unfold NetP.nums
    rw [List.getD_eq_getElem?_getD, e]
    rfl
  show inR (frm n.fs h.k).w ((n.nums x st).getD h.l 0) = true
  rw [e3]
  have efr := frm_at (List.getElem?_eq_getElem hf)
  refine word_in ?_ _ _
  rw [efr]
  exact (ok.fo _ (List.getElem_mem hf)).wo
theorem starts_ok {n : NetP} (ok : NetOk n) : StOk n (starts n) := ⟨List.length_map .., fun i h2 k2 e1 e2 => by
  unfold starts at e2
  rw [List.getElem?_map, e1] at e2
  cases e2
  have hk := ok.ho h2 (List.mem_of_getElem? e1)
  have ef := List.getElem?_eq_getElem hk.1
  rw [frm_at ef]
  exact hk.2.1 _ ef⟩
theorem tup_shaped (ns : List Int) : SeqAt.shaped (.tuple (ns.map PyData.int)) = true := by
  simp [PySem.W.ke_canLayAll0, PySem.W.ke_depthAll, SeqAt.shaped, PyData.depth, PyData.canLay0]
theorem eqv_of {d : PyData} (h : SeqAt.shaped d = true) : PyData.eqv d d = true := SeqAt.eqv_refl _ (SeqAt.canLay_of_shaped h)
end E1

namespace E1
open PySem PySem.Spec PyProof.Rows L2
theorem walk_w {J : It} {n : Nat} {G : Hp → Prop} {Y : Nat → Hp → V → Hp → Prop} (wk : Walk J n G Y) {T : V → Hp → (Hp → Prop) → Prop} {H0 : Hp} {Qd : Hp → Prop} (Pv : Nat → Hp → Prop) (h0 : Pv 0 H0) (hG : ∀ i H, i ≤ n → Pv i H → G H)
    (hs : ∀ i x H H', i < n → Pv i H → Y i H x H' → T x H' (Pv (i + 1))) (hd : ∀ H, Pv n H → Qd H) :
    ∃ W : Nat → Nat → Hp → Prop, (∃ m, W 0 m H0) ∧ ∀ i m H, W i m H → (J.stop i H ∧ Qd H) ∨ (J.go i H ∧ ∃ Nx : Hp → Prop, (∀ H', Nx H' → ∃ m', m' < m ∧ W (i + 1) m' H') ∧ ∀ x H', J.yld i H x H' → T x H' Nx) := by
  refine ⟨fun i m G' => i + m = n ∧ Pv i G', ⟨n, Nat.zero_add n, h0⟩, fun i m G' ⟨e, p⟩ => ?_⟩
  have good := hG i G' (by omega) p
  cases m with
  | zero =>
    have e' : i = n := by omega
    subst e'
    exact .inl ⟨wk.stops G' good, hd G' p⟩
  | succ m =>
    have hi : i < n := by omega
    exact .inr ⟨wk.goes i G' hi good, Pv (i + 1), fun G2 p2 => ⟨m, by omega, by omega, p2⟩, fun x G2 y => hs i x G' G2 hi p (wk.yields i G' x G2 hi good y)⟩

theorem PsAt.get {n : NetP} {A : Addr → Prop} {H : Hp} {vs : List V} {ts : List Trn} (h : PsAt n A H vs ts) : ∀ {i : Nat} {v : V}, vs[i]? = some v → ∃ t l o s r, v = .ref t ∧ ts[i]? = some r ∧ H t = some (.tup [.ref l, .ref o, .ref s]) ∧ H l = some (.lst (r.nums.map V.int)) ∧ H o = some (.lst ((oversOf n r.nums).map nI)) ∧ H s = some (.tup (r.aft.map V.int)) := by
  induction h with
  | nil => intro i v z; cases z
  | @snoc vs ts t l o s r p ht hl ho hs _ _ ih =>
    intro i v z
    have e := p.len
    by_cases c : i < vs.length
    · rw [List.getElem?_append_left c] at z
      rw [List.getElem?_append_left (by omega)]
      exact ih z
    · rw [List.getElem?_append_right (by omega)] at z
      rw [List.getElem?_append_right (by omega)]
      have c0 : i - vs.length = 0 := by
        have := (List.getElem?_eq_some_iff.mp z).1
        rw [List.length_singleton] at this
        omega
      rw [c0] at z
      rw [show i - ts.length = 0 by omega]
      cases z
      exact ⟨t, l, o, s, r, rfl, rfl, ht, hl, ho, hs⟩
theorem PsAt.take {n : NetP} {A : Addr → Prop} {H : Hp} {vs : List V} {ts : List Trn} (h : PsAt n A H vs ts) (k : Nat) : PsAt n A H (vs.take k) (ts.take k) := by
  induction h with
  | nil =>
    rw [List.take_nil, List.take_nil]
    exact .nil
  | @snoc vs ts t l o s r p ht hl ho hs nl no ih =>
    have e := p.len
    by_cases c : k ≤ vs.length
    · rw [List.take_append_of_le_length c, List.take_append_of_le_length (by omega)]
      exact ih
    · rw [List.take_of_length_le (by rw [List.length_append, List.length_singleton]; omega), List.take_of_length_le (by rw [List.length_append, List.length_singleton]; omega)]
      exact .snoc p ht hl ho hs nl no
theorem PsAt.butI {n : NetP} {A : Addr → Prop} {x C dx : Addr} {fl : List (Str × V)} {H H' : Hp} {vs : List V} {ts : List Trn} (h : PsAt n A H vs ts) (s : SameBut x H H') (hx : H x = some (.ins C dx fl)) : PsAt n A H' vs ts := by
  induction h with
  | nil => exact .nil
  | snoc _ ht hl ho hs nl no ih => exact .snoc ih (s _ _ (ne_of ht hx (fun z => nomatch z)) ht) (s _ _ (ne_of hl hx (fun z => nomatch z)) hl) (s _ _ (ne_of ho hx (fun z => nomatch z)) ho) (s _ _ (ne_of hs hx (fun z => nomatch z)) hs) nl no
/-- what went over in the first turns: (turn, row) -/
def wentTo (n : NetP) (hist : List Trn) : Nat → List (Nat × Nat)
  | 0 => []
  | i + 1 => wentTo n hist i ++ (match hist[i]? with
    | some r => (oversOf n r.nums).map fun q => (i + 1, q)
    | none => [])
def pairV (p : Nat × Nat) : List V := [nI p.1, nI p.2]
theorem wentTo_len (n : NetP) (ok : NetOk n) (hist : List Trn) : ∀ i, (wentTo n hist i).length ≤ 60 * i
  | 0 => Nat.le_refl _
  | i + 1 => by
    have := wentTo_len n ok hist i
    unfold wentTo
    rw [List.length_append]
    have r60 := ok.r2
    cases hist[i]? with
    | none =>
      rw [List.length_nil]
      omega
    | some r =>
      rw [List.length_map]
      have : (oversOf n r.nums).length ≤ n.rows.length := by
        refine Nat.le_trans (List.length_filter_le _ _) ?_
        rw [List.length_range]
        exact Nat.le_refl _
      omega
def spWentM (C CN CM : Addr) : Sp := fun vs H Q _ => ∃ (A : Addr → Prop) (B : Hp) (m pl : Addr) (n : NetP) (st0 : List Int) (hist : List Trn), vs = [.ref m] ∧ MachAt C CN CM A B H m pl n st0 hist ∧ hist.length ≤ 1200 ∧ ∀ l H', H l = none → Same H H' → TL7 H' l ((wentTo n hist hist.length).map pairV) → Q (.ref l) H'
/-- another list of turns -/
def spBackM (C CN CM : Addr) : Sp := fun vs H Q _ => ∃ (A : Addr → Prop) (B : Hp) (m pl : Addr) (n : NetP) (st0 : List Int) (hist : List Trn) (k : Nat), vs = [.ref m, .int k] ∧ MachAt C CN CM A B H m pl n st0 hist ∧ k ≤ hist.length ∧ hist.length ≤ 2000 ∧
  ∀ pl' H', H pl' = none → SameBut m H H' → MachAt C CN CM (fun y => A y ∨ y = pl') B H' m pl' n st0 (hist.take (hist.length - k)) → Q .non H'
theorem mf3 {a b c d : V} : putF "past" d [(("first" : Str), a), ("net", b), ("past", c)] = [(("first" : Str), a), ("net", b), ("past", d)] := rfl
theorem cut_to2 {zs : List V} {m : Nat} : cutV zs none (some (m : Int)) = zs.take m := by
  unfold cutV
  rw [HT.sIx_none, HT.sIx_nat, List.drop_zero, Nat.sub_zero]
  by_cases h : m ≤ zs.length
  · rw [Nat.min_eq_left h]
  · rw [Nat.min_eq_right (by omega), List.take_of_length_le (i := zs.length) (Nat.le_refl _), List.take_of_length_le (i := m) (by omega)]
section
variable {P : Program} {w : World} {K : PySem.W.Frag} {mg : Str → Option Value} {base : Heap}
theorem sc_Machine_went : FnScope ["self", "at", "made", "row"] ["self"] (defScope s_Machine_went) := ⟨rfl, rfl, rfl, by decide +kernel, rfl, by decide +kernel, by decide +kernel⟩
theorem ok_Machine_went {f : Addr} {fd : FuncData} {k : Nat} {C CN CM : Addr} (TM : MTxt K mg CM) (F : Fun K "went" "Machine.went" s_Machine_went f fd) (z : Zs mg) : FnOk P w K mg base CX0 (k + 1) f fd ["self"] (spWentM C CN CM) := by
  refine F.ok sc_Machine_went (fun vs H Q E h => ?_) (fun cdv A outer s H vs Q E hr h => ?_)
  · obtain ⟨A0, B, m, pl, n, st0, hist, rfl, _⟩ := h
    rfl
  · obtain ⟨A0, B, m, pl, n, st0, hist, rfl, ⟨dx, fs, np, pvs, b⟩, l1200, q⟩ := h
    refine ⟨_, (pss_one (ps_ret (pe_lc2 (own := [("at", 1), ("made", 2), ("row", 3)]) (vs1 := [3]) (g := gTup K 2 (gCons (gName 1) (gCons (gName 2) gNil))) (g1 := gName 3) (tt := tYes) (tt1 := tYes) (wi1 := iList K (tOp (rIxT K) (tVar 2) (tC (.int 1)))) (te := (tTup (tCons (tOp (rI0 fun i j => V.int (i + j)) (tVar 1) (tC (.int 1))) (tCons (tVar 3) tNil)))) (by rfl) sc_Machine_went.nd (pi_enum (by rfl) z.enumerate (pa_cons (pe_fld (pv 0) rfl) pa_nil)) (blkOk_by (own := [("at", 1), ("made", 2), ("row", 3)]) (N := ["self", "at", "made", "row"]) (sc := defScope s_Machine_went) (by decide +kernel)) (by decide) (fun _ _ _ _ _ => by exact (pg_tup (by rfl) (pgs_cons (pg_name (i := 1) sc_Machine_went.nd rfl (.inl rfl)) (pgs_cons (pg_name (i := 2) sc_Machine_went.nd rfl (.inl rfl)) pgs_nil)))) (fun _ _ _ _ _ => by exact pts_nil) (fun _ _ _ _ _ => by exact (pi_list (pe_ix ix_tup (pv 2) pe_int (fun _ _ => rfl)))) (fun _ _ _ _ _ => by exact (pg_name (i := 3) sc_Machine_went.nd rfl (.inl rfl))) (fun _ _ _ _ _ => by exact pts_nil) (fun _ _ _ _ _ => by exact (pe_tup (pa_cons (pe_op op_add (pv 1) pe_int) (pa_cons (pv 3) pa_nil))))))), ?_⟩
    have lp := b.ps.len
    have ok := b.net.1
    have r60 := ok.r2
    refine ⟨_, rfl, m, CM, dx, _, _, rfl, b.ob, TM.cl, TM.n_past, ml_p, pl, _, rfl, SqL.of b.pa, fun D hD => ?_⟩
    refine walk_w (walk_enum (K := K) (a := pl) (xs := pvs)) (fun i G => Same H G ∧ ∃ ws, G D = some (.lst ws) ∧ TsAt G ws ((wentTo n hist i).map pairV)) ⟨same_new hD, [], upd_same, .nil⟩ (fun i G _ hP => SqL.of (hP.1 _ _ b.pa)) (fun i x G G' hi hP hY => ?_) (fun G hP => ?_)
    · obtain ⟨s, ws, hd, tw⟩ := hP
      obtain ⟨Tp, u, v', rfl, nT, rfl, e1, e2⟩ := hY
      cases e1
      obtain ⟨t, l, o, sA, r, rfl, er, ht, hl, ho, hs⟩ := b.ps.get e2
      have sN := s.trans (same_new (o := .tup [.int (i : Nat), .ref t]) nT)
      have hd2 := (same_new (o := .tup [.int (i : Nat), .ref t]) nT) _ _ hd
      have tw2 := tw.same (same_new (o := .tup [.int (i : Nat), .ref t]) nT)
      have hT : (upd G Tp (.tup [.int (i : Nat), .ref t])) Tp = some (.tup [.int (i : Nat), .ref t]) := upd_same
      generalize upd G Tp (.tup [.int (i : Nat), .ref t]) = G1 at sN hd2 tw2 hT ⊢
      refine ⟨Tp, _, rfl, SqT.of hT, rfl, _, _, rfl, _, _, rfl, rfl, ?_⟩
      refine ⟨rfl, _, rfl, t, _, 1, .ref o, rfl, rfl, SqT.of (sN _ _ ht), a1, o, rfl, ⟨_, SqL.of (sN _ _ ho)⟩, ?_⟩
      have wl := wentTo_len n ok hist i
      have ol : (oversOf n r.nums).length ≤ n.rows.length := by
        refine Nat.le_trans (List.length_filter_le _ _) ?_
        rw [List.length_range]
        exact Nat.le_refl _
      refine walk_w (walk_list (K := K) (a := o) (xs := (oversOf n r.nums).map nI)) (fun j G2 => Same H G2 ∧ ∃ ws, G2 D = some (.lst ws) ∧ TsAt G2 ws ((wentTo n hist i ++ ((oversOf n r.nums).take j).map fun q => (i + 1, q)).map pairV)) ⟨sN, ws, hd2, by rw [List.take_zero, List.map_nil, List.append_nil]; exact tw2⟩ (fun j G2 _ hP => SqL.of (hP.1 _ _ ho)) (fun j y G2 G3 hj hP hY => ?_) (fun G2 hP => ?_)
      · obtain ⟨s2, ws2, hd3, tw3⟩ := hP
        obtain ⟨rfl, ex⟩ := hY
        rw [List.getElem?_map] at ex
        obtain ⟨q0, eq0, rfl⟩ := Option.map_eq_some_iff.mp ex
        have jl := (List.getElem?_eq_some_iff.mp eq0).1
        have lw := tw3.len
        rw [List.length_map, List.length_append, List.length_map, List.length_take] at lw
        refine ⟨rfl, _, rfl, _, _, rfl, rfl, _, rfl, (by show 2 ≤ sizeLine; decide), fun p hp => ?_⟩
        generalize hG4 : upd _ p _ = G4
        obtain ⟨s4, h_p⟩ := upd_gen hG4 hp
        refine ⟨ws2, s4 _ _ hd3, sl_lt (by omega), fun b o e => ?_, _, upd_same, ?_⟩
        · rw [upd_ne (ne_of_none e hD)]
          exact s4 _ _ (s2 _ _ e)
        · rw [List.take_add_one, eq0, List.map_append (f := fun q => (i + 1, q)), ← List.append_assoc, List.map_append]
          exact TsAt.push (s4 _ _ hd3) (tw3.same s4) h_p
      · obtain ⟨s2, ws2, hd3, tw3⟩ := hP
        rw [List.length_map, List.take_length] at tw3
        refine ⟨s2, ws2, hd3, ?_⟩
        have e3 : wentTo n hist (i + 1) = wentTo n hist i ++ (oversOf n r.nums).map fun q => (i + 1, q) := by
          show wentTo n hist i ++ _ = _
          rw [er]
        rw [e3]
        exact tw3
    · obtain ⟨s2, ws2, hd3, tw3⟩ := hP
      rw [lp] at tw3
      exact q D G hD s2 ⟨ws2, hd3, tw3⟩
end
end E1

namespace E1
open PySem PySem.Spec PyProof.Rows L2
theorem rep_map (n : Nat) : (List.replicate n true).map V.bl = List.replicate n (V.bl true) := by rw [List.map_replicate]
theorem rep_all (n : Nat) : (List.replicate n true).all id = true := by
  rw [List.all_eq_true]
  intro x h
  exact (List.mem_replicate.mp h).2
theorem rep_more (n : Nat) : List.replicate n (V.bl true) ++ [V.bl true] = List.replicate (n + 1) (V.bl true) := by rw [List.replicate_succ']

/-! ### sums of taps and rows -/
def dotI : List Int → List Int → Int
  | x :: xs, y :: ys => x * y + dotI xs ys
  | _, _ => 0
def prodI : List Int → List Int → List Int
  | x :: xs, y :: ys => x * y :: prodI xs ys
  | _, _ => []
theorem prodI_sum : ∀ xs ys : List Int, (prodI xs ys).sum = dotI xs ys
  | [], _ => by simp [prodI, dotI]
  | _ :: _, [] => by simp [prodI, dotI]
  | x :: xs, y :: ys => by
    rw [prodI, dotI, List.sum_cons, prodI_sum xs ys]
theorem prodI_snoc : ∀ (xs ys : List Int) (x y : Int), xs.length = ys.length → prodI (xs ++ [x]) (ys ++ [y]) = prodI xs ys ++ [x * y]
  | [], [], _, _, _ => rfl
  | a :: xs, b :: ys, x, y, h => by
    show a * b :: prodI (xs ++ [x]) (ys ++ [y]) = a * b :: (prodI xs ys ++ [x * y])
    rw [prodI_snoc xs ys x y (Nat.succ.inj h)]
theorem prodI_len : ∀ (xs ys : List Int), xs.length = ys.length → (prodI xs ys).length = xs.length
  | [], [], _ => rfl
  | a :: xs, b :: ys, h => by
    show (prodI xs ys).length + 1 = xs.length + 1
    rw [prodI_len xs ys (Nat.succ.inj h)]
theorem dotI_snoc (xs ys : List Int) (x y : Int) (h : xs.length = ys.length) : dotI (xs ++ [x]) (ys ++ [y]) = dotI xs ys + x * y := by
  rw [← prodI_sum, prodI_snoc xs ys x y h, List.sum_append, prodI_sum]
  simp
def pick (a b : Int) (f : Int → Bool) (xs : List Int) : List Int := xs.map fun t => if f t = true then b else a
theorem pick_len (a b : Int) (f : Int → Bool) (xs : List Int) : (pick a b f xs).length = xs.length := List.length_map _
theorem least_le (a b : Int) : ∀ (xs ys : List Int), xs.length = ys.length → (∀ y ∈ ys, a ≤ y ∧ y ≤ b) → dotI xs (pick a b (fun t => decide (t < 0)) xs) ≤ dotI xs ys
  | [], [], _, _ => Int.le_refl _
  | x :: xs, y :: ys, h, hy => by
    have i := least_le a b xs ys (Nat.succ.inj h) fun z hz => hy z (List.mem_cons_of_mem _ hz)
    have h0 := hy y List.mem_cons_self
    show x * (if decide (x < 0) = true then b else a) + dotI xs (pick a b (fun t => decide (t < 0)) xs) ≤ x * y + dotI xs ys
    have : x * (if decide (x < 0) = true then b else a) ≤ x * y := by
      by_cases c : x < 0
      · rw [if_pos (decide_eq_true c)]
        exact Int.mul_le_mul_of_nonpos_left (by omega) h0.2
      · rw [if_neg (by simpa using c)]
        exact Int.mul_le_mul_of_nonneg_left h0.1 (by omega)
    omega
theorem le_most (a b : Int) : ∀ (xs ys : List Int), xs.length = ys.length → (∀ y ∈ ys, a ≤ y ∧ y ≤ b) → dotI xs ys ≤ dotI xs (pick a b (fun t => decide (t > 0)) xs)
  | [], [], _, _ => Int.le_refl _
  | x :: xs, y :: ys, h, hy => by
    have i := le_most a b xs ys (Nat.succ.inj h) fun z hz => hy z (List.mem_cons_of_mem _ hz)
    have h0 := hy y List.mem_cons_self
    show x * y + dotI xs ys ≤ x * (if decide (x > 0) = true then b else a) + dotI xs (pick a b (fun t => decide (t > 0)) xs)
    have : x * y ≤ x * (if decide (x > 0) = true then b else a) := by
      by_cases c : x > 0
      · rw [if_pos (decide_eq_true c)]
        exact Int.mul_le_mul_of_nonneg_left h0.2 (by omega)
      · rw [if_neg (by simpa using c)]
        exact Int.mul_le_mul_of_nonpos_left (by omega) h0.1
    omega
theorem pick_snoc (a b : Int) (f : Int → Bool) (xs : List Int) (i : Nat) (t : Int) (h : xs[i]? = some t) : pick a b f (xs.take (i + 1)) = pick a b f (xs.take i) ++ [if f t = true then b else a] := by
  unfold pick
  rw [List.take_succ, h, Option.toList_some, List.map_append]
  rfl
theorem dp_ints {K : PySem.W.Frag} {H : Hp} : ∀ ds : List Int, DpAll K H (ds.map V.int) (ds.map PyData.int)
  | [] => .nil
  | d :: ds => .cons (.int d) (dp_ints ds)
theorem eqv_ints (ds : List Int) : PyData.eqv (.list (ds.map PyData.int)) (.list (ds.map PyData.int)) = true := SeqAt.eqv_refl _ (SeqAt.canLay_of_shaped (PySem.W.shaped_ints ds))
def Small (ns : List Int) : Prop := ns.length ≤ 40 ∧ ∀ n ∈ ns, n.natAbs < 1000000000000000000
def spNums : Sp := fun vs H Q _ => ∃ (a : Addr) (ns : List Int) (lo hi : Int), vs = [.ref a, .int lo, .int hi] ∧ H a = some (.lst (ns.map V.int)) ∧ Small ns ∧ lo ≤ ns.length ∧ (ns.length : Int) ≤ hi ∧ ∀ H', Same H H' → Q (.bl true) H'
def spDot : Sp := fun vs H Q _ => ∃ (a c : Addr) (xs ys : List Int), vs = [.ref a, .ref c] ∧ H a = some (.lst (xs.map V.int)) ∧ H c = some (.lst (ys.map V.int)) ∧ Small xs ∧ xs.length = ys.length ∧ ∀ H', Same H H' → Q (.int (dotI xs ys)) H'
def spTaps : Sp := fun vs H Q _ => ∃ (a : Addr) (ns : List Int), vs = [.ref a] ∧ H a = some (.lst (ns.map V.int)) ∧ Small ns ∧ 1 ≤ ns.length ∧ ∀ H', Same H H' → Q .non H'
abbrev lowR (l h : Int) (ns : List Int) : List Int := pick l h (fun t => decide (t < 0)) ns
abbrev upR (l h : Int) (ns : List Int) : List Int := pick l h (fun t => decide (t > 0)) ns
def spExt : Sp := fun vs H Q _ => ∃ (a : Addr) (ns : List Int) (l h : Int), vs = [.ref a, .int l, .int h] ∧ H a = some (.lst (ns.map V.int)) ∧ Small ns ∧ 1 ≤ ns.length ∧ l ≤ h ∧
  ∀ p b c H', H p = none → H b = none → H c = none → b ≠ p → Same H H' → H' p = some (.tup [.int (dotI ns (lowR l h ns)), .ref b, .int (dotI ns (upR l h ns)), .ref c]) → H' b = some (.lst ((lowR l h ns).reverse.map V.int)) → H' c = some (.lst ((upR l h ns).reverse.map V.int)) → b ≠ c → Q (.ref p) H'

/-! ### widths -/
def szI (n : Int) : Int := if n ≥ 0 then n else -n - 1
def bitsI (n : Int) : Int := ((Builtin.Int.intBits (szI n) : Nat) : Int) + 1
def widI (n : Int) : Int := if bitsI n > 2 then bitsI n else 2
theorem szI_nn (n : Int) : 0 ≤ szI n := by
  unfold szI
  split <;> omega
theorem bits_iff (s : Int) (h : 0 ≤ s) (k : Nat) : Builtin.Int.intBits s ≤ k ↔ s < 2 ^ k := by
  unfold Builtin.Int.intBits
  by_cases c : s = 0
  · rw [c, if_pos (by decide)]
    have : (0 : Int) < 2 ^ k := Int.pow_pos (by decide)
    omega
  · rw [if_neg (by simpa using c)]
    have e : ((2 ^ k : Nat) : Int) = (2 : Int) ^ k := by rw [Int.natCast_pow]; rfl
    have l : s.natAbs.log2 < k ↔ s.natAbs < 2 ^ k := Nat.log2_lt (by omega)
    constructor
    · intro h1
      have := l.mp (by omega)
      omega
    · intro h1
      have := l.mpr (by omega)
      omega
/-- whether a width has room for a number -/
def roomB (wd n : Int) : Bool := decide (0 - 2 ^ (wd - 1).toNat ≤ n) && decide (n < 2 ^ (wd - 1).toNat)
theorem room_iff {wd n : Int} (h : 1 ≤ wd) : roomB wd n = true ↔ bitsI n ≤ wd := by
  unfold roomB bitsI
  have b := bits_iff (szI n) (szI_nn n) (wd - 1).toNat
  have e : (((Builtin.Int.intBits (szI n) : Nat) : Int) + 1 ≤ wd) ↔ Builtin.Int.intBits (szI n) ≤ (wd - 1).toNat := by omega
  rw [e, b]
  simp only [Bool.and_eq_true, decide_eq_true_eq]
  unfold szI
  generalize (2 : Int) ^ (wd - 1).toNat = p
  split <;> omega
theorem wid_ge (n : Int) : 2 ≤ widI n ∧ bitsI n ≤ widI n := by
  unfold widI
  split <;> omega
theorem wid_room {wd n : Int} (h : widI n ≤ wd) : roomB wd n = true := by
  have := wid_ge n
  exact (room_iff (by omega)).mpr (by omega)
theorem wid_not {wd n : Int} (h : wd < widI n) (h1 : 2 ≤ wd) : roomB wd n = false := by
  cases e : roomB wd n with
  | false => rfl
  | true =>
    have := (room_iff (by omega)).mp e
    unfold widI at h
    split at h <;> omega
def maxI (a b : Int) : Int := if b > a then b else a
theorem max_facts (a b : Int) : a ≤ maxI a b ∧ b ≤ maxI a b ∧ (maxI a b = a ∨ maxI a b = b) := by
  unfold maxI
  split <;> omega
theorem dot_bound (B : Nat) : ∀ (xs ys : List Int), (∀ x ∈ xs, x.natAbs < 1000000000000000000) → (∀ y ∈ ys, y.natAbs ≤ B) → (dotI xs ys).natAbs ≤ xs.length * (1000000000000000000 * B)
  | [], _, _, _ => by simp [dotI]
  | _ :: _, [], _, _ => by simp [dotI]
  | x :: xs, y :: ys, hx, hy => by
    have i := dot_bound B xs ys (fun z hz => hx z (List.mem_cons_of_mem _ hz)) (fun z hz => hy z (List.mem_cons_of_mem _ hz))
    have h1 := hx x List.mem_cons_self
    have h2 := hy y List.mem_cons_self
    show (x * y + dotI xs ys).natAbs ≤ (xs.length + 1) * (1000000000000000000 * B)
    have m : (x * y).natAbs ≤ 1000000000000000000 * B := by
      rw [Int.natAbs_mul]
      exact Nat.mul_le_mul (by omega) h2
    rw [Nat.add_mul, Nat.one_mul]
    generalize xs.length * (1000000000000000000 * B) = u at *
    generalize 1000000000000000000 * B = v at *
    generalize x * y = t at *
    omega
theorem bits_small {n : Int} (h : n.natAbs < 2 ^ 200) : bitsI n ≤ 300 := by
  have := PyProof.Rows.intBits_le (a := szI n) (k := 200) (by
    unfold szI
    split <;> omega)
  unfold bitsI
  omega
/-- the sum of taps and words of a width is small -/
theorem pick_small (x : Int) (h1 : 2 ≤ x) (h2 : x ≤ 64) (f : Int → Bool) (xs : List Int) (hs : Small xs) : (dotI xs (pick (lst x) (grt x) f xs)).natAbs < 2 ^ 200 := by
  have b : ∀ y ∈ pick (lst x) (grt x) f xs, y.natAbs ≤ 2 ^ 64 := fun y hy => by
    unfold pick at hy
    obtain ⟨t, _, rfl⟩ := List.mem_map.mp hy
    have hp : (2 : Int) ^ (x - 1).toNat ≤ 2 ^ 63 := by
      have := Nat.pow_le_pow_right (n := 2) (by decide) (show (x - 1).toNat ≤ 63 by omega)
      exact_mod_cast this
    have h0 : (0 : Int) < 2 ^ (x - 1).toNat := Int.pow_pos (by decide)
    unfold lst grt two
    generalize (2 : Int) ^ (x - 1).toNat = p at *
    split <;> omega
  have d := dot_bound (2 ^ 64) xs _ hs.2 b
  have hl := hs.1
  have : xs.length * (1000000000000000000 * 2 ^ 64) ≤ 40 * (1000000000000000000 * 2 ^ 64) := Nat.mul_le_mul_right _ hl
  exact Nat.lt_of_le_of_lt (Nat.le_trans d this) (by decide)
theorem lst_grt {x : Int} (h1 : 2 ≤ x) : lst x ≤ grt x := by
  have h0 : (0 : Int) < 2 ^ (x - 1).toNat := Int.pow_pos (by decide)
  unfold lst grt two
  generalize (2 : Int) ^ (x - 1).toNat = p at *
  omega
def spWid : Sp := fun vs H Q _ => ∃ n : Int, vs = [.int n] ∧ Q (.int (widI n)) H
structure FX (K : PySem.W.Frag) (mg : Str → Option Value) (C : Addr) : Prop where
  gC : mg "Form" = some (.ref C)
  ha : PySem.W.findIn K (.ref C) "__class__" = some (some (.builtin "object.__class__"))
  hn : PySem.W.specialIn K (.builtin "object.__class__") "__get__" = some (some (.builtin "getset_descriptor.__get__"))
  ht : PySem.W.takesIn K (.builtin "object.__class__") = some true
  hm : PySem.W.mroIn K C (.type "object") = some true
  kC : PySem.W.kitOne K (.ref C) (.ref C) = some true
abbrev sLow (x : Int) (ns : List Int) : Int := dotI ns (lowR (lst x) (grt x) ns)
abbrev sUp (x : Int) (ns : List Int) : Int := dotI ns (upR (lst x) (grt x) ns)
abbrev gW (x : Int) (ns : List Int) : Int := maxI (widI (sLow x ns)) (widI (sUp x ns))
/-- a tuple of the width and None, or a row of its own -/
def spGuard (C : Addr) : Sp := fun vs H Q _ => ∃ (a p : Addr) (ns : List Int) (x pt : Int) (m : Mn) (st : Bool), vs = [.ref a, .ref p] ∧ H a = some (.lst (ns.map V.int)) ∧ Small ns ∧ 1 ≤ ns.length ∧ FormAt C H p (some x) pt m st ∧
  (gW x ns = 2 → ∀ t H', H t = none → Same H H' → H' t = some (.tup [.int (gW x ns), .non]) → Q (.ref t) H') ∧
  (gW x ns ≠ 2 → ∀ t b H', H t = none → H b = none → b ≠ t → Same H H' → H' t = some (.tup [.int (gW x ns), .ref b]) → H' b = some (.lst ((if widI (sUp x ns) = gW x ns then upR (lst x) (grt x) ns else lowR (lst x) (grt x) ns).reverse.map V.int)) → Q (.ref t) H')
end E1

namespace E1
open PySem PySem.Spec PyProof.Rows L2
theorem getD_take {l : List Int} {i a : Nat} (h : a < i) : (l.take i).getD a 0 = l.getD a 0 := by
  rw [List.getD_eq_getElem?_getD, List.getD_eq_getElem?_getD, List.getElem?_take, if_pos h]
/-! ### a net that keeps the sum of taps and the last words -/
def lastI (m : Nat) : Nat := if m = 1 then 1 else 3 * m - 2
def tRow (ts : List Int) (k : Nat) : Row := Row.times (ts.getD k 0) 0 k
def preI (m k : Nat) : Nat := if k = 0 then m else 2 * m + k - 1
def pRow (m k : Nat) : Row := Row.plus (preI m k) (m + k + 1)
def sR1 (m : Nat) : List Row := Row.inn :: (List.range (m - 1)).map Row.old
def sRows (ts : List Int) : List Row := (((sR1 ts.length ++ (List.range ts.length).map (tRow ts)) ++ (List.range (ts.length - 1)).map (pRow ts.length)) ++ [Row.keep 1 (lastI ts.length)]) ++ (List.range (ts.length - 1)).map fun k => Row.keep 0 k
def sHolds (m : Nat) : List Hold := (List.range (m - 1)).map fun k => ⟨0, 0, 3 * m + k⟩
def sN (b W : Int) (ts : List Int) : NetP := ⟨[⟨some b, 0, .half, true⟩, ⟨some W, 0, .down, false⟩], 0, sRows ts, sHolds ts.length, 3 * ts.length - 1⟩
theorem rng_at {α : Type} {f : Nat → α} {n k : Nat} (h : k < n) : ((List.range n).map f)[k]? = some (f k) := by
  rw [List.getElem?_map, List.getElem?_range h]
  rfl
theorem sR1_len {m : Nat} (h : 1 ≤ m) : (sR1 m).length = m := by
  unfold sR1
  rw [List.length_cons, List.length_map, List.length_range]
  omega
section
variable {ts : List Int} (h1 : 1 ≤ ts.length)
include h1
theorem sRows_len : (sRows ts).length = 4 * ts.length - 1 := by
  unfold sRows
  simp only [List.length_append, List.length_map, List.length_range, List.length_singleton, sR1_len h1]
  omega
theorem r_in : (sRows ts)[0]? = some .inn := by
  unfold sRows sR1
  rfl
theorem r_old {k : Nat} (hk : k < ts.length - 1) : (sRows ts)[1 + k]? = some (.old k) := by
  have l := sR1_len h1
  unfold sRows
  rw [List.append_assoc, List.append_assoc, List.append_assoc, List.getElem?_append_left (by omega)]
  unfold sR1
  rw [Nat.add_comm 1 k, List.getElem?_cons_succ]
  exact rng_at hk
theorem r_times {k : Nat} (hk : k < ts.length) : (sRows ts)[ts.length + k]? = some (tRow ts k) := by
  have l := sR1_len h1
  unfold sRows
  rw [List.append_assoc, List.append_assoc, List.append_assoc, List.getElem?_append_right (by omega), l, Nat.add_sub_cancel_left, List.getElem?_append_left (by rw [List.length_map, List.length_range]; exact hk)]
  exact rng_at hk
theorem r_plus {k : Nat} (hk : k < ts.length - 1) : (sRows ts)[2 * ts.length + k]? = some (pRow ts.length k) := by
  have l := sR1_len h1
  have l2 : (sR1 ts.length ++ (List.range ts.length).map (tRow ts)).length = 2 * ts.length := by
    rw [List.length_append, l, List.length_map, List.length_range]
    omega
  unfold sRows
  rw [List.append_assoc, List.append_assoc, List.getElem?_append_right (by omega), l2, Nat.add_sub_cancel_left, List.getElem?_append_left (by rw [List.length_map, List.length_range]; exact hk)]
  exact rng_at hk
theorem len3 : ((sR1 ts.length ++ (List.range ts.length).map (tRow ts)) ++ (List.range (ts.length - 1)).map (pRow ts.length)).length = 3 * ts.length - 1 := by
  rw [List.length_append, List.length_append, sR1_len h1, List.length_map, List.length_range, List.length_map, List.length_range]
  omega
theorem r_keep : (sRows ts)[3 * ts.length - 1]? = some (.keep 1 (lastI ts.length)) := by
  unfold sRows
  rw [List.append_assoc, List.getElem?_append_right (by rw [len3 h1]; exact Nat.le_refl _), len3 h1, Nat.sub_self]
  rfl
theorem r_keeps {k : Nat} (hk : k < ts.length - 1) : (sRows ts)[3 * ts.length + k]? = some (.keep 0 k) := by
  unfold sRows
  rw [List.getElem?_append_right (by rw [List.length_append, len3 h1, List.length_singleton]; omega), List.length_append, len3 h1, List.length_singleton, show 3 * ts.length + k - (3 * ts.length - 1 + 1) = k by omega]
  exact rng_at hk
theorem row_cases {i : Nat} {r : Row} (e : (sRows ts)[i]? = some r) : (i = 0 ∧ r = .inn) ∨ (∃ k, k < ts.length - 1 ∧ i = 1 + k ∧ r = .old k) ∨ (∃ k, k < ts.length ∧ i = ts.length + k ∧ r = tRow ts k) ∨ (∃ k, k < ts.length - 1 ∧ i = 2 * ts.length + k ∧ r = pRow ts.length k) ∨ (i = 3 * ts.length - 1 ∧ r = .keep 1 (lastI ts.length)) ∨ (∃ k, k < ts.length - 1 ∧ i = 3 * ts.length + k ∧ r = .keep 0 k) := by
  have il := (List.getElem?_eq_some_iff.mp e).1
  rw [sRows_len h1] at il
  have same : ∀ {j r'}, i = j → (sRows ts)[j]? = some r' → r = r' := fun ej e2 => by
    rw [ej, e2] at e
    exact (Option.some.inj e).symm
  by_cases c0 : i = 0
  · exact .inl ⟨c0, same c0 (r_in h1)⟩
  by_cases c1 : i < ts.length
  · exact .inr (.inl ⟨i - 1, by omega, by omega, same (j := 1 + (i - 1)) (by omega) (r_old h1 (by omega))⟩)
  by_cases c2 : i < 2 * ts.length
  · exact .inr (.inr (.inl ⟨i - ts.length, by omega, by omega, same (j := ts.length + (i - ts.length)) (by omega) (r_times h1 (by omega))⟩))
  by_cases c3 : i < 3 * ts.length - 1
  · exact .inr (.inr (.inr (.inl ⟨i - 2 * ts.length, by omega, by omega, same (j := 2 * ts.length + (i - 2 * ts.length)) (by omega) (r_plus h1 (by omega))⟩)))
  by_cases c4 : i = 3 * ts.length - 1
  · exact .inr (.inr (.inr (.inr (.inl ⟨c4, same c4 (r_keep h1)⟩))))
  · exact .inr (.inr (.inr (.inr (.inr ⟨i - 3 * ts.length, by omega, by omega, same (j := 3 * ts.length + (i - 3 * ts.length)) (by omega) (r_keeps h1 (by omega))⟩))))
omit h1 in
theorem accV {g : List Int → Row → Int} {rows : List Row} {i : Nat} {r : Row} (e : rows[i]? = some r) : (accL g rows).getD i 0 = g ((accL g rows).take i) r := by
  rw [List.getD_eq_getElem?_getD, accL_at e, accL_take]
  rfl
omit h1 in
theorem hz (b W : Int) (ts : List Int) (k : Nat) : (hpts (sN b W ts)).getD k 0 = 0 := by
  have : hpts (sN b W ts) = List.replicate (ts.length - 1) 0 := by
    unfold hpts sN sHolds
    rw [List.map_map]
    show (List.range (ts.length - 1)).map (fun _ => (0 : Int)) = _
    rw [List.map_const', List.length_range]
  rw [this, List.getD_eq_getElem?_getD, List.getElem?_replicate]
  split <;> rfl
omit h1 in
theorem fz (b W : Int) (k : Nat) : ([⟨some b, 0, .half, true⟩, ⟨some W, 0, .down, false⟩] : List FormP).map (·.pt) = [0, 0] ∧ ([0, 0] : List Int).getD k 0 = 0 := ⟨rfl, by
  match k with
  | 0 => rfl
  | 1 => rfl
  | _ + 2 => rfl⟩
theorem pz (b W : Int) : ∀ i, (sN b W ts).pts.getD i 0 = 0 := by
  intro i
  induction i using Nat.strongRecOn with
  | ind i ih =>
    by_cases c : i < (sRows ts).length
    · have e := List.getElem?_eq_getElem c
      have v := accV (g := rowPt (fpt (sN b W ts).fs (sN b W ts).en) (hpts (sN b W ts)) ((sN b W ts).fs.map (·.pt))) e
      have ep : (sN b W ts).pts = accL (rowPt (fpt (sN b W ts).fs (sN b W ts).en) (hpts (sN b W ts)) ((sN b W ts).fs.map (·.pt))) (sRows ts) := rfl
      rw [ep, v, ← ep]
      have P : ∀ a, a < i → ((sN b W ts).pts.take i).getD a 0 = 0 := fun a ha => by
        rw [getD_take ha]
        exact ih a ha
      generalize (sRows ts)[i] = r at e
      rcases row_cases h1 e with ⟨_, rfl⟩ | ⟨k, _, _, rfl⟩ | ⟨k, hk, ek, rfl⟩ | ⟨k, hk, ek, rfl⟩ | ⟨_, rfl⟩ | ⟨k, _, _, rfl⟩
      · rfl
      · exact hz b W ts k
      · show ((sN b W ts).pts.take i).getD k 0 + ((0 : Nat) : Int) = 0
        rw [P k (by omega)]
        rfl
      · have a1 : preI ts.length k < i := by
          unfold preI
          split <;> omega
        show (if ((sN b W ts).pts.take i).getD (ts.length + k + 1) 0 > ((sN b W ts).pts.take i).getD (preI ts.length k) 0 then ((sN b W ts).pts.take i).getD (ts.length + k + 1) 0 else ((sN b W ts).pts.take i).getD (preI ts.length k) 0) = 0
        rw [P _ a1, P _ (by omega)]
        rfl
      · exact (fz b W 1).2
      · exact (fz b W 0).2
    · rw [List.getD_eq_getElem?_getD, List.getElem?_eq_none (by rw [pts_len]; exact Nat.le_of_not_lt c)]
      rfl
variable {us : List Int} (hu : us.length + 1 = ts.length) (b W x : Int)
theorem sV {i : Nat} {r : Row} (e : (sRows ts)[i]? = some r) : ((sN b W ts).nums x us).getD i 0 = numRow (sN b W ts).fs (sN b W ts).pts x us (((sN b W ts).nums x us).take i) r := accV (g := numRow (sN b W ts).fs (sN b W ts).pts x us) e
omit h1 in
theorem sum_z {acc pts : List Int} (hp : ∀ i, pts.getD i 0 = 0) (a c : Nat) : sumN pts acc a c 1 = acc.getD a 0 + acc.getD c 0 := by
  unfold sumN
  rw [hp a, hp c]
  show acc.getD a 0 * 2 ^ 0 + 1 * (acc.getD c 0 * 2 ^ 0) = _
  rw [Int.pow_zero, Int.mul_one, Int.mul_one, Int.one_mul]
include hu
/-- the words -/
theorem v_word {k : Nat} (hk : k < ts.length) : ((sN b W ts).nums x us).getD k 0 = (x :: us).getD k 0 := by
  by_cases c : k = 0
  · subst c
    rw [sV h1 b W x (r_in h1)]
    rfl
  · obtain ⟨j, rfl⟩ : ∃ j, k = 1 + j := ⟨k - 1, by omega⟩
    rw [sV h1 b W x (r_old h1 (by omega))]
    show us.getD j 0 = _
    rw [Nat.add_comm 1 j]
    rfl
theorem v_prod {k : Nat} (hk : k < ts.length) : ((sN b W ts).nums x us).getD (ts.length + k) 0 = ts.getD k 0 * (x :: us).getD k 0 := by
  rw [sV h1 b W x (r_times h1 hk)]
  show ts.getD k 0 * (((sN b W ts).nums x us).take (ts.length + k)).getD k 0 = _
  rw [getD_take (by omega), v_word h1 hu b W x hk]
/-- the sum of so many -/
theorem dot_more {k : Nat} (hk : k + 1 < ts.length) : dotI (ts.take (k + 2)) ((x :: us).take (k + 2)) = dotI (ts.take (k + 1)) ((x :: us).take (k + 1)) + ts.getD (k + 1) 0 * (x :: us).getD (k + 1) 0 := by
  have e1 : ts[k + 1]? = some (ts.getD (k + 1) 0) := getD_of hk
  have e2 : (x :: us)[k + 1]? = some ((x :: us).getD (k + 1) 0) := getD_of (by rw [List.length_cons]; omega)
  rw [show k + 2 = k + 1 + 1 from rfl, List.take_add_one, e1, List.take_add_one (l := x :: us), e2]
  exact dotI_snoc _ _ _ _ (by rw [List.length_take, List.length_take, List.length_cons]; omega)
theorem v_sum : ∀ {k : Nat}, k < ts.length - 1 → ((sN b W ts).nums x us).getD (2 * ts.length + k) 0 = dotI (ts.take (k + 2)) ((x :: us).take (k + 2)) := by
  intro k
  induction k with
  | zero =>
    intro hk
    rw [sV h1 b W x (r_plus h1 hk)]
    show sumN (sN b W ts).pts _ (preI ts.length 0) (ts.length + 0 + 1) 1 = _
    rw [sum_z (pz h1 b W), getD_take (show preI ts.length 0 < 2 * ts.length + 0 by show ts.length < _; omega), getD_take (by omega), dot_more h1 hu x (by omega)]
    have p0 := v_prod h1 hu b W x (k := 0) (by omega)
    have p1 := v_prod h1 hu b W x (k := 1) (by omega)
    rw [show preI ts.length 0 = ts.length + 0 from rfl, p0, show ts.length + 0 + 1 = ts.length + 1 from rfl, p1]
    congr 1
    match ts, us, h1 with
    | t :: ts', _, _ =>
      show t * x = t * x + dotI [] []
      rw [show dotI [] [] = 0 from rfl, Int.add_zero]
  | succ k ih =>
    intro hk
    rw [sV h1 b W x (r_plus h1 hk)]
    show sumN (sN b W ts).pts _ (preI ts.length (k + 1)) (ts.length + (k + 1) + 1) 1 = _
    have pe : preI ts.length (k + 1) = 2 * ts.length + k := by
      unfold preI
      rw [if_neg (by omega)]
      omega
    rw [sum_z (pz h1 b W), pe, getD_take (by omega), getD_take (by omega), ih (by omega), show k + 1 + 2 = k + 1 + 2 from rfl, dot_more h1 hu x (k := k + 1) (by omega)]
    congr 1
    exact v_prod h1 hu b W x (k := k + 2) (by omega)
theorem v_last : ((sN b W ts).nums x us).getD (lastI ts.length) 0 = dotI ts (x :: us) := by
  unfold lastI
  by_cases c : ts.length = 1
  · rw [if_pos c]
    have := v_prod h1 hu b W x (k := 0) (by omega)
    rw [c] at this
    rw [this]
    match ts, us, c, hu with
    | [t], [], _, _ =>
      show t * x = t * x + dotI [] []
      rw [show dotI [] [] = 0 from rfl, Int.add_zero]
    | [t], _ :: _, _, h => cases h
  · rw [if_neg c]
    have := v_sum h1 hu b W x (k := ts.length - 2) (by omega)
    rw [show 2 * ts.length + (ts.length - 2) = 3 * ts.length - 2 by omega, show ts.length - 2 + 2 = ts.length by omega, List.take_length, List.take_of_length_le (by rw [List.length_cons]; omega)] at this
    exact this
theorem last_lt : lastI ts.length < 3 * ts.length - 1 := by
  unfold lastI
  split <;> omega
omit h1 hu in
theorem st_z {m : Mn} {v p : Int} (hp : p = 0) : stepsAt 0 m v p = v := by
  rw [hp]
  show v * 2 ^ 0 = v
  rw [Int.pow_zero, Int.mul_one]
theorem s_out : ((sN b W ts).nums x us).getD (3 * ts.length - 1) 0 = wordF (some W) false (dotI ts (x :: us)) := by
  rw [sV h1 b W x (r_keep h1)]
  show wordF (some W) false (stepsAt 0 .down ((((sN b W ts).nums x us).take (3 * ts.length - 1)).getD (lastI ts.length) 0) ((sN b W ts).pts.getD (lastI ts.length) 0)) = _
  rw [st_z (pz h1 b W _), getD_take (last_lt h1 hu), v_last h1 hu b W x]
omit h1 hu in
theorem word_id {c : Int} {st : Bool} {v : Int} (h : inR (some c) v = true) : wordF (some c) st v = v := if_pos h
theorem s_kept (hin : ∀ v ∈ (x :: us).take (ts.length - 1), inR (some b) v = true) {k : Nat} (hk : k < ts.length - 1) : ((sN b W ts).nums x us).getD (3 * ts.length + k) 0 = (x :: us).getD k 0 := by
  rw [sV h1 b W x (r_keeps h1 hk)]
  show wordF (some b) true (stepsAt 0 .half ((((sN b W ts).nums x us).take (3 * ts.length + k)).getD k 0) ((sN b W ts).pts.getD k 0)) = _
  rw [st_z (pz h1 b W _), getD_take (by omega), v_word h1 hu b W x (by omega)]
  refine word_id (hin _ ?_)
  have e : (x :: us)[k]? = some ((x :: us).getD k 0) := getD_of (by rw [List.length_cons]; omega)
  refine List.mem_of_getElem? (i := k) ?_
  rw [List.getElem?_take, if_pos hk]
  exact e
theorem s_beh (hin : ∀ v ∈ (x :: us).take (ts.length - 1), inR (some b) v = true) : (sN b W ts).behind ((sN b W ts).nums x us) = (x :: us).take (ts.length - 1) := by
  unfold NetP.behind
  show ((List.range (ts.length - 1)).map fun k => (⟨0, 0, 3 * ts.length + k⟩ : Hold)).map _ = _
  rw [List.map_map]
  refine List.ext_getElem (by rw [List.length_map, List.length_range, List.length_take, List.length_cons]; omega) fun k h3 h4 => ?_
  rw [List.length_map, List.length_range] at h3
  rw [List.getElem_map, List.getElem_range, List.getElem_take]
  show ((sN b W ts).nums x us).getD (3 * ts.length + k) 0 = _
  rw [s_kept h1 hu b W x hin h3, List.getD_eq_getElem?_getD, List.getElem?_eq_getElem (by rw [List.length_cons]; omega)]
  rfl
theorem s_no (hin : ∀ v ∈ (x :: us).take (ts.length - 1), inR (some b) v = true) (hS : inR (some W) (dotI ts (x :: us)) = true) : oversOf (sN b W ts) ((sN b W ts).nums x us) = [] := by
  refine List.filter_eq_nil_iff.mpr fun i hi => ?_
  have il : i < (sRows ts).length := List.mem_range.mp hi
  have e := List.getElem?_eq_getElem il
  generalize (sRows ts)[i] = r at e
  have no : wentAt (sN b W ts) ((sN b W ts).nums x us) i = false := by
    unfold wentAt
    rw [show (sN b W ts).rows = sRows ts from rfl, e]
    rcases row_cases h1 e with ⟨_, rfl⟩ | ⟨k, _, _, rfl⟩ | ⟨k, hk, ek, rfl⟩ | ⟨k, hk, ek, rfl⟩ | ⟨_, rfl⟩ | ⟨k, hk, _, rfl⟩
    · rfl
    · rfl
    · rfl
    · rfl
    · show (!decide (V.int (stepsAt 0 .down (((sN b W ts).nums x us).getD (lastI ts.length) 0) ((sN b W ts).pts.getD (lastI ts.length) 0) - wordF (some W) false (stepsAt 0 .down (((sN b W ts).nums x us).getD (lastI ts.length) 0) ((sN b W ts).pts.getD (lastI ts.length) 0))) = V.int 0)) = false
      rw [st_z (pz h1 b W _), v_last h1 hu b W x, word_id hS, Int.sub_self]
      rfl
    · show (!decide (V.int (stepsAt 0 .half (((sN b W ts).nums x us).getD k 0) ((sN b W ts).pts.getD k 0) - wordF (some b) true (stepsAt 0 .half (((sN b W ts).nums x us).getD k 0) ((sN b W ts).pts.getD k 0))) = V.int 0)) = false
      have ek : (x :: us)[k]? = some ((x :: us).getD k 0) := getD_of (by rw [List.length_cons]; omega)
      have ik := hin ((x :: us).getD k 0) (List.mem_of_getElem? (i := k) (by rw [List.getElem?_take, if_pos hk]; exact ek))
      rw [st_z (pz h1 b W _), v_word h1 hu b W x (by omega), word_id ik, Int.sub_self]
      rfl
  rw [no]
  decide
theorem s_yes (hw : WOk (some W)) (hS : inR (some W) (dotI ts (x :: us)) = false) : oversOf (sN b W ts) ((sN b W ts).nums x us) ≠ [] := by
  have yes : wentAt (sN b W ts) ((sN b W ts).nums x us) (3 * ts.length - 1) = true := by
    unfold wentAt
    rw [show (sN b W ts).rows = sRows ts from rfl, r_keep h1]
    show (!decide (V.int (stepsAt 0 .down (((sN b W ts).nums x us).getD (lastI ts.length) 0) ((sN b W ts).pts.getD (lastI ts.length) 0) - wordF (some W) false (stepsAt 0 .down (((sN b W ts).nums x us).getD (lastI ts.length) 0) ((sN b W ts).pts.getD (lastI ts.length) 0))) = V.int 0)) = true
    rw [st_z (pz h1 b W _), v_last h1 hu b W x]
    have hi := word_in hw false (dotI ts (x :: us))
    have ne : wordF (some W) false (dotI ts (x :: us)) ≠ dotI ts (x :: us) := fun e => by
      rw [e, hS] at hi
      cases hi
    rw [decide_eq_false (fun z => ne (by have := V.int.inj z; omega))]
    rfl
  have mem : (3 * ts.length - 1) ∈ oversOf (sN b W ts) ((sN b W ts).nums x us) := List.mem_filter.mpr ⟨List.mem_range.mpr (by show _ < (sRows ts).length; rw [sRows_len h1]; omega), yes⟩
  intro e
  rw [e] at mem
  cases mem
end
theorem in_zero {b : Int} : inR (some b) 0 = true := by
  have h := two_pos (b - 1)
  show (decide (lst b ≤ 0) && decide (0 ≤ grt b)) = true
  unfold lst grt
  rw [decide_eq_true (by omega), decide_eq_true (by omega)]
  rfl
theorem wok_of {y : Int} (h0 : 2 ≤ y) (h1 : y ≤ 64) : WOk (some y) := fun z e => by
  cases e
  exact ⟨h0, h1⟩
theorem s_ok {b W : Int} {ts : List Int} (h1 : 1 ≤ ts.length) (h7 : ts.length ≤ 7) (b0 : 2 ≤ b) (b1 : b ≤ 64) (w0 : 2 ≤ W) (w1 : W ≤ 64) (ht : ∀ t ∈ ts, t.natAbs < 9223372036854775808) : NetOk (sN b W ts) := by
  have lr : (sN b W ts).rows.length = 4 * ts.length - 1 := sRows_len h1
  have lh : (sN b W ts).holds.length = ts.length - 1 := by
    show ((List.range (ts.length - 1)).map _).length = _
    rw [List.length_map, List.length_range]
  refine ⟨by show 1 ≤ 2; omega, by show 2 ≤ 12; omega, fun f hf => ?_, by show 0 < 2; omega, by omega, fun h hh => ?_, by omega, by omega, fun i r e => ?_, fun p hp => ?_, by rw [lr]; show 3 * ts.length - 1 < _; omega⟩
  · rcases List.mem_cons.mp hf with rfl | hf
    · exact ⟨wok_of b0 b1, by show -64 ≤ (0 : Int); omega, by show (0 : Int) ≤ 64; omega⟩
    · rw [List.mem_singleton.mp hf]
      exact ⟨wok_of w0 w1, by show -64 ≤ (0 : Int); omega, by show (0 : Int) ≤ 64; omega⟩
  · obtain ⟨k, hk, rfl⟩ := List.mem_map.mp hh
    exact ⟨by show 0 < 2; omega, fun f e => by cases e; exact in_zero, k, r_keeps h1 (List.mem_range.mp hk)⟩
  · rw [lh]
    show RowOk (ts.length - 1) 2 i r
    rcases row_cases h1 e with ⟨_, rfl⟩ | ⟨k, hk, _, rfl⟩ | ⟨k, hk, ek, rfl⟩ | ⟨k, hk, ek, rfl⟩ | ⟨ei, rfl⟩ | ⟨k, hk, _, rfl⟩
    · trivial
    · exact hk
    · refine ⟨?_, by omega, by omega⟩
      rw [List.getD_eq_getElem?_getD, List.getElem?_eq_getElem hk]
      exact ht _ (List.getElem_mem hk)
    · refine ⟨?_, by omega⟩
      unfold preI
      split <;> omega
    · refine ⟨by omega, ?_⟩
      unfold lastI
      split <;> omega
    · exact ⟨by omega, by omega⟩
  · obtain ⟨i, hi, rfl⟩ := List.getElem_of_mem hp
    have z := pz h1 b W i
    rw [List.getD_eq_getElem?_getD, List.getElem?_eq_getElem hi] at z
    replace z : (sN b W ts).pts[i] = 0 := z
    omega
/-- no turn went over -/
theorem went_nil {n : NetP} {hist : List Trn} (h : ∀ r ∈ hist, oversOf n r.nums = []) : ∀ i, wentTo n hist i = []
  | 0 => rfl
  | i + 1 => by
    unfold wentTo
    rw [went_nil h i]
    cases e : hist[i]? with
    | none => rfl
    | some r =>
      rw [List.nil_append]
      show (oversOf n r.nums).map _ = []
      rw [h r (List.mem_of_getElem? e)]
      rfl
end E1

namespace E1
open PySem PySem.Spec PyProof.Rows L2
section
variable {P : Program} {w : World} {K : PySem.W.Frag} {mg : Str → Option Value} {base : Heap}
theorem sc_is_numbers : FnScope ["thing", "least", "most", "number"] ["thing", "least", "most"] (defScope s_is_numbers) := ⟨rfl, rfl, rfl, by decide +kernel, rfl, by decide +kernel, by decide +kernel⟩
theorem ok_is_numbers {f : Addr} {fd : FuncData} (F : Fun K "is_numbers" "is_numbers" s_is_numbers f fd) (z : Zs mg) (tk : Tok) (g_NUMBER_END : mg "NUMBER_END" = some (.int 1000000000000000000 tk)) (c_is_whole : Cal P w K mg base 1 "is_whole" ["thing"] (spWhole K)) : FnOk P w K mg base CX0 2 f fd ["thing", "least", "most"] spNums := by
  refine F.ok sc_is_numbers (fun vs H Q E h => ?_) (fun cdv A outer s H vs Q E hr h => ?_)
  · obtain ⟨a, ns, lo, hi, rfl, _⟩ := h
    rfl
  · obtain ⟨a, ns, lo, hi, rfl, ha, hs, h1, h2, q⟩ := h
    refine ⟨_, (pss_cons (ps_if (PW.pt (pw_or (pt_not (pt_val (pe_callB call_isi (by rfl) z.isinstance (by decide +kernel) (pa_cons (pv 0) (pa_cons (pe_bltn (v := .ty "list") (by rfl) z.list (by decide +kernel) rfl) pa_nil))))) (pw_or1 (pt_not (pt_chain op_le op_le (pv 1) (pe_callB call_len_seq (by rfl) z.len PySem.boot_len (pa_cons (pv 0) pa_nil)) (pv 2)))))) (pss_one (ps_ret pe_bl)) pss_nil)
      (pss_one (ps_ret (pe_callB (cr_all rfl) (by rfl) z.all (by decide +kernel) (pa_cons (pe_lc (own := [("number", 3)]) (g := gName 3) (tt := tYes) (te := (tAndV (tCall (spWhole K) [] E0 (tCons (tVar 3) tNil)) (tOp (rI0 fun i j => V.bl (decide (i < j))) (tCB (fun xs H Q => ∃ i, xs = [V.int i] ∧ Q (.int (if i < 0 then -i else i)) H) (tCons (tVar 3) tNil)) (tC (.int 1000000000000000000))))) (by rfl) sc_is_numbers.nd (pi_list (pv 0)) (blkOk_by (own := [("number", 3)]) (N := ["thing", "least", "most", "number"]) (sc := defScope s_is_numbers) (by decide +kernel)) (fun _ _ _ _ _ => by exact (pg_name (i := 3) sc_is_numbers.nd rfl (.inl rfl))) (fun _ _ _ _ _ => by exact pts_nil) (fun _ _ _ _ _ => by exact (pe_and (pe_cal c_is_whole hr (pa_cons (pv 3) pa_nil)) (pe_one (pe_cmpR op_lt (pe_callB call_abs (by rfl) z.abs (by decide +kernel) (pa_cons (pv 3) pa_nil)) (pe_glob (v := .int 1000000000000000000) (by rfl) g_NUMBER_END ⟨_, rfl⟩) (nomark _)))))) pa_nil))))), ?_⟩
    refine ⟨_, rfl, _, .ty "list", _, _, true, rfl, .ty _, .base (.lst ha), kit_ty (by decide +kernel), _, rfl, iteF ?_⟩
    have c1 : decide (lo ≤ (((ns.map V.int).length : Nat) : Int)) = true := decide_eq_true (by rw [List.length_map]; exact h1)
    have c2 : decide ((((ns.map V.int).length : Nat) : Int) ≤ hi) = true := decide_eq_true (by rw [List.length_map]; exact h2)
    refine ⟨_, rfl, _, rfl, a, _, rfl, .inl (SqL.of ha), _, _, rfl, rfl, _, rfl, ?_⟩
    rw [c1]
    refine iteT ⟨_, rfl, _, _, rfl, rfl, _, rfl, ?_⟩
    rw [c2]
    refine iteF ?_
    refine ⟨_, rfl, a, rfl, ⟨_, SqL.of ha⟩, fun D hD => lc_list (K := K) (a := a) (xs := ns.map V.int) (fun i H' => Same H H' ∧ H' D = some (.lst (List.replicate i (V.bl true)))) ⟨same_new hD, upd_same⟩ (fun i H' _ hP => SqL.of (hP.1 _ _ ha)) (fun i x H' hx hP => ?_) (fun H' hP => ?_)⟩
    · obtain ⟨s1, hacc⟩ := hP
      rw [List.getElem?_map] at hx
      obtain ⟨n, hi', rfl⟩ := Option.map_eq_some_iff.mp hx
      have hn := hs.2 n (List.mem_of_getElem? hi')
      have hlt := (List.getElem?_eq_some_iff.mp hi').1
      have hl := hs.1
      have e0 : (if n < 0 then -n else n) < 1000000000000000000 := by split <;> omega
      refine ⟨rfl, _, rfl, _, true, rfl, .int n, _, rfl, iteT ⟨_, rfl, _, rfl, _, _, rfl, rfl, ?_⟩⟩
      dsimp only
      rw [decide_eq_true e0]
      refine ⟨_, hacc, ?_, fun b o e => ?_, ?_⟩
      · rw [List.length_replicate]
        exact small1000 (by omega)
      · rw [upd_ne (ne_of_none e hD)]
        exact s1 _ _ e
      · rw [upd_same, rep_more]
    · obtain ⟨s1, hacc⟩ := hP
      refine ⟨D, List.replicate _ true, rfl, SqL.of (by rw [rep_map]; exact hacc), ?_⟩
      rw [rep_all]
      exact q _ s1
theorem sc_dot : FnScope ["numbers", "others", "number", "other"] ["numbers", "others"] (defScope s_dot) := ⟨rfl, rfl, rfl, by decide +kernel, rfl, by decide +kernel, by decide +kernel⟩
theorem ok_dot {f : Addr} {fd : FuncData} {k : Nat} (F : Fun K "dot" "dot" s_dot f fd) (z : Zs mg) : FnOk P w K mg base CX0 (k + 1) f fd ["numbers", "others"] spDot := by
  refine F.ok sc_dot (fun vs H Q E h => ?_) (fun cdv A outer s H vs Q E hr h => ?_)
  · obtain ⟨a, c, xs, ys, rfl, _⟩ := h
    rfl
  · obtain ⟨a, c, xs, ys, rfl, ha, hc, hs, hl, q⟩ := h
    refine ⟨_, (pss_one (ps_ret (pe_callB (cr_sum rfl) (by rfl) z.sum (by decide +kernel) (pa_cons (pe_lc (own := [("number", 2), ("other", 3)]) (g := gTup K 2 (gCons (gName 2) (gCons (gName 3) gNil))) (tt := tYes) (te := (tOp (rI CMul fun i j => V.int (i * j)) (tVar 2) (tVar 3))) (by rfl) sc_dot.nd (RZ.pi_zipA (by rfl) z.zip (pa_cons (pv 0) (pa_cons (pv 1) pa_nil))) (blkOk_by (own := [("number", 2), ("other", 3)]) (N := ["numbers", "others", "number", "other"]) (sc := defScope s_dot) (by decide +kernel)) (fun _ _ _ _ _ => by exact (pg_tup (by rfl) (pgs_cons (pg_name (i := 2) sc_dot.nd rfl (.inl rfl)) (pgs_cons (pg_name (i := 3) sc_dot.nd rfl (.inl rfl)) pgs_nil)))) (fun _ _ _ _ _ => by exact pts_nil) (fun _ _ _ _ _ => by exact (pe_op op_mul (pv 2) (pv 3)))) pa_nil)))), ?_⟩
    refine ⟨_, rfl, _, rfl, a, c, _, _, rfl, .inl ⟨SqL.of ha, SqL.of hc, fun D hD => ?_⟩⟩
    refine lc_it (walk_zip (K := K) (a := a) (b := c) (xs := xs.map V.int) (ys := ys.map V.int) rfl) (fun i H2 => Same H H2 ∧ H2 D = some (.lst ((prodI (xs.take i) (ys.take i)).map V.int))) ⟨same_new hD, upd_same⟩ (fun i H2 _ hP => ⟨SqL.of (hP.1 _ _ ha), SqL.of (hP.1 _ _ hc)⟩) (fun i x H2 H3 hi hP hY => ?_) (fun H2 hP => ?_)
    · obtain ⟨s1, hacc⟩ := hP
      obtain ⟨Tp, u, v, rfl, nT, rfl, e1, e2⟩ := hY
      replace e1 : (xs.map V.int)[i]? = some u := e1
      replace e2 : (ys.map V.int)[i]? = some v := e2
      rw [List.getElem?_map] at e1 e2
      obtain ⟨n, n1, rfl⟩ := Option.map_eq_some_iff.mp e1
      obtain ⟨m, m1, rfl⟩ := Option.map_eq_some_iff.mp e2
      have hn := hs.2 n (List.mem_of_getElem? n1)
      have li := (List.getElem?_eq_some_iff.mp n1).1
      have h40 := hs.1
      have sN := same_new (o := .tup [.int n, .int m]) nT
      have tl : (xs.take i).length = (ys.take i).length := by rw [List.length_take, List.length_take, hl]
      refine ⟨Tp, [.int n, .int m], rfl, SqT.of upd_same, rfl, _, _, rfl, _, _, rfl, rfl, rfl, ?_⟩
      refine ⟨_, rfl, _, rfl, _, _, rfl, rfl, .inl ⟨by omega, by omega⟩, _, sN _ _ hacc, ?_, fun b o e => ?_, ?_⟩
      · rw [List.length_map, prodI_len _ _ tl, List.length_take]
        exact small1000 (by omega)
      · rw [upd_ne (ne_of_none e hD)]
        exact sN _ _ (s1 _ _ e)
      · rw [upd_same, List.take_succ, List.take_succ, n1, m1, Option.toList_some, Option.toList_some, prodI_snoc _ _ _ _ tl, List.map_append]
        rfl
    · obtain ⟨s1, hacc⟩ := hP
      rw [List.length_map, List.length_map, ← hl, Nat.min_self, List.take_length, hl, List.take_length] at hacc
      refine ⟨D, _, rfl, SqL.of hacc, ?_⟩
      rw [prodI_sum]
      exact q _ s1
theorem sc_check_taps : FnScope ["taps"] ["taps"] (defScope s_check_taps) := ⟨rfl, rfl, rfl, by decide +kernel, rfl, by decide +kernel, by decide +kernel⟩
theorem ok_check_taps {f : Addr} {fd : FuncData} (F : Fun K "check_taps" "check_taps" s_check_taps f fd) (tk : Tok) (g_MOST_TAPS : mg "MOST_TAPS" = some (.int 40 tk)) (c_is_numbers : Cal P w K mg base 2 "is_numbers" ["thing", "least", "most"] spNums) : FnOk P w K mg base CX0 3 f fd ["taps"] spTaps := by
  refine F.ok sc_check_taps (fun vs H Q E h => ?_) (fun cdv A outer s H vs Q E hr h => ?_)
  · obtain ⟨a, ns, rfl, _⟩ := h
    rfl
  · obtain ⟨a, ns, rfl, ha, hs, h1, q⟩ := h
    refine ⟨_, (pss_one (ps_if (pt_not (pt_val (pe_cal c_is_numbers hr (pa_cons (pv 0) (pa_cons pe_int (pa_cons (pe_glob (v := .int 40) (by rfl) g_MOST_TAPS ⟨_, rfl⟩) pa_nil)))))) (pss_one ps_never) pss_nil)), ?_⟩
    have h40 := hs.1
    refine ⟨_, rfl, a, ns, 1, 40, rfl, ha, hs, by omega, by omega, fun H' s1 => ?_⟩
    exact ⟨_, rfl, iteF (q _ s1)⟩
theorem sc_extremes : FnScope ["taps", "low", "high", "least", "greatest", "tap"] ["taps", "low", "high"] (defScope s_extremes) := ⟨rfl, rfl, rfl, by decide +kernel, rfl, by decide +kernel, by decide +kernel⟩
theorem ok_extremes {f : Addr} {fd : FuncData} (F : Fun K "extremes" "extremes" s_extremes f fd) (z : Zs mg) (c_is_whole : Cal P w K mg base 1 "is_whole" ["thing"] (spWhole K)) (c_check_taps : Cal P w K mg base 3 "check_taps" ["taps"] spTaps) (c_dot : Cal P w K mg base 1 "dot" ["numbers", "others"] spDot) : FnOk P w K mg base CX0 4 f fd ["taps", "low", "high"] spExt := by
  refine F.ok sc_extremes (fun vs H Q E h => ?_) (fun cdv A outer s H vs Q E hr h => ?_)
  · obtain ⟨a, ns, l, h, rfl, _⟩ := h
    rfl
  · obtain ⟨a, ns, l, h, rfl, ha, hs, h1, hlh, q⟩ := h
    refine ⟨_, (pss_cons (ps_expr (pe_cal c_check_taps hr (pa_cons (pv 0) pa_nil)))
      (pss_cons (ps_if (PW.pt (pw_or (pt_not (pt_val (pe_cal c_is_whole hr (pa_cons (pv 1) pa_nil)))) (pw_or (pt_not (pt_val (pe_cal c_is_whole hr (pa_cons (pv 2) pa_nil)))) (pw_or1 (pt_cmpR op_gt (pv 1) (pv 2) (nomark _)))))) (pss_one ps_never) pss_nil)
      (pss_cons (ps_setLc (i := 3) (own := [("tap", 5)]) (g := gName 5) (tt := tYes) (te := (tIf (tTest (tOp (rI0 fun i j => V.bl (decide (i < j))) (tVar 5) (tC (.int 0)))) (tVar 2) (tVar 1))) (by rfl) sc_extremes.nd rfl rfl (sw_true rfl rfl rfl (by decide +kernel)) (pi_list (pv 0)) (blkOk_by (own := [("tap", 5)]) (N := ["taps", "low", "high", "least", "greatest", "tap"]) (sc := defScope s_extremes) (by decide +kernel)) (fun _ _ _ _ _ => by exact (pg_name (i := 5) sc_extremes.nd rfl (.inl rfl))) (fun _ _ _ _ _ => by exact pts_nil) (fun _ _ _ _ _ => by exact (pe_ifExp (pt_cmpR op_lt (pv 5) pe_int (nomark _)) (pv 2) (pv 1))))
      (pss_cons (ps_setLc (i := 4) (own := [("tap", 5)]) (g := gName 5) (tt := tYes) (te := (tIf (tTest (tOp (rI0 fun i j => V.bl (decide (i > j))) (tVar 5) (tC (.int 0)))) (tVar 2) (tVar 1))) (by rfl) sc_extremes.nd rfl rfl (sw_true rfl rfl rfl (by decide +kernel)) (pi_list (pv 0)) (blkOk_by (own := [("tap", 5)]) (N := ["taps", "low", "high", "least", "greatest", "tap"]) (sc := defScope s_extremes) (by decide +kernel)) (fun _ _ _ _ _ => by exact (pg_name (i := 5) sc_extremes.nd rfl (.inl rfl))) (fun _ _ _ _ _ => by exact pts_nil) (fun _ _ _ _ _ => by exact (pe_ifExp (pt_cmpR op_gt (pv 5) pe_int (nomark _)) (pv 2) (pv 1))))
      (pss_one (ps_ret (pe_tup (pa_cons (pe_cal c_dot hr (pa_cons (pv 0) (pa_cons (pv 3) pa_nil))) (pa_cons (pe_revL (pv 3)) (pa_cons (pe_cal c_dot hr (pa_cons (pv 0) (pa_cons (pv 4) pa_nil))) (pa_cons (pe_revL (pv 4)) pa_nil))))))))))), ?_⟩
    have h40 := hs.1
    refine ⟨_, rfl, a, ns, rfl, ha, hs, h1, fun H0 s0 => ?_⟩
    refine ⟨_, rfl, _, true, rfl, .int l, _, rfl, iteF ⟨_, rfl, _, true, rfl, .int h, _, rfl, iteF ⟨_, rfl, _, rfl, _, _, rfl, rfl, _, rfl, ite2 (fun c => absurd (toB c) (by omega)) (fun _ => ?_)⟩⟩⟩
    refine ⟨_, rfl, ?_⟩
    refine ⟨a, rfl, ⟨_, SqL.of (s0 _ _ ha)⟩, fun D0 hD0 => lc_list (K := K) (a := a) (xs := ns.map V.int) (fun i H' => Same H0 H' ∧ H' D0 = some (.lst ((pick l h (fun t => decide (t < 0)) (ns.take i)).map V.int))) ⟨same_new hD0, upd_same⟩ (fun i H' _ hP => SqL.of (hP.1 _ _ (s0 _ _ ha))) (fun i x H' hx hP => ?_) (fun H0' hP0 => ?_)⟩
    · obtain ⟨s1, hacc⟩ := hP
      rw [List.getElem?_map] at hx
      obtain ⟨n, hi', rfl⟩ := Option.map_eq_some_iff.mp hx
      have hlt := (List.getElem?_eq_some_iff.mp hi').1
      have fin : ∀ v : Int, v = (if decide (n < 0) = true then h else l) → ∃ acc, H' D0 = some (.lst acc) ∧ acc.length < sizeLine ∧ (Same H0 (upd H' D0 (.lst (acc ++ [.int v]))) ∧ (upd H' D0 (.lst (acc ++ [.int v]))) D0 = some (.lst ((pick l h (fun t => decide (t < 0)) (ns.take (i + 1))).map V.int))) := fun v hv => by
        refine ⟨_, hacc, ?_, fun b o e => ?_, ?_⟩
        · rw [List.length_map, pick_len, List.length_take]
          exact small1000 (by omega)
        · rw [upd_ne (ne_of_none e hD0)]
          exact s1 _ _ e
        · rw [upd_same, pick_snoc l h _ ns i n hi', List.map_append, hv]
          rfl
      refine ⟨rfl, _, rfl, _, _, rfl, rfl, _, rfl, ite2 (fun c => ⟨_, rfl, fin _ (by rw [if_pos c])⟩) (fun c => ⟨_, rfl, fin _ (by rw [if_neg c])⟩)⟩
    obtain ⟨s1, hb0⟩ := hP0
    rw [List.length_map, List.take_length] at hb0
    have S1 := s0.trans s1
    generalize hH1 : H0' = H1 at *
    refine ⟨_, rfl, ?_⟩
    refine ⟨a, rfl, ⟨_, SqL.of (S1 _ _ ha)⟩, fun D1 hD1 => lc_list (K := K) (a := a) (xs := ns.map V.int) (fun i H' => Same H1 H' ∧ H' D1 = some (.lst ((pick l h (fun t => decide (t > 0)) (ns.take i)).map V.int))) ⟨same_new hD1, upd_same⟩ (fun i H' _ hP => SqL.of (hP.1 _ _ (S1 _ _ ha))) (fun i x H' hx hP => ?_) (fun H1' hP1 => ?_)⟩
    · obtain ⟨s1, hacc⟩ := hP
      rw [List.getElem?_map] at hx
      obtain ⟨n, hi', rfl⟩ := Option.map_eq_some_iff.mp hx
      have hlt := (List.getElem?_eq_some_iff.mp hi').1
      have fin : ∀ v : Int, v = (if decide (n > 0) = true then h else l) → ∃ acc, H' D1 = some (.lst acc) ∧ acc.length < sizeLine ∧ (Same H1 (upd H' D1 (.lst (acc ++ [.int v]))) ∧ (upd H' D1 (.lst (acc ++ [.int v]))) D1 = some (.lst ((pick l h (fun t => decide (t > 0)) (ns.take (i + 1))).map V.int))) := fun v hv => by
        refine ⟨_, hacc, ?_, fun b o e => ?_, ?_⟩
        · rw [List.length_map, pick_len, List.length_take]
          exact small1000 (by omega)
        · rw [upd_ne (ne_of_none e hD1)]
          exact s1 _ _ e
        · rw [upd_same, pick_snoc l h _ ns i n hi', List.map_append, hv]
          rfl
      refine ⟨rfl, _, rfl, _, _, rfl, rfl, _, rfl, ite2 (fun c => ⟨_, rfl, fin _ (by rw [if_pos c])⟩) (fun c => ⟨_, rfl, fin _ (by rw [if_neg c])⟩)⟩
    obtain ⟨s2, hb1⟩ := hP1
    rw [List.length_map, List.take_length] at hb1
    have S2 := S1.trans s2
    have hb0' := s2 _ _ hb0
    refine ⟨_, rfl, _, rfl, a, D0, ns, _, rfl, S2 _ _ ha, hb0', hs, (pick_len _ _ _ _).symm, fun H3 s3 => ?_⟩
    refine ⟨_, rfl, D0, _, rfl, SqL.of (s3 _ _ hb0'), fun b hb => ?_⟩
    have s4 := s3.trans (same_new (o := .lst ((lowR l h ns).map V.int).reverse) hb)
    refine ⟨_, rfl, _, rfl, a, D1, ns, _, rfl, s4 _ _ (S2 _ _ ha), s4 _ _ hb1, hs, (pick_len _ _ _ _).symm, fun H5 s5 => ?_⟩
    refine ⟨_, rfl, D1, _, rfl, SqL.of (s5 _ _ (s4 _ _ hb1)), fun c hc => ?_⟩
    have s6 := s5.trans (same_new (o := .lst ((upR l h ns).map V.int).reverse) hc)
    refine ⟨(by show 4 ≤ sizeLine; decide), fun p hp => ?_⟩
    have s7 := s6.trans (same_new (o := .tup [.int (dotI ns (lowR l h ns)), .ref b, .int (dotI ns (upR l h ns)), .ref c]) hp)
    have bb : (upd H5 c (.lst ((upR l h ns).map V.int).reverse)) b = some (.lst ((lowR l h ns).map V.int).reverse) := s6 _ _ upd_same
    have nb : b ≠ p := ne_of_none bb hp
    have nbc : b ≠ c := ne_of_none (s5 _ _ upd_same) hc
    have nc : c ≠ p := ne_of_none upd_same hp
    refine q p b c _ ?_ ?_ ?_ nb ((S2.trans s3).trans (same_new hb |>.trans s7)) upd_same ?_ ?_ nbc
    · exact (S2.trans s3).free ((same_new (o := .lst ((lowR l h ns).map V.int).reverse) hb).free (s6.free hp))
    · exact (S2.trans s3).free hb
    · exact (S2.trans s3).free ((same_new (o := .lst ((lowR l h ns).map V.int).reverse) hb).free (s5.free hc))
    · rw [upd_ne nb, bb, List.map_reverse]
    · rw [upd_ne nc, upd_same, List.map_reverse]
theorem sc_width_for : FnScope ["number", "size"] ["number"] (defScope s_width_for) := ⟨rfl, rfl, rfl, by decide +kernel, rfl, by decide +kernel, by decide +kernel⟩
theorem ok_width_for {f : Addr} {fd : FuncData} {k : Nat} (F : Fun K "width_for" "width_for" s_width_for f fd) (z : Zs mg) (tk : Tok) (g_LEAST_WIDTH_taps : mg "LEAST_WIDTH_taps" = some (.int 2 tk)) : FnOk P w K mg base CX0 (k + 1) f fd ["number"] spWid := by
  refine F.ok sc_width_for (fun vs H Q E h => ?_) (fun cdv A outer s H vs Q E hr h => ?_)
  · obtain ⟨n, rfl, _⟩ := h
    rfl
  · obtain ⟨n, rfl, q⟩ := h
    refine ⟨_, (pss_cons (ps_set (i := 1) sc_width_for.nd rfl (.inl rfl) (pe_ifExp (pt_cmpR op_ge (pv 0) pe_int (nomark _)) (pv 0) (pe_op op_sub (pe_un un_neg (pv 0)) pe_int)))
      (pss_one (ps_ret (pe_callB (call_max2 rfl) (by rfl) z.max (by decide +kernel) (pa_cons (pe_glob (v := .int 2) (by rfl) g_LEAST_WIDTH_taps ⟨_, rfl⟩) (pa_cons (pe_op op_add (pe_bits (pv 1)) pe_int) pa_nil)))))), ?_⟩
    have fin : ∀ s : Int, s = szI n → Q (.int (if (((Builtin.Int.intBits s : Nat) : Int) + 1) > 2 then (((Builtin.Int.intBits s : Nat) : Int) + 1) else 2)) H := fun s hs => by
      rw [hs]
      exact q
    refine ⟨_, rfl, _, _, rfl, rfl, _, rfl, ite2 (fun c => ?_) (fun c => ?_)⟩
    · have hc : n ≥ 0 := toB c
      refine ⟨_, rfl, ?_⟩
      refine ⟨_, rfl, _, rfl, _, _, rfl, rfl, _, _, rfl, fin _ ?_⟩
      unfold szI
      rw [if_pos hc]
    · have hc : ¬ n ≥ 0 := toNB c
      refine ⟨_, rfl, _, rfl, _, _, rfl, rfl, ?_⟩
      refine ⟨_, rfl, _, rfl, _, _, rfl, rfl, _, _, rfl, fin _ ?_⟩
      unfold szI
      rw [if_neg hc]
theorem sc_guard : FnScope ["taps", "form", "least", "least_row", "greatest", "greatest_row", "width"] ["taps", "form"] (defScope s_guard) := ⟨rfl, rfl, rfl, by decide +kernel, rfl, by decide +kernel, by decide +kernel⟩
theorem ok_guard {f : Addr} {fd : FuncData} {C : Addr} (T : FTxt K mg C) (FC : FX K mg C) (F : Fun K "guard" "guard" s_guard f fd) (z : Zs mg) (tk : Tok) (g_LEAST_WIDTH_taps : mg "LEAST_WIDTH_taps" = some (.int 2 tk)) (c_check_taps : Cal P w K mg base 3 "check_taps" ["taps"] spTaps) (c_extremes : Cal P w K mg base 4 "extremes" ["taps", "low", "high"] spExt) (c_width_for : Cal P w K mg base 1 "width_for" ["number"] spWid) (m_least : CalM P w K mg base 1 C "least" ["self"] (spLeast C)) (m_greatest : CalM P w K mg base 1 C "greatest" ["self"] (spGreatest C)) : FnOk P w K mg base CX0 5 f fd ["taps", "form"] (spGuard C) := by
  refine F.ok sc_guard (fun vs H Q E h => ?_) (fun cdv A outer s H vs Q E hr h => ?_)
  · obtain ⟨a, p, ns, x, pt, m, st, rfl, _⟩ := h
    rfl
  · obtain ⟨a, p, ns, x, pt, m, st, rfl, ha, hs, h1, hf, q2, qn⟩ := h
    refine ⟨_, (pss_cons (ps_expr (pe_cal c_check_taps hr (pa_cons (pv 0) pa_nil)))
      (pss_cons (ps_if (PW.pt (pw_or (pt_not (pt_val (pe_callB call_isi (by rfl) z.isinstance (by decide +kernel) (pa_cons (pv 1) (pa_cons (pe_glob (v := .ref C) (by rfl) FC.gC rfl) pa_nil))))) (pw_or1 (pt_cmpR op_isN (pe_fld (pv 1) rfl) pe_non (nomark _))))) (pss_one ps_never) pss_nil)
      (pss_cons (ps_asg (pe_cal c_extremes hr (pa_cons (pv 0) (pa_cons (pe_calm0 (pv 1) T.cl m_least hr) (pa_cons (pe_calm0 (pv 1) T.cl m_greatest hr) pa_nil)))) (pg_tup (by rfl) (pgs_cons (pg_name (i := 2) sc_guard.nd rfl (.inl rfl)) (pgs_cons (pg_name (i := 3) sc_guard.nd rfl (.inl rfl)) (pgs_cons (pg_name (i := 4) sc_guard.nd rfl (.inl rfl)) (pgs_cons (pg_name (i := 5) sc_guard.nd rfl (.inl rfl)) pgs_nil))))))
      (pss_cons (ps_set (i := 6) sc_guard.nd rfl (.inl rfl) (pe_callB (call_max2 rfl) (by rfl) z.max (by decide +kernel) (pa_cons (pe_cal c_width_for hr (pa_cons (pv 2) pa_nil)) (pa_cons (pe_cal c_width_for hr (pa_cons (pv 4) pa_nil)) pa_nil))))
      (pss_cons (ps_if (pt_cmpR op_eq (pv 6) (pe_glob (v := .int 2) (by rfl) g_LEAST_WIDTH_taps ⟨_, rfl⟩) (nomark _)) (pss_one (ps_ret (pe_tup (pa_cons (pv 6) (pa_cons pe_non pa_nil))))) pss_nil)
      (pss_one (ps_ret (pe_tup (pa_cons (pv 6) (pa_cons (pe_ifExp (pt_cmpR op_eq (pe_cal c_width_for hr (pa_cons (pv 4) pa_nil)) (pv 6) (nomark _)) (pv 5) (pv 3)) pa_nil)))))))))), ?_⟩
    refine ⟨_, rfl, a, ns, rfl, ha, hs, h1, fun H1 s1 => ?_⟩
    have hf1 := hf.same s1
    obtain ⟨⟨dx, ho⟩, hw, _, _⟩ := id hf1
    obtain ⟨x0, x1⟩ := hw x rfl
    refine ⟨_, rfl, _, .ref C, _, _, true, rfl, .own C, .base (.ins ho T.cl FC.ha FC.hn FC.ht FC.hm), FC.kC, _, rfl, iteF ?_⟩
    refine ⟨_, rfl, p, C, dx, _, _, rfl, ho, T.cl, T.nW, fl_w, rfl, _, rfl, ite2 (fun c => absurd (toB c) (fun e => nomatch e)) (fun _ => ?_)⟩
    refine ⟨_, rfl, _, rfl, p, dx, _, rfl, ho, fl_no (by decide +kernel), p, some x, pt, m, st, rfl, hf1, _, rfl, p, dx, _, rfl, ho, fl_no (by decide +kernel), p, some x, pt, m, st, rfl, hf1, ?_⟩
    refine ⟨a, ns, lst x, grt x, rfl, s1 _ _ ha, hs, h1, lst_grt x0, fun t b c H2 nt nb nc nbt s2 ht hb hc nbc => ?_⟩
    refine ⟨t, _, rfl, SqT.of ht, rfl, _, _, rfl, _, _, rfl, _, _, rfl, _, _, rfl, rfl, ?_⟩
    refine ⟨_, rfl, _, rfl, _, rfl, _, rfl, _, _, rfl, ?_⟩
    have S2 := s1.trans s2
    refine ⟨_, rfl, rfl, _, rfl, ite2 (fun cc => ?_) (fun cc => ?_)⟩
    · have e2 : gW x ns = 2 := V.int.inj (toB cc)
      refine ⟨_, rfl, (by show 2 ≤ sizeLine; decide), fun t2 ht2 => ?_⟩
      exact q2 e2 t2 _ (S2.free ht2) (S2.trans (same_new ht2)) upd_same
    · have e2 : gW x ns ≠ 2 := fun e => toNB cc (congrArg V.int e)
      refine ⟨_, rfl, _, rfl, _, rfl, _, rfl, rfl, _, rfl, ?_⟩
      have go : ∀ (d : Addr) (row : List Int), H d = none → H2 d = some (.lst (row.map V.int)) → row = (if widI (sUp x ns) = gW x ns then upR (lst x) (grt x) ns else lowR (lst x) (grt x) ns).reverse → ∀ t2, H2 t2 = none → Q (.ref t2) (upd H2 t2 (.tup [.int (gW x ns), .ref d])) := fun d row nd hd hr2 t2 ht2 => by
        refine qn e2 t2 d _ (S2.free ht2) nd (ne_of_none hd ht2) (S2.trans (same_new ht2)) upd_same ?_
        rw [upd_ne (ne_of_none hd ht2), hd, hr2]
      by_cases c2 : widI (sUp x ns) = gW x ns
      · refine iteC (decide_eq_true (congrArg V.int c2)) (iteT ⟨_, rfl, (by show 2 ≤ sizeLine; decide), fun t2 ht2 => ?_⟩)
        exact go c _ (s1.free nc) hc (by rw [if_pos c2]) t2 ht2
      · refine iteC (decide_eq_false (fun e => c2 (V.int.inj e))) (iteF ⟨_, rfl, (by show 2 ≤ sizeLine; decide), fun t2 ht2 => ?_⟩)
        exact go b _ (s1.free nb) hb (by rw [if_neg c2]) t2 ht2
end
end E1

namespace E1
open PySem PySem.Spec PyProof.Rows L2

def spSWord : Sp := fun vs H Q _ => ∃ (a : Addr) (c lo hi : Int), vs = [.ref a, .int lo, .int hi] ∧ WellAt H a c ∧ 0 ≤ c ∧ c ≤ 10000 ∧ lo ≤ hi ∧ (hi - lo + 1).natAbs < 2 ^ 100 ∧ ∀ (x : Int) (H' : Hp), lo ≤ x → x ≤ hi → SameBut a H H' → Q (.int x) H'
def spSNet (C CN : Addr) : Sp := fun vs H Q _ => ∃ (tl fp : Addr) (ts : List Int) (W b : Int), vs = [.ref tl, .int W, .ref fp] ∧ H tl = some (.lst (ts.map V.int)) ∧ 1 ≤ ts.length ∧ ts.length ≤ 7 ∧ (∀ t ∈ ts, t.natAbs < 9223372036854775808) ∧ 2 ≤ W ∧ W ≤ 64 ∧ 2 ≤ b ∧ b ≤ 64 ∧ FAt C H fp ⟨some b, 0, .half, true⟩ ∧ ∀ p H', Same H H' → NetAt C CN H' p (sN b W ts) → Q (.ref p) H'
theorem make_same {G : Hp} {x dx C : Addr} (hx : G x = none) (hdx : G dx = none) (ne : dx ≠ x) : Same G (upd (upd G dx (.own x)) x (.ins C dx [])) :=
  (same_new hdx).trans (same_new (by rw [upd_ne ne.symm]; exact hx))
theorem TsAt.one {G : Hp} {l p : Addr} {rows : List Row} {r : Row} {vs : List V} (hl : G l = some (.lst vs)) (t : TsAt G vs (rows.map Row.vs)) (hp : G p = some (.tup r.vs)) : TsAt (upd G l (.lst (vs ++ [.ref p]))) (vs ++ [.ref p]) ((rows ++ [r]).map Row.vs) := by
  rw [List.map_append]
  exact TsAt.push hl t hp
section
variable {P : Program} {w : World} {K : PySem.W.Frag} {mg : Str → Option Value} {base : Heap}
theorem sc__law_word : FnScope ["_law_well_here", "_law_low", "_law_high"] ["_law_well_here", "_law_low", "_law_high"] (defScope s__law_word) := ⟨rfl, rfl, rfl, by decide +kernel, rfl, by decide +kernel, by decide +kernel⟩
theorem ok__law_word {f : Addr} {fd : FuncData} (F : Fun K "_law_word" "_law_word" s__law_word f fd) (c__law_draw : Cal P w K mg base 1 "_law_draw" ["_law_well_here", "_law_many"] spDraw) : FnOk P w K mg base CX0 2 f fd ["_law_well_here", "_law_low", "_law_high"] spSWord := by
  refine F.ok sc__law_word (fun vs H Q E h => ?_) (fun cdv A outer s H vs Q E hr h => ?_)
  · obtain ⟨a, c, lo, hi, rfl, _⟩ := h
    rfl
  · obtain ⟨a, c, lo, hi, rfl, hw, c0, c1, lh, sz, q⟩ := h
    refine ⟨_, (pss_one (ps_ret (pe_ix ix_list (pe_lst (pa_cons (pv 1) (pa_cons (pv 2) (pa_cons (pe_op op_add (pv 1) (pe_cal c__law_draw hr (pa_cons (pv 0) (pa_cons (pe_op op_add (pe_op op_sub (pv 2) (pv 1)) pe_int) pa_nil)))) pa_nil)))) (pe_cal c__law_draw hr (pa_cons (pv 0) (pa_cons pe_int pa_nil))) (fun _ _ => rfl)))), ?_⟩
    refine ⟨_, rfl, _, rfl, _, rfl, _, rfl, _, rfl, _, rfl, _, _, rfl, rfl, _, _, rfl, rfl, a, c, _, rfl, hw, by omega, by omega, Nat.lt_of_lt_of_le sz (Nat.pow_le_pow_right (by decide) (by decide)), fun r1 H1 r10 r11 d1 e1 w1 => ⟨_, _, rfl, rfl, (by show 3 ≤ sizeLine; decide), fun l hl => ?_⟩⟩
    generalize hG : upd _ l _ = G
    obtain ⟨s1, h_l⟩ := upd_gen hG hl
    have nl : l ≠ a := w1.ne hl
    refine ⟨_, rfl, a, c + 1, 3, rfl, w1.same s1, by omega, by decide, by decide +kernel, fun r2 H2 r20 r21 d2 e2 w2 => ?_⟩
    have SB : SameBut a H H2 := (d1.trans (.of s1)).trans d2
    rcases (by omega : r2 = 0 ∨ r2 = 1 ∨ r2 = 2) with rfl | rfl | rfl
    · exact ⟨l, _, _, .int lo, rfl, rfl, SqL.of (d2 _ _ nl h_l), a0, q lo H2 (Int.le_refl _) lh SB⟩
    · exact ⟨l, _, _, .int hi, rfl, rfl, SqL.of (d2 _ _ nl h_l), a1, q hi H2 lh (Int.le_refl _) SB⟩
    · exact ⟨l, _, _, .int (lo + r1), rfl, rfl, SqL.of (d2 _ _ nl h_l), a2, q (lo + r1) H2 (by omega) (by omega) SB⟩
theorem sc__law_net : FnScope ["_law_taps", "_law_width", "_law_form", "_law_many", "_law_k", "_law_rows", "_law_last", "_law_out", "_law_holds"] ["_law_taps", "_law_width", "_law_form"] (defScope s__law_net) := ⟨rfl, rfl, rfl, by decide +kernel, rfl, by decide +kernel, by decide +kernel⟩
theorem ok__law_net {f : Addr} {fd : FuncData} {C CN : Addr} (F : Fun K "_law_net" "_law_net" s__law_net f fd) (z : Zs mg) (c_Form_4 : CalC P w K mg base 3 "Form" C ["self", "width", "point", "manner", "ends"] [] (spInit C)) (c_Net_5 : CalC P w K mg base 6 "Net" CN ["self", "forms", "enters", "rows", "holds", "out"] [] (spNetInit C CN)) : FnOk P w K mg base CX0 8 f fd ["_law_taps", "_law_width", "_law_form"] (spSNet C CN) := by
  refine F.ok sc__law_net (fun vs H Q E h => ?_) (fun cdv A outer s H vs Q E hr h => ?_)
  · obtain ⟨tl, fp, ts, W, b, rfl, _⟩ := h
    rfl
  · obtain ⟨tl, fp, ts, W, b, rfl, htl, l1, l7, hts, w0, w1, b0, b1, hf, q⟩ := h
    refine ⟨_, (pss_cons (ps_set (i := 3) sc__law_net.nd rfl (.inl rfl) (pe_callB call_len_seq (by rfl) z.len PySem.boot_len (pa_cons (pv 0) pa_nil)))
      (pss_cons (ps_set (i := 5) sc__law_net.nd rfl (.inl rfl) (pe_op op_cat (pe_lst (pa_cons (pe_tup (pa_cons pe_str pa_nil)) pa_nil)) (pe_lc (own := [("_law_k", 4)]) (g := gName 4) (tt := tYes) (te := (tTup (tCons (tC (.str "old")) (tCons (tVar 4) tNil)))) (by rfl) sc__law_net.nd (pi_range1 (by rfl) z.range (pa_cons (pe_op op_sub (pv 3) pe_int) pa_nil)) (blkOk_by (own := [("_law_k", 4)]) (N := ["_law_taps", "_law_width", "_law_form", "_law_many", "_law_k", "_law_rows", "_law_last", "_law_out", "_law_holds"]) (sc := defScope s__law_net) (by decide +kernel)) (fun _ _ _ _ _ => by exact (pg_name (i := 4) sc__law_net.nd rfl (.inl rfl))) (fun _ _ _ _ _ => by exact pts_nil) (fun _ _ _ _ _ => by exact (pe_tup (pa_cons pe_str (pa_cons (pv 4) pa_nil)))))))
      (pss_cons (ps_for PassesOwn.never rfl (pi_range1 (by rfl) z.range (pa_cons (pv 3) pa_nil)) (pg_name (i := 4) sc__law_net.nd rfl (.inl rfl)) (pss_one (ps_expr (pe_bm PySem.F.plainAttrs_list PySem.F.slot_list_append PySem.F.type_list_append mt_append (pv 5) (pa_cons (pe_tup (pa_cons pe_str (pa_cons (pe_ix ix_list (pv 0) (pv 4) (fun _ _ => rfl)) (pa_cons pe_int (pa_cons (pv 4) pa_nil))))) pa_nil)))))
      (pss_cons (ps_set (i := 6) sc__law_net.nd rfl (.inl rfl) (pv 3))
      (pss_cons (ps_for PassesOwn.never rfl (pi_range2 (by rfl) z.range (pa_cons pe_int (pa_cons (pv 3) pa_nil))) (pg_name (i := 4) sc__law_net.nd rfl (.inl rfl)) (pss_cons (ps_expr (pe_bm PySem.F.plainAttrs_list PySem.F.slot_list_append PySem.F.type_list_append mt_append (pv 5) (pa_cons (pe_tup (pa_cons pe_str (pa_cons (pv 6) (pa_cons (pe_op op_add (pv 3) (pv 4)) pa_nil)))) pa_nil)))
      (pss_one (ps_set (i := 6) sc__law_net.nd rfl (.inl rfl) (pe_op op_sub (pe_callB call_len_seq (by rfl) z.len PySem.boot_len (pa_cons (pv 5) pa_nil)) pe_int)))))
      (pss_cons (ps_expr (pe_bm PySem.F.plainAttrs_list PySem.F.slot_list_append PySem.F.type_list_append mt_append (pv 5) (pa_cons (pe_tup (pa_cons pe_str (pa_cons pe_int (pa_cons (pv 6) pa_nil)))) pa_nil)))
      (pss_cons (ps_set (i := 7) sc__law_net.nd rfl (.inl rfl) (pe_op op_sub (pe_callB call_len_seq (by rfl) z.len PySem.boot_len (pa_cons (pv 5) pa_nil)) pe_int))
      (pss_cons (ps_set (i := 8) sc__law_net.nd rfl (.inl rfl) (pe_lst pa_nil))
      (pss_cons (ps_for PassesOwn.never rfl (pi_range1 (by rfl) z.range (pa_cons (pe_op op_sub (pv 3) pe_int) pa_nil)) (pg_name (i := 4) sc__law_net.nd rfl (.inl rfl)) (pss_cons (ps_expr (pe_bm PySem.F.plainAttrs_list PySem.F.slot_list_append PySem.F.type_list_append mt_append (pv 8) (pa_cons (pe_tup (pa_cons pe_int (pa_cons pe_int (pa_cons (pe_callB call_len_seq (by rfl) z.len PySem.boot_len (pa_cons (pv 5) pa_nil)) pa_nil)))) pa_nil)))
      (pss_one (ps_expr (pe_bm PySem.F.plainAttrs_list PySem.F.slot_list_append PySem.F.type_list_append mt_append (pv 5) (pa_cons (pe_tup (pa_cons pe_str (pa_cons pe_int (pa_cons (pv 4) pa_nil)))) pa_nil))))))
      (pss_one (ps_ret (pe_calc c_Net_5 hr (pa_cons (pe_lst (pa_cons (pv 2) (pa_cons (pe_calc c_Form_4 hr (pa_cons (pv 1) (pa_cons pe_int (pa_cons pe_str (pa_cons pe_str pa_nil))))) pa_nil))) (pa_cons pe_int (pa_cons (pv 5) (pa_cons (pv 8) (pa_cons (pv 7) pa_nil))))))))))))))))), ?_⟩
    have ll : (ts.map V.int).length = ts.length := List.length_map ..
    refine ⟨_, rfl, tl, _, rfl, .inl (SqL.of htl), ?_⟩
    rw [ll]
    refine ⟨(by show 1 ≤ sizeLine; decide), fun t0 ht0 => ?_⟩
    generalize hG1 : upd _ t0 _ = G1
    obtain ⟨s1, h_t0⟩ := upd_gen hG1 ht0
    refine ⟨(by show 1 ≤ sizeLine; decide), fun q0 hq0 => ?_⟩
    generalize hG2 : upd _ q0 _ = G2
    obtain ⟨s2, h_q0⟩ := upd_gen hG2 hq0
    refine ⟨_, rfl, _, _, rfl, rfl, ts.length - 1, congrArg (fun t => [V.int t]) (by omega), by omega, by omega, fun D hD => ?_⟩
    refine lc_it walk_range (fun i G => Same G2 G ∧ ∃ ws, G D = some (.lst ws) ∧ TsAt G ws (((List.range i).map Row.old).map Row.vs)) ⟨same_new hD, [], upd_same, .nil⟩ (fun _ _ _ _ => trivial) (fun i v G G' hi hP hY => ?_) (fun G0 hP => ?_)
    · obtain ⟨s3, ws, hd, tw⟩ := hP
      obtain ⟨rfl, rfl⟩ := hY
      have lw := tw.len
      rw [List.length_map, List.length_map, List.length_range] at lw
      refine ⟨rfl, _, rfl, (by show 2 ≤ sizeLine; decide), fun p hp => ?_⟩
      generalize hG4 : upd _ p _ = G4
      obtain ⟨s4, h_p⟩ := upd_gen hG4 hp
      refine ⟨ws, s4 _ _ hd, sl_lt (by omega), fun b o e => ?_, _, upd_same, ?_⟩
      · rw [upd_ne (ne_of_none e hD)]
        exact s4 _ _ (s3 _ _ e)
      · rw [List.range_succ, List.map_append]
        refine TsAt.one (r := Row.old i) (s4 _ _ hd) (tw.same s4) ?_
        rw [h_p]
        show some (HO.tup [V.str "old", V.int (0 + (i : Int))]) = some (.tup [V.str "old", V.int (i : Int)])
        rw [Int.zero_add]
    obtain ⟨s3, ws, hd, tw⟩ := hP
    rw [show ((ts.length : Int) - 1).toNat = ts.length - 1 by omega] at tw
    have lw := tw.len
    rw [List.length_map, List.length_map, List.length_range] at lw
    refine ⟨q0, D, _, _, rfl, rfl, s3 _ _ h_q0, hd, sl_le (by rw [List.length_singleton]; omega), fun rl hrl => ?_⟩
    have f0 := hrl
    generalize hG5 : upd _ rl _ = G5
    obtain ⟨s5, h_rl⟩ := upd_gen hG5 hrl
    have S0 : Same H G0 := (s1.trans s2).trans s3
    have I0 : Same G0 G5 ∧ ∃ rv, G5 rl = some (.lst rv) ∧ TsAt G5 rv ((sR1 ts.length).map Row.vs) := ⟨s5, _, h_rl, .cons (s5 _ _ (s3 _ _ (s2 _ _ h_t0))) (tw.same s5)⟩
    have ne : ∀ {c o}, G0 c = some o → c ≠ rl := fun e => ne_of_none e f0
    refine ⟨_, rfl, ts.length, rfl, by omega, by omega, ?_⟩
    refine for_it walk_range (fun i σ G => ∃ y4 : Option V, σ = [some (.ref tl), some (.int W), some (.ref fp), some (.int (ts.length : Nat)), y4, some (.ref rl), none, none, none] ∧ Same G0 G ∧ ∃ rv, G rl = some (.lst rv) ∧ TsAt G rv ((sR1 ts.length ++ (List.range i).map (tRow ts)).map Row.vs)) ⟨none, rfl, by rw [List.range_zero, List.map_nil, List.append_nil]; exact I0⟩ (fun _ _ _ _ _ => trivial) (fun i v σ G G' hi hP hY => ?_) (fun σ G hP => ?_)
    · obtain ⟨y4, rfl, S, rv, hrv, tv⟩ := hP
      obtain ⟨rfl, rfl⟩ := hY
      have zi : (fun i : Nat => V.int (0 + (i : Int))) i = V.int (i : Int) := congrArg V.int (Int.zero_add _)
      rw [zi]
      refine ⟨_, rfl, .inl ⟨rfl, _, SqL.of hrv⟩, _, rfl, _, rfl, tl, _, _, _, rfl, rfl, SqL.of (S _ _ (S0 _ _ htl)), ints_at hi, _, rfl, (by show 4 ≤ sizeLine; decide), fun p hp => ?_⟩
      generalize hGp : upd _ p _ = Gp
      obtain ⟨sp, h_p⟩ := upd_gen hGp hp
      have hrv2 := sp _ _ hrv
      have lv := tv.len
      rw [List.length_map] at lv
      rw [List.length_append, sR1_len l1, List.length_map, List.length_range] at lv
      refine ⟨rl, _, _, rfl, rfl, hrv2, sl_lt (by omega), _, rfl, fun c o e => ?_, _, upd_same, ?_⟩
      · rw [upd_ne (ne e)]
        exact sp _ _ (S _ _ e)
      · rw [List.range_succ, List.map_append (f := tRow ts), ← List.append_assoc]
        exact TsAt.one (r := tRow ts i) hrv2 (tv.same sp) h_p
    obtain ⟨y4, rfl, I1⟩ := hP
    refine ⟨_, rfl, ?_⟩
    refine ⟨_, rfl, 1, _, rfl, ⟨by omega, by omega, by omega, by omega⟩, ?_⟩
    refine for_it (walk_range (lo := 1) (n := ((ts.length : Int) - 1).toNat)) (fun i σ G => ∃ y4 : Option V, σ = [some (.ref tl), some (.int W), some (.ref fp), some (.int (ts.length : Nat)), y4, some (.ref rl), some (.int ((preI ts.length i : Nat) : Int)), none, none] ∧ Same G0 G ∧ ∃ rv, G rl = some (.lst rv) ∧ TsAt G rv (((sR1 ts.length ++ (List.range ts.length).map (tRow ts)) ++ (List.range i).map (pRow ts.length)).map Row.vs)) ⟨y4, rfl, by rw [List.range_zero, List.map_nil, List.append_nil]; exact I1⟩ (fun _ _ _ _ _ => trivial) (fun i v σ G G' hi hP hY => ?_) (fun σ G hP => ?_)
    · obtain ⟨y4, rfl, S, rv, hrv, tv⟩ := hP
      obtain ⟨rfl, rfl⟩ := hY
      refine ⟨_, rfl, .inl ⟨rfl, _, SqL.of hrv⟩, _, rfl, _, rfl, _, rfl, _, _, rfl, rfl, (by show 3 ≤ sizeLine; decide), fun p hp => ?_⟩
      generalize hGp : upd _ p _ = Gp
      obtain ⟨sp, h_p⟩ := upd_gen hGp hp
      have hrv2 := sp _ _ hrv
      have lv := tv.len
      rw [List.length_map] at lv
      rw [List.length_append, List.length_append, sR1_len l1, List.length_map, List.length_range, List.length_map, List.length_range] at lv
      refine ⟨rl, _, _, rfl, rfl, hrv2, sl_lt (by omega), ?_⟩
      refine ⟨_, rfl, rl, _, rfl, .inl (SqL.of upd_same), _, _, rfl, rfl, some (.int (1 + (i : Int))), ?_, fun c o e => ?_, _, upd_same, ?_⟩
      · have e1 : preI ts.length (i + 1) = 2 * ts.length + i := by
          unfold preI
          rw [if_neg (by omega)]
          omega
        have e2 : (((rv ++ [V.ref p]).length : Nat) : Int) - 1 = ((preI ts.length (i + 1) : Nat) : Int) := by
          rw [List.length_append, List.length_singleton, e1]
          omega
        show _ = ([some (.ref tl), some (.int W), some (.ref fp), some (.int (ts.length : Nat)), some (.int (1 + (i : Int))), some (.ref rl), some (.int ((preI ts.length (i + 1) : Nat) : Int)), none, none] : List (Option V))
        rw [← e2]
        rfl
      · rw [upd_ne (ne e)]
        exact sp _ _ (S _ _ e)
      · rw [List.range_succ, List.map_append (f := pRow ts.length), ← List.append_assoc]
        refine TsAt.one (r := pRow ts.length i) hrv2 (tv.same sp) ?_
        rw [h_p]
        show some (HO.tup [V.str "plus", V.int ((preI ts.length i : Nat) : Int), V.int ((ts.length : Int) + (1 + (i : Int)))]) = some (.tup [V.str "plus", V.int ((preI ts.length i : Nat) : Int), V.int (((ts.length + i + 1 : Nat)) : Int)])
        rw [show (ts.length : Int) + (1 + (i : Int)) = ((ts.length + i + 1 : Nat) : Int) by omega]
    obtain ⟨y4, rfl, S, rv, hrv, tv⟩ := hP
    rw [show ((ts.length : Int) - 1).toNat = ts.length - 1 by omega] at tv
    have pl : preI ts.length ((ts.length : Int) - 1).toNat = lastI ts.length := by
      rw [show ((ts.length : Int) - 1).toNat = ts.length - 1 by omega]
      unfold preI lastI
      by_cases c : ts.length = 1
      · rw [if_pos (by omega), if_pos c]
        exact c
      · rw [if_neg (by omega), if_neg c]
        omega
    rw [pl]
    clear I0 I1 s1 s2 s3 s5 hd tw h_t0 h_q0 hD
    have lv := tv.len
    rw [List.length_map, List.length_append, List.length_append, sR1_len l1, List.length_map, List.length_range, List.length_map, List.length_range] at lv
    refine ⟨_, rfl, .inl ⟨rfl, _, SqL.of hrv⟩, _, rfl, (by show 3 ≤ sizeLine; decide), fun p hp => ?_⟩
    generalize hGp : upd _ p _ = Gp
    obtain ⟨sp, h_p⟩ := upd_gen hGp hp
    have hrv2 := sp _ _ hrv
    refine ⟨rl, _, _, rfl, rfl, hrv2, sl_lt (by omega), ?_⟩
    have tv3 := TsAt.one (r := Row.keep 1 (lastI ts.length)) hrv2 (tv.same sp) h_p
    generalize hGq : upd _ rl _ = Gq at tv3 ⊢
    obtain ⟨sq, h_rq⟩ := upd_but hGq
    have Sq : Same G0 Gq := fun c o e => sq _ _ (ne e) (sp _ _ (S _ _ e))
    have lo : (((rv ++ [V.ref p]).length : Nat) : Int) - 1 = ((3 * ts.length - 1 : Nat) : Int) := by
      rw [List.length_append, List.length_singleton]
      omega
    refine ⟨_, rfl, rl, _, rfl, .inl (SqL.of h_rq), _, _, rfl, rfl, ?_⟩
    have lo' : (fun i j : Int => V.int (i - j)) (((rv ++ [V.ref p]).length : Nat) : Int) 1 = V.int ((3 * ts.length - 1 : Nat) : Int) := congrArg V.int lo
    rw [lo']
    refine ⟨(by show 0 ≤ sizeLine; decide), fun hl hhl => ?_⟩
    generalize hGr : upd _ hl _ = Gr
    obtain ⟨sr, h_hl⟩ := upd_gen hGr hhl
    have nhr : hl ≠ rl := (ne_of_none h_rq hhl).symm
    have f1 : G0 hl = none := Sq.free hhl
    refine ⟨_, rfl, _, _, rfl, rfl, ts.length - 1, congrArg (fun t => [V.int t]) (by omega), by omega, by omega, ?_⟩
    refine for_it walk_range (fun i σ G => ∃ y4 : Option V, σ = [some (.ref tl), some (.int W), some (.ref fp), some (.int (ts.length : Nat)), y4, some (.ref rl), some (.int ((lastI ts.length : Nat) : Int)), some (.int ((3 * ts.length - 1 : Nat) : Int)), some (.ref hl)] ∧ Same G0 G ∧ ∃ rv, G rl = some (.lst rv) ∧ TsAt G rv ((((sR1 ts.length ++ (List.range ts.length).map (tRow ts)) ++ (List.range (ts.length - 1)).map (pRow ts.length) ++ [Row.keep 1 (lastI ts.length)]) ++ (List.range i).map fun k => Row.keep 0 k).map Row.vs) ∧ ∃ hv, G hl = some (.lst hv) ∧ TsAt G hv (((List.range i).map fun k => (⟨0, 0, 3 * ts.length + k⟩ : Hold)).map Hold.vs)) ⟨y4, rfl, Sq.trans sr, _, sr _ _ h_rq, (by rw [List.range_zero, List.map_nil, List.append_nil]; exact tv3.same sr), [], h_hl, .nil⟩ (fun _ _ _ _ _ => trivial) (fun i v σ G G' hi hP hY => ?_) (fun σ G hP => ?_)
    · obtain ⟨y4, rfl, S, rv, hrv, tv, hv, hhv, tvh⟩ := hP
      obtain ⟨rfl, rfl⟩ := hY
      have lv2 := tv.len
      rw [List.length_map, List.length_append, List.length_append, List.length_append, List.length_append, sR1_len l1, List.length_map, List.length_range, List.length_map, List.length_range, List.length_singleton, List.length_map, List.length_range] at lv2
      have lvh := tvh.len
      rw [List.length_map, List.length_map, List.length_range] at lvh
      have zi : (fun i : Nat => V.int (0 + (i : Int))) i = V.int (i : Int) := congrArg V.int (Int.zero_add _)
      rw [zi]
      refine ⟨_, rfl, .inl ⟨rfl, _, SqL.of hhv⟩, _, rfl, rl, _, rfl, .inl (SqL.of hrv), (by show 3 ≤ sizeLine; decide), fun p1 hp1 => ?_⟩
      generalize hGa : upd _ p1 _ = Ga
      obtain ⟨sa, h_p1⟩ := upd_gen hGa hp1
      have hh2 := sa _ _ hhv
      refine ⟨hl, _, _, rfl, rfl, hh2, sl_lt (by omega), ?_⟩
      have tvh2 : TsAt (upd Ga hl (.lst (hv ++ [.ref p1]))) (hv ++ [.ref p1]) (((List.range (i + 1)).map fun k => (⟨0, 0, 3 * ts.length + k⟩ : Hold)).map Hold.vs) := by
        rw [List.range_succ, List.map_append, List.map_append]
        refine TsAt.push hh2 (tvh.same sa) ?_
        rw [h_p1]
        show some (HO.tup [V.int 0, V.int 0, V.int ((rv.length : Nat) : Int)]) = some (.tup [V.int 0, V.int 0, V.int (((3 * ts.length + i : Nat)) : Int)])
        rw [lv2]
        congr 6
        omega
      have tva := (tv.same sa).but (SameBut.upd (o := .lst (hv ++ [.ref p1]))) hh2
      generalize hGb : upd _ hl _ = Gb at tvh2 tva ⊢
      obtain ⟨sb, h_hb⟩ := upd_but hGb
      have hrb := sb _ _ nhr.symm (sa _ _ hrv)
      refine ⟨_, rfl, .inl ⟨rfl, _, SqL.of hrb⟩, _, rfl, (by show 3 ≤ sizeLine; decide), fun p2 hp2 => ?_⟩
      generalize hGc : upd _ p2 _ = Gc
      obtain ⟨sc, h_p2⟩ := upd_gen hGc hp2
      have hrc := sc _ _ hrb
      refine ⟨rl, _, _, rfl, rfl, hrc, sl_lt (by omega), _, rfl, fun c o e => ?_, _, upd_same, ?_, hv ++ [.ref p1], ?_, ?_⟩
      · have nh : c ≠ hl := ne_of_none e f1
        rw [upd_ne (ne e)]
        exact sc _ _ (sb _ _ nh (sa _ _ (S _ _ e)))
      · rw [List.range_succ, List.map_append (f := fun k => Row.keep 0 k), ← List.append_assoc]
        exact TsAt.one (r := Row.keep 0 i) hrc (tva.same sc) h_p2
      · rw [upd_ne nhr]
        exact sc _ _ h_hb
      · exact (tvh2.same sc).but SameBut.upd hrc
    obtain ⟨y4, rfl, S, rv4, hrv4, tv4, hv, hhv, tvh⟩ := hP
    rw [show ((ts.length : Int) - 1).toNat = ts.length - 1 by omega] at tv4 tvh
    have S4 : Same H G := S0.trans S
    refine ⟨_, rfl, _, rfl, fun x dx hx0 hdx ne2 => ?_⟩
    have sM := make_same (C := C) hx0 hdx ne2
    refine ⟨x, dx, some W, 0, .down, false, rfl, wok_of w0 w1, by decide, by decide, upd_same, fun H2 hF fr1 fr2 => ⟨rfl, ?_⟩⟩
    have S2 : Same G H2 := fun b o e => fr1 b o (ne_of_none e hx0) (sM _ _ e)
    refine ⟨(by show 2 ≤ sizeLine; decide), fun fl hfl => ?_⟩
    generalize hGd : upd _ fl _ = Gd
    obtain ⟨sd, h_fl⟩ := upd_gen hGd hfl
    have S5 := S2.trans sd
    refine ⟨_, rfl, _, rfl, _, rfl, fun y dy hy0 hdy ney => ?_⟩
    have sN := make_same (C := CN) hy0 hdy ney
    have S6 := S5.trans sN
    refine ⟨y, dy, fl, rl, hl, E1.sN b W ts, [.ref fp, .ref x], rv4, hv, rfl, upd_same, sN _ _ h_fl, .cons (FormAt.same hf (S4.trans S6)) (.cons (FormAt.same hF (sd.trans sN)) .nil), S6 _ _ hrv4, tv4.same S6, S6 _ _ hhv, tvh.same S6, s_ok l1 l7 b0 b1 w0 w1 hts, fun HN hN fr => ⟨rfl, q y HN (fun c o e => fr c o (ne_of_none (S5 _ _ (S4 _ _ e)) hy0) ((S4.trans S6) _ _ e)) hN⟩⟩
end
end E1

namespace E1
open PySem PySem.Spec PyProof.Rows L2
/-! ### words that no sum takes over -/
theorem dot_bd (A B : Nat) : ∀ (xs ys : List Int), (∀ x ∈ xs, x.natAbs ≤ A) → (∀ y ∈ ys, y.natAbs ≤ B) → (dotI xs ys).natAbs ≤ xs.length * (A * B)
  | [], _, _, _ => by simp [dotI]
  | _ :: _, [], _, _ => by simp [dotI]
  | x :: xs, y :: ys, hx, hy => by
    have i := dot_bd A B xs ys (fun z hz => hx z (List.mem_cons_of_mem _ hz)) (fun z hz => hy z (List.mem_cons_of_mem _ hz))
    show (x * y + dotI xs ys).natAbs ≤ (xs.length + 1) * (A * B)
    have m : (x * y).natAbs ≤ A * B := by
      rw [Int.natAbs_mul]
      exact Nat.mul_le_mul (hx x List.mem_cons_self) (hy y List.mem_cons_self)
    have t := Int.natAbs_add_le (x * y) (dotI xs ys)
    rw [Nat.add_mul, Nat.one_mul]
    omega
theorem wid_small {n : Int} (h : n.natAbs < 2 ^ 62) : widI n ≤ 64 := by
  have r : roomB 64 n = true := by
    unfold roomB
    have e : (2 : Int) ^ ((64 : Int) - 1).toNat = 9223372036854775808 := by decide +kernel
    rw [e, decide_eq_true (by omega), decide_eq_true (by omega)]
    rfl
  have b := (room_iff (by omega)).mp r
  unfold widI
  split <;> omega
theorem in_iff {x v : Int} : inR (some x) v = true ↔ lst x ≤ v ∧ v ≤ grt x := by
  show (decide (lst x ≤ v) && decide (v ≤ grt x)) = true ↔ _
  rw [Bool.and_eq_true, decide_eq_true_eq, decide_eq_true_eq]
theorem room_in (wd n : Int) : roomB wd n = inR (some wd) n := by
  rw [Bool.eq_iff_iff, in_iff]
  unfold roomB lst grt two
  rw [Bool.and_eq_true, decide_eq_true_eq, decide_eq_true_eq]
  generalize (2 : Int) ^ (wd - 1).toNat = p
  omega
theorem two_le {x : Int} {k : Nat} (h : x ≤ k) : two (x - 1) ≤ 2 ^ (k - 1) := by
  have := Nat.pow_le_pow_right (n := 2) (by decide) (show (x - 1).toNat ≤ k - 1 by omega)
  unfold two
  exact_mod_cast this
theorem in_small {x v : Int} (h2 : x ≤ 16) (h : inR (some x) v = true) : v.natAbs ≤ 32768 := by
  obtain ⟨a, b⟩ := in_iff.mp h
  have t := two_le (k := 16) h2
  unfold lst at a
  unfold grt at b
  omega
theorem pick_in {x : Int} (h1 : 2 ≤ x) (f : Int → Bool) (xs : List Int) : ∀ y ∈ pick (lst x) (grt x) f xs, inR (some x) y = true := fun y hy => by
  unfold pick at hy
  obtain ⟨t, _, rfl⟩ := List.mem_map.mp hy
  have l := lst_grt h1
  rw [in_iff]
  split <;> omega
abbrev rowB (x : Int) (ns : List Int) : List Int := if widI (sUp x ns) = gW x ns then upR (lst x) (grt x) ns else lowR (lst x) (grt x) ns
theorem rowB_len (x : Int) (ns : List Int) : (rowB x ns).length = ns.length := by
  unfold rowB
  split <;> exact pick_len _ _ _ _
theorem rowB_in {x : Int} (h1 : 2 ≤ x) (ns : List Int) : ∀ y ∈ rowB x ns, inR (some x) y = true := by
  unfold rowB
  split
  · exact pick_in h1 _ _
  · exact pick_in h1 _ _
/-- the told width: it has room for all sums, and a lesser one has none for the told row's -/
theorem gw83 {x : Int} {ns : List Int} (h1 : 2 ≤ x) (h2 : x ≤ 16) (l7 : ns.length ≤ 7) (hs : ∀ t ∈ ns, t.natAbs ≤ 1073741824) : 2 ≤ gW x ns ∧ gW x ns ≤ 64 ∧ (∀ ws : List Int, ns.length = ws.length → (∀ v ∈ ws, inR (some x) v = true) → inR (some (gW x ns)) (dotI ns ws) = true) ∧ (gW x ns ≠ 2 → inR (some (gW x ns - 1)) (dotI ns (rowB x ns)) = false) := by
  obtain ⟨m1, m2, m3⟩ : widI (sLow x ns) ≤ gW x ns ∧ widI (sUp x ns) ≤ gW x ns ∧ (gW x ns = widI (sLow x ns) ∨ gW x ns = widI (sUp x ns)) := max_facts _ _
  have bd : ∀ f : Int → Bool, (dotI ns (pick (lst x) (grt x) f ns)).natAbs < 2 ^ 62 := fun f => by
    have d := dot_bd 1073741824 32768 ns (pick (lst x) (grt x) f ns) hs fun y hy => in_small h2 (pick_in h1 f ns y hy)
    have : ns.length * (1073741824 * 32768) ≤ 7 * (1073741824 * 32768) := Nat.mul_le_mul_right _ l7
    omega
  have w1 := wid_small (bd fun t => decide (t < 0))
  have w2 := wid_small (bd fun t => decide (t > 0))
  have g2 := (wid_ge (sLow x ns)).1
  refine ⟨by omega, ?_, fun ws hl hw => ?_, fun ne => ?_⟩
  · rcases m3 with e | e
    · rw [e]
      exact w1
    · rw [e]
      exact w2
  · have r1 := wid_room m1
    have r2 := wid_room m2
    rw [room_in, in_iff] at r1 r2
    have hw' : ∀ v ∈ ws, lst x ≤ v ∧ v ≤ grt x := fun v hv => in_iff.mp (hw v hv)
    have a := least_le (lst x) (grt x) ns ws hl hw'
    have c := le_most (lst x) (grt x) ns ws hl hw'
    rw [in_iff]
    exact ⟨Int.le_trans r1.1 a, Int.le_trans c r2.2⟩
  · rw [← room_in]
    by_cases c : widI (sUp x ns) = gW x ns
    · unfold rowB
      rw [if_pos c]
      exact wid_not (n := sUp x ns) (by omega) (by omega)
    · unfold rowB
      rw [if_neg c]
      exact wid_not (n := sLow x ns) (by omega) (by omega)
theorem s_starts (b W : Int) (ts : List Int) : starts (sN b W ts) = List.replicate (ts.length - 1) 0 := by
  show ((List.range (ts.length - 1)).map fun k => (⟨0, 0, 3 * ts.length + k⟩ : Hold)).map (·.s) = _
  rw [List.map_map]
  show (List.range (ts.length - 1)).map (fun _ => (0 : Int)) = _
  rw [List.map_const', List.length_range]
/-- a machine of such a net, whose last words are so -/
structure WinAt (C CN CM : Addr) (B G : Hp) (m pl : Addr) (b W : Int) (ts ws : List Int) (hist : List Trn) : Prop where
  a : MachAt C CN CM (fun y => y = pl) B G m pl (sN b W ts) (starts (sN b W ts)) hist
  ls : ws.length = ts.length
  st : stOf (starts (sN b W ts)) hist = ws.take (ts.length - 1)
  wi : ∀ v ∈ ws, inR (some b) v = true
section
variable {C CN CM : Addr} {B G : Hp} {m pl : Addr} {b W : Int} {ts ws : List Int} {hist : List Trn}
theorem WinAt.same {G' : Hp} (w : WinAt C CN CM B G m pl b W ts ws hist) (s : Same G G') : WinAt C CN CM B G' m pl b W ts ws hist := ⟨w.a.same s, w.ls, w.st, w.wi⟩
theorem WinAt.start (M : MachAt C CN CM (fun y => y = pl) B G m pl (sN b W ts) (starts (sN b W ts)) []) : WinAt C CN CM B G m pl b W ts (List.replicate ts.length 0) [] :=
  ⟨M, List.length_replicate .., by rw [stOf_nil, s_starts, List.take_replicate, Nat.min_eq_left (Nat.sub_le _ _)], fun v hv => by rw [(List.mem_replicate.mp hv).2]; exact in_zero⟩
theorem WinAt.us (w : WinAt C CN CM B G m pl b W ts ws hist) (h1 : 1 ≤ ts.length) : (ws.take (ts.length - 1)).length + 1 = ts.length := by
  have := w.ls
  rw [List.length_take]
  omega
theorem WinAt.hin (w : WinAt C CN CM B G m pl b W ts ws hist) {x : Int} (hx : inR (some b) x = true) : ∀ v ∈ x :: ws.take (ts.length - 1), inR (some b) v = true := fun v hv => by
  rcases List.mem_cons.mp hv with rfl | hv
  · exact hx
  · exact w.wi v (List.mem_of_mem_take hv)
theorem WinAt.step {G' : Hp} (w : WinAt C CN CM B G m pl b W ts ws hist) (h1 : 1 ≤ ts.length) {x : Int} (hx : inR (some b) x = true) (M : MachAt C CN CM (fun y => y = pl) B G' m pl (sN b W ts) (starts (sN b W ts)) (hist ++ [trn (sN b W ts) x (stOf (starts (sN b W ts)) hist)])) : WinAt C CN CM B G' m pl b W ts (x :: ws.take (ts.length - 1)) (hist ++ [trn (sN b W ts) x (ws.take (ts.length - 1))]) := by
  rw [w.st] at M
  refine ⟨M, by rw [List.length_cons]; exact w.us h1, ?_, w.hin hx⟩
  rw [stOf_snoc]
  exact s_beh h1 (w.us h1) b W x fun v hv => w.hin hx v (List.mem_of_mem_take hv)
theorem WinAt.sl (w : WinAt C CN CM B G m pl b W ts ws hist) : (stOf (starts (sN b W ts)) hist).length = (sN b W ts).holds.length := by
  have := w.ls
  rw [w.st, List.length_take]
  show _ = ((List.range (ts.length - 1)).map _).length
  rw [List.length_map, List.length_range]
  omega
theorem WinAt.num (w : WinAt C CN CM B G m pl b W ts ws hist) (ok : NetOk (sN b W ts)) (b1 : b ≤ 16) {x : Int} (hx : inR (some b) x = true) : NumOk (sN b W ts) x (stOf (starts (sN b W ts)) hist) := by
  rw [w.st]
  have sm : ∀ v : Int, v.natAbs ≤ 32768 → v.natAbs < 2 ^ 70 := fun v h => Nat.lt_of_le_of_lt h (by decide)
  have ml : Mild (sN b W ts) := .inl fun f hf => by
    rcases List.mem_cons.mp hf with rfl | hf
    · exact fun e => nomatch e
    · rw [List.mem_singleton.mp hf]
      exact fun e => nomatch e
  exact (turn_sz ok ml (i := 0) (sm x (in_small b1 hx)) (.inl fun k hk => sm k (in_small b1 (w.wi k (List.mem_of_mem_take hk)))) (by decide)).1
end
/-- no turn of a history went over -/
def Quiet (n : NetP) (hist : List Trn) : Prop := ∀ r ∈ hist, oversOf n r.nums = []
theorem Quiet.nil {n : NetP} : Quiet n [] := fun _ h => nomatch h
theorem Quiet.snoc {n : NetP} {hist : List Trn} {r : Trn} (q : Quiet n hist) (h : oversOf n r.nums = []) : Quiet n (hist ++ [r]) := fun y hy => by
  rcases List.mem_append.mp hy with hy | hy
  · exact q y hy
  · rw [List.mem_singleton.mp hy]
    exact h
/-- the last words of a row, behind so many turns -/
def winR (m : Nat) (r : List Int) (j : Nat) : List Int := ((r.take j).reverse ++ List.replicate m 0).take m
theorem winR_zero (m : Nat) (r : List Int) : winR m r 0 = List.replicate m 0 := by
  unfold winR
  rw [List.take_zero, List.reverse_nil, List.nil_append, List.take_of_length_le (by rw [List.length_replicate]; exact Nat.le_refl _)]
theorem winR_next {m : Nat} {r : List Int} {j : Nat} {x : Int} (h : r[j]? = some x) (h1 : 1 ≤ m) : winR m r (j + 1) = x :: (winR m r j).take (m - 1) := by
  obtain ⟨k, rfl⟩ : ∃ k, m = k + 1 := ⟨m - 1, by omega⟩
  have e : r.take (j + 1) = r.take j ++ [x] := by
    rw [List.take_add_one, h]
    rfl
  unfold winR
  rw [e, List.reverse_append, List.reverse_singleton, List.cons_append, List.nil_append, List.cons_append, List.take_succ_cons, List.take_take, show min (k + 1 - 1) (k + 1) = k by omega]
theorem winR_all {m : Nat} {r : List Int} (h : r.length = m) : winR m r m = r.reverse := by
  unfold winR
  rw [List.take_of_length_le (i := m) (l := r) (by omega), List.take_append_of_le_length (by rw [List.length_reverse]; omega), List.take_of_length_le (by rw [List.length_reverse]; omega)]
theorem rep_flat (m : Nat) : (List.replicate (m : Int).toNat [V.int 0]).flatten = (List.replicate m (0 : Int)).map V.int := by
  rw [List.flatten_replicate_singleton, List.map_replicate]
  rfl
theorem ints_shaped (ns : List Int) : SeqAt.shaped (.list (ns.map PyData.int)) = true := PySem.W.shaped_ints ns
theorem eqv_non (x : Int) (ns : List Int) : PyData.eqv (.list ((x :: ns).map PyData.int)) (.list (([] : List Int).map PyData.int)) = false := rfl
end E1

namespace E1
open PySem PySem.Spec PyProof.Rows L2

def spLaw (K : PySem.W.Frag) : Sp := fun vs H Q _ => ∃ (a : Addr) (ns : List Int), vs = [.ref a] ∧ SqL K H a (ns.map V.int) ∧ ns.length ≤ 63 ∧ ∀ H', Q (.bl true) H'
theorem cut_cells3 {ns : List Int} : (cutV (ns.map V.int) (some 1) (some 61)).length ≤ 60 ∧ ∀ v ∈ cutV (ns.map V.int) (some 1) (some 61), ∃ c, v = .int c := by
  refine ⟨?_, fun v hv => ?_⟩
  · unfold cutV
    rw [List.length_take]
    refine Nat.le_trans (Nat.min_le_left _ _) ?_
    rw [show (some (61 : Int)) = some ((61 : Nat) : Int) from rfl, show (some (1 : Int)) = some ((1 : Nat) : Int) from rfl, HT.sIx_nat, HT.sIx_nat]
    omega
  · unfold cutV at hv
    have := List.mem_of_mem_drop (List.mem_of_mem_take hv)
    obtain ⟨c, _, rfl⟩ := List.mem_map.mp this
    exact ⟨c, rfl⟩

theorem pick_t {k x y M : Int} (h0 : 0 ≤ k) (h1 : k < 2) (hx : 0 ≤ x ∧ x < M) (hy : 0 ≤ y ∧ y < M) : ∃ v : Int, atI [V.int x, V.int y] k = some (.int v) ∧ 0 ≤ v ∧ v < M := by
  rcases (by omega : k = 0 ∨ k = 1) with rfl | rfl
  · exact ⟨x, atI_nat (j := 0) rfl, hx⟩
  · exact ⟨y, atI_nat (j := 1) rfl, hy⟩
theorem pick_s {k r : Int} (h0 : 0 ≤ k) (h1 : k < 3) (r0 : 0 ≤ r) (r1 : r < 2) : ∃ v : Int, atI [V.int 1, V.int (-1), V.int (1 - 2 * r)] k = some (.int v) ∧ (v = 1 ∨ v = -1) := by
  rcases (by omega : k = 0 ∨ k = 1 ∨ k = 2) with rfl | rfl | rfl
  · exact ⟨1, atI_nat (j := 0) rfl, .inl rfl⟩
  · exact ⟨-1, atI_nat (j := 1) rfl, .inr rfl⟩
  · exact ⟨1 - 2 * r, atI_nat (j := 2) rfl, by omega⟩
section
variable {P : Program} {w : World} {K : PySem.W.Frag} {mg : Str → Option Value} {base : Heap}
theorem sc_law : FnScope ["_law_script", "_law_well_here", "_law_many", "_law_bits", "_law_sign_kind", "_law_taps", "_law_k", "_law_tap", "_law_form", "_law_width", "_law_row", "_law_machine", "_law_words", "_law_cell", "_law_word_here", "_law_due", "_law_one"] ["_law_script"] (defScope s_law) := ⟨rfl, rfl, rfl, by decide +kernel, rfl, by decide +kernel, by decide +kernel⟩
theorem vg1 {as : Addr} {y1 y2 y3 : Option V} : (List.set (List.set (List.set (L2.start ["_law_script", "_law_well_here", "_law_many", "_law_bits", "_law_sign_kind", "_law_taps", "_law_k", "_law_tap", "_law_form", "_law_width", "_law_row", "_law_machine", "_law_words", "_law_cell", "_law_word_here", "_law_due", "_law_one"] [V.ref as]) 1 y1) 2 y2) 3 y3) = [some (V.ref as), y1, y2, y3, none, none, none, none, none, none, none, none, none, none, none, none, none] := rfl
theorem vg2 {x0 x1 x2 x3 x4 x5 x6 x7 x8 x9 x10 x11 x12 x13 x14 x15 x16 : Option V} {y4 : Option V} : (List.set [x0, x1, x2, x3, x4, x5, x6, x7, x8, x9, x10, x11, x12, x13, x14, x15, x16] 4 y4) = [x0, x1, x2, x3, y4, x5, x6, x7, x8, x9, x10, x11, x12, x13, x14, x15, x16] := rfl
theorem vg3 {x0 x1 x2 x3 x4 x5 x6 x7 x8 x9 x10 x11 x12 x13 x14 x15 x16 : Option V} {y8 : Option V} : (List.set [x0, x1, x2, x3, x4, x5, x6, x7, x8, x9, x10, x11, x12, x13, x14, x15, x16] 8 y8) = [x0, x1, x2, x3, x4, x5, x6, x7, y8, x9, x10, x11, x12, x13, x14, x15, x16] := rfl
theorem ok_law {f : Addr} {fd : FuncData} {C CN CM : Addr} (T : FTxt K mg C) (TN : NTxt K mg CN) (TM : MTxt K mg CM) (F : Fun K "law" "law" s_law f fd) (z : Zs mg) (c__law_cell_at : Cal P w K mg base 1 "_law_cell_at" ["_law_script", "_law_k"] (spCell K)) (c__law_well : Cal P w K mg base 1 "_law_well" ["_law_cell"] spWell) (c__law_draw : Cal P w K mg base 1 "_law_draw" ["_law_well_here", "_law_many"] spDraw) (c__law_word : Cal P w K mg base 2 "_law_word" ["_law_well_here", "_law_low", "_law_high"] spSWord) (c__law_net : Cal P w K mg base 8 "_law_net" ["_law_taps", "_law_width", "_law_form"] (spSNet C CN)) (c_guard : Cal P w K mg base 5 "guard" ["taps", "form"] (spGuard C)) (c_Form_4 : CalC P w K mg base 3 "Form" C ["self", "width", "point", "manner", "ends"] [] (spInit C)) (c_Machine_1 : CalC P w K mg base 6 "Machine" CM ["self", "net", "state"] [V.non] (spMInit C CN CM)) (m_least : CalM P w K mg base 1 C "least" ["self"] (spLeast C)) (m_greatest : CalM P w K mg base 1 C "greatest" ["self"] (spGreatest C)) (x_turns : CalM P w K mg base 1 CM "turns" ["self"] (spTurnsM C CN CM)) (x_went : CalM P w K mg base 1 CM "went" ["self"] (spWentM C CN CM)) (x_overs : CalM P w K mg base 1 CM "overs" ["self"] (spOversM C CN CM)) (x_turn : CalM P w K mg base 9 CM "turn" ["self", "word"] (spTurnM C CN CM)) : FnOk P w K mg base CX0 10 f fd ["_law_script"] (spLaw K) := by
  refine F.ok sc_law (fun vs H Q E h => ?_) (fun cdv A outer s H vs Q E hr h => ?_)
  · obtain ⟨a, ns, rfl, _⟩ := h
    rfl
  · obtain ⟨as, ns, rfl, hS, hlen, q⟩ := h
    refine ⟨_, (pss_cons (ps_set (i := 1) sc_law.nd rfl (.inl rfl) (pe_cal c__law_well hr (pa_cons (pe_cal c__law_cell_at hr (pa_cons (pv 0) (pa_cons pe_int pa_nil))) pa_nil)))
      (pss_cons (ps_set (i := 2) sc_law.nd rfl (.inl rfl) (pe_op op_add pe_int (pe_cal c__law_draw hr (pa_cons (pv 1) (pa_cons pe_int pa_nil)))))
      (pss_cons (ps_set (i := 3) sc_law.nd rfl (.inl rfl) (pe_op op_add pe_int (pe_cal c__law_draw hr (pa_cons (pv 1) (pa_cons pe_int pa_nil)))))
      (pss_cons (ps_set (i := 4) sc_law.nd rfl (.inl rfl) (pe_cal c__law_draw hr (pa_cons (pv 1) (pa_cons pe_int pa_nil))))
      (pss_cons (ps_set (i := 5) sc_law.nd rfl (.inl rfl) (pe_lst pa_nil))
      (pss_cons (ps_for PassesOwn.never rfl (pi_range1 (by rfl) z.range (pa_cons (pv 2) pa_nil)) (pg_name (i := 6) sc_law.nd rfl (.inl rfl)) (pss_cons (ps_set (i := 7) sc_law.nd rfl (.inl rfl) (pe_ix ix_list (pe_lst (pa_cons (pe_cal c__law_draw hr (pa_cons (pv 1) (pa_cons pe_int pa_nil))) (pa_cons (pe_cal c__law_draw hr (pa_cons (pv 1) (pa_cons (pe_op op_pow pe_int pe_int) pa_nil))) pa_nil))) (pe_cal c__law_draw hr (pa_cons (pv 1) (pa_cons pe_int pa_nil))) (fun _ _ => rfl)))
      (pss_one (ps_expr (pe_bm PySem.F.plainAttrs_list PySem.F.slot_list_append PySem.F.type_list_append mt_append (pv 5) (pa_cons (pe_op op_mul (pv 7) (pe_ix ix_list (pe_lst (pa_cons pe_int (pa_cons (pe_un un_neg pe_int) (pa_cons (pe_op op_sub pe_int (pe_op op_mul pe_int (pe_cal c__law_draw hr (pa_cons (pv 1) (pa_cons pe_int pa_nil))))) pa_nil)))) (pv 4) (fun _ _ => rfl))) pa_nil))))))
      (pss_cons (ps_set (i := 8) sc_law.nd rfl (.inl rfl) (pe_calc c_Form_4 hr (pa_cons (pv 3) (pa_cons pe_int (pa_cons pe_str (pa_cons pe_str pa_nil))))))
      (C8.pss_cut (ps_asg (pe_cal c_guard hr (pa_cons (pe_callTy call_list_of (by rfl) z.list (by decide +kernel) (pa_cons (pv 5) pa_nil)) (pa_cons (pv 8) pa_nil))) (pg_tup (by rfl) (pgs_cons (pg_name (i := 9) sc_law.nd rfl (.inl rfl)) (pgs_cons (pg_name (i := 10) sc_law.nd rfl (.inl rfl)) pgs_nil))))
      (pss_cons (ps_if (pt_not (pt_chain op_le op_le pe_int (pv 9) pe_int)) (pss_one (ps_ret pe_bl)) pss_nil)
      (pss_cons (ps_set (i := 11) sc_law.nd rfl (.inl rfl) (pe_calc c_Machine_1 hr (pa_cons (pe_cal c__law_net hr (pa_cons (pv 5) (pa_cons (pv 9) (pa_cons (pv 8) pa_nil)))) pa_nil)))
      (pss_cons (ps_set (i := 12) sc_law.nd rfl (.inl rfl) (pe_op op_rep (pe_lst (pa_cons pe_int pa_nil)) (pv 2)))
      (pss_cons (ps_for PassesOwn.never rfl (pi_list (pe_slice sl_list (pv 0) (po_some pe_int) (po_some pe_int))) (pg_name (i := 13) sc_law.nd rfl (.inl rfl)) (pss_cons (ps_set (i := 14) sc_law.nd rfl (.inl rfl) (pe_cal c__law_word hr (pa_cons (pe_cal c__law_well hr (pa_cons (pv 13) pa_nil)) (pa_cons (pe_calm0 (pv 8) T.cl m_least hr) (pa_cons (pe_calm0 (pv 8) T.cl m_greatest hr) pa_nil)))))
      (pss_cons (ps_set (i := 12) sc_law.nd rfl (.inl rfl) (pe_op op_cat (pe_lst (pa_cons (pv 14) pa_nil)) (pe_slice sl_list (pv 12) po_none (po_some (pe_op op_sub (pv 2) pe_int)))))
      (pss_cons (ps_set (i := 15) sc_law.nd rfl (.inl rfl) (pe_callB (cr_sum rfl) (by rfl) z.sum (by decide +kernel) (pa_cons (pe_lc (own := [("_law_tap", 7), ("_law_one", 16)]) (g := gTup K 2 (gCons (gName 7) (gCons (gName 16) gNil))) (tt := tYes) (te := (tOp (rI CMul fun i j => V.int (i * j)) (tVar 7) (tVar 16))) (by rfl) sc_law.nd (RZ.pi_zipA (by rfl) z.zip (pa_cons (pv 5) (pa_cons (pv 12) pa_nil))) (blkOk_by (own := [("_law_tap", 7), ("_law_one", 16)]) (N := ["_law_script", "_law_well_here", "_law_many", "_law_bits", "_law_sign_kind", "_law_taps", "_law_k", "_law_tap", "_law_form", "_law_width", "_law_row", "_law_machine", "_law_words", "_law_cell", "_law_word_here", "_law_due", "_law_one"]) (sc := defScope s_law) (by decide +kernel)) (fun _ _ _ _ _ => by exact (pg_tup (by rfl) (pgs_cons (pg_name (i := 7) sc_law.nd rfl (.inl rfl)) (pgs_cons (pg_name (i := 16) sc_law.nd rfl (.inl rfl)) pgs_nil)))) (fun _ _ _ _ _ => by exact pts_nil) (fun _ _ _ _ _ => by exact (pe_op op_mul (pv 7) (pv 16)))) pa_nil)))
      (pss_one (ps_if (PW.pt (pw_or (pt_cmpR op_ne (pe_calm (pv 11) TM.cl x_turn hr (pa_cons (pv 14) pa_nil)) (pv 15) (nomark _)) (pw_or1 (pt_cmpR (op_neD hr.units) (pe_calm0 (pv 11) TM.cl x_overs hr) (pe_lst pa_nil) (nomark _))))) (pss_one (ps_ret pe_bl)) pss_nil))))))
      (pss_cons (ps_if (pt_cmpR op_isN (pv 10) pe_non (nomark _)) (pss_one (ps_ret (pe_and (pe_cmpR op_eq (pv 9) pe_int (nomark _)) (pe_one (pe_cmpR (op_eqD hr.units) (pe_calm0 (pv 11) TM.cl x_went hr) (pe_lst pa_nil) (nomark _)))))) pss_nil)
      (pss_cons (ps_set (i := 11) sc_law.nd rfl (.inl rfl) (pe_calc c_Machine_1 hr (pa_cons (pe_cal c__law_net hr (pa_cons (pv 5) (pa_cons (pv 9) (pa_cons (pv 8) pa_nil)))) pa_nil)))
      (pss_cons (ps_for PassesOwn.never rfl (pi_list (pv 10)) (pg_name (i := 14) sc_law.nd rfl (.inl rfl)) (pss_one (ps_expr (pe_calm (pv 11) TM.cl x_turn hr (pa_cons (pv 14) pa_nil)))))
      (pss_cons (ps_if (pt_cmpR (op_neD hr.units) (pe_calm0 (pv 11) TM.cl x_went hr) (pe_lst pa_nil) (nomark _)) (pss_one (ps_ret pe_bl)) pss_nil)
      (pss_cons (ps_if (pt_cmpR op_eq (pv 9) pe_int (nomark _)) (pss_one (ps_ret pe_bl)) pss_nil)
      (pss_cons (ps_set (i := 11) sc_law.nd rfl (.inl rfl) (pe_calc c_Machine_1 hr (pa_cons (pe_cal c__law_net hr (pa_cons (pv 5) (pa_cons (pe_callB (call_max2 rfl) (by rfl) z.max (by decide +kernel) (pa_cons pe_int (pa_cons (pe_op op_sub (pv 9) pe_int) pa_nil))) (pa_cons (pv 8) pa_nil)))) pa_nil)))
      (pss_cons (ps_for PassesOwn.never rfl (pi_list (pv 10)) (pg_name (i := 14) sc_law.nd rfl (.inl rfl)) (pss_one (ps_expr (pe_calm (pv 11) TM.cl x_turn hr (pa_cons (pv 14) pa_nil)))))
      (pss_one (ps_ret (pe_and (pe_cmpR (op_neD hr.units) (pe_calm0 (pv 11) TM.cl x_overs hr) (pe_lst pa_nil) (nomark _)) (pe_one (pe_cmpR op_eq (pe_calm0 (pv 11) TM.cl x_turns hr) (pv 2) (nomark _))))))))))))))))))))))))), ?_⟩
    refine ⟨_, rfl, as, ns, 0, rfl, hS, _, rfl, fun a ha0 H1 s1 k1 => ?_⟩
    refine ⟨_, rfl, a, 0, 7, rfl, k1, by omega, by decide, by decide +kernel, fun r11 H11 r110 r111 d11 e11 w11 => ⟨_, _, rfl, rfl, ?_⟩⟩
    obtain ⟨m, em⟩ : ∃ m : Nat, 1 + r11 = (m : Int) := ⟨(1 + r11).toNat, by omega⟩
    have em' : (fun i j : Int => V.int (i + j)) 1 r11 = V.int (m : Int) := congrArg V.int em
    rw [em']
    refine ⟨_, rfl, a, 0 + 1, 15, rfl, w11, by omega, by decide, by decide +kernel, fun r12 H12 r120 r121 d12 e12 w12 => ⟨_, _, rfl, rfl, ?_⟩⟩
    obtain ⟨b, eb⟩ : ∃ b : Int, 2 + r12 = b := ⟨_, rfl⟩
    have eb' : (fun i j : Int => V.int (i + j)) 2 r12 = V.int b := congrArg V.int eb
    rw [eb']
    refine ⟨_, rfl, a, 0 + 1 + 1, 3, rfl, w12, by omega, by decide, by decide +kernel, fun r13 H13 r130 r131 d13 e13 w13 => ?_⟩
    rw [vg1]
    have m1 : 1 ≤ m := by omega
    have m7 : m ≤ 7 := by omega
    have b0 : 2 ≤ b := by omega
    have b1 : b ≤ 16 := by omega
    have S3 : Same H H13 := same_but s1 ((d11.trans d12).trans d13) ha0
    have w3 : WellAt H13 a 3 := w13.mono (by omega)
    clear s1 k1 d11 d12 d13 e11 e12 e13 w11 w12 w13 em' eb'
    refine ⟨(by show 0 ≤ sizeLine; decide), fun tl htl => ?_⟩
    have htl0 := htl
    generalize hGG0 : upd _ tl _ = G0
    obtain ⟨s0, h_tl⟩ := upd_gen hGG0 htl
    have nta : tl ≠ a := w3.ne htl
    rw [vg2]
    refine ⟨_, rfl, m, rfl, by omega, by omega, ?_⟩
    refine for_it walk_range (fun i σ G => ∃ (y6 y7 : Option V) (ts : List Int), σ = [some (.ref as), some (.ref a), some (.int (m : Nat)), some (.int b), some (.int r13), some (.ref tl), y6, y7, none, none, none, none, none, none, none, none, none] ∧ Same H G ∧ WellAt G a (3 + 4 * i) ∧ G tl = some (.lst (ts.map V.int)) ∧ ts.length = i ∧ ∀ t ∈ ts, t.natAbs ≤ 1073741824) ⟨none, none, [], rfl, S3.trans s0, (w3.same s0).mono (by omega), h_tl, rfl, fun t ht => nomatch ht⟩ (fun _ _ _ _ _ => trivial) (fun i v σ G G' hi hP hY => ?_) (fun σ G hP => ?_)
    · obtain ⟨y6, y7, ts, rfl, S, wa, htl, lt, hts⟩ := hP
      obtain ⟨rfl, rfl⟩ := hY
      refine ⟨_, rfl, a, _, 5, rfl, wa, by omega, by decide, by decide +kernel, fun r1 H1 r10 r11 d1 e1 w1 => ⟨_, rfl, _, _, rfl, rfl, ⟨by decide, by decide, by decide⟩, a, _, _, rfl, w1, by omega, by decide, by decide +kernel, fun r2 H2 r20 r21 d2 e2 w2 => ⟨(by show 2 ≤ sizeLine; decide), fun l1 hl1 => ?_⟩⟩⟩
      generalize hGa : upd _ l1 _ = Ga
      obtain ⟨sa, h_l1⟩ := upd_gen hGa hl1
      have nl1 : l1 ≠ a := w2.ne hl1
      refine ⟨_, rfl, a, _, 2, rfl, (w2.same sa), by omega, by decide, by decide +kernel, fun r3 H3 r30 r31 d3 e3 w3 => ?_⟩
      obtain ⟨v, hv, v0, v1⟩ := pick_t r30 r31 (M := 1073741824) (x := r1) (y := r2) (by omega) ⟨r20, r21⟩
      refine ⟨l1, _, _, _, rfl, rfl, SqL.of (d3 _ _ nl1 h_l1), hv, ?_⟩
      have htl3 := d3 _ _ nta (sa _ _ (d2 _ _ nta (d1 _ _ nta htl)))
      have D3 : SameBut a G' H3 := ((d1.trans d2).trans (.of sa)).trans d3
      refine ⟨_, rfl, .inl ⟨rfl, _, SqL.of htl3⟩, _, rfl, _, rfl, _, rfl, a, _, 2, rfl, w3, by omega, by decide, by decide +kernel, fun r4 H4 r40 r41 d4 e4 w4 => ⟨_, _, rfl, rfl, .inl ⟨by decide, by omega⟩, _, _, rfl, rfl, (by show 3 ≤ sizeLine; decide), fun l2 hl2 => ?_⟩⟩
      generalize hGb : upd _ l2 _ = Gb
      obtain ⟨sb, h_l2⟩ := upd_gen hGb hl2
      obtain ⟨u, hu, hu1⟩ := pick_s r130 r131 r40 r41
      refine ⟨_, rfl, l2, _, _, _, rfl, rfl, SqL.of h_l2, hu, _, _, rfl, rfl, .inl ⟨by omega, by omega⟩, ?_⟩
      have D4 : SameBut a G' Gb := (D3.trans d4).trans (.of sb)
      have htl4 := sb _ _ (d4 _ _ nta htl3)
      refine ⟨tl, _, _, rfl, rfl, htl4, sl_lt (by rw [List.length_map]; omega), some (.int (0 + (i : Int))), some (.int v), ts ++ [v * u], rfl, fun c o e => ?_, ?_, ?_, by rw [List.length_append, lt]; rfl, fun t ht => ?_⟩
      · rw [upd_ne (ne_of_none (S3 _ _ e) htl0)]
        exact same_but S D4 ha0 _ _ e
      · exact ((w4.same sb).mono (by omega)).but SameBut.upd nta.symm
      · rw [upd_same, List.map_append]
        rfl
      · rcases List.mem_append.mp ht with ht | ht
        · exact hts t ht
        · rw [List.mem_singleton.mp ht, Int.natAbs_mul]
          rcases hu1 with rfl | rfl
          · show v.natAbs * 1 ≤ _
            omega
          · show v.natAbs * 1 ≤ _
            omega
    obtain ⟨y6, y7, ts, rfl, S, _, htl, lt, hts⟩ := hP
    clear htl0 S3 s0 h_tl w3
    have b64 : b ≤ 64 := by omega
    refine ⟨_, rfl, fun fp dx hx0 hdx ne => ?_⟩
    have sM := make_same (C := C) hx0 hdx ne
    refine ⟨fp, dx, some b, 0, .half, true, rfl, wok_of b0 b64, by decide, by decide, upd_same, fun G6 hF fr1 fr2 => ⟨rfl, ?_⟩⟩
    have S6 : Same G G6 := fun y o e => fr1 y o (ne_of_none e hx0) (sM _ _ e)
    replace htl := S6 _ _ htl
    replace S := S.trans S6
    clear S6 sM hx0 hdx ne fr1 fr2
    have hsm : Small ts := ⟨by omega, fun t ht => Nat.lt_of_le_of_lt (hts t ht) (by decide)⟩
    have l1 : 1 ≤ ts.length := by omega
    refine ⟨fun σ G => ∃ v : V, σ = [some (.ref as), some (.ref a), some (.int (m : Nat)), some (.int b), some (.int r13), some (.ref tl), y6, y7, some (.ref fp), some (.int (gW b ts)), some v, none, none, none, none, none, none] ∧ Same G6 G ∧ ((gW b ts = 2 ∧ v = .non) ∨ (gW b ts ≠ 2 ∧ ∃ Rb, v = .ref Rb ∧ G Rb = some (.lst ((rowB b ts).reverse.map V.int)))), ?_, fun σ G7 hM => ?_⟩
    · refine ⟨_, rfl, tl, _, rfl, .inl (SqL.of htl), fun Hd hHd => ?_⟩
      have sHd := same_new (o := .lst (ts.map V.int)) hHd
      refine ⟨_, rfl, Hd, fp, ts, b, 0, .half, true, rfl, upd_same, hsm, l1, FormAt.same hF sHd, fun e2 t G nt s ht => ?_, fun e2 t bR G nt nb nbt s ht hb => ?_⟩
      · refine ⟨t, _, rfl, SqT.of ht, rfl, _, _, rfl, _, _, rfl, rfl, ?_⟩
        exact ⟨_, rfl, sHd.trans s, .inl ⟨e2, rfl⟩⟩
      · refine ⟨t, _, rfl, SqT.of ht, rfl, _, _, rfl, _, _, rfl, rfl, ?_⟩
        exact ⟨_, rfl, sHd.trans s, .inr ⟨e2, bR, rfl, hb⟩⟩
    obtain ⟨v, rfl, s7, hv⟩ := hM
    obtain ⟨g2, g64, gIn, gNot⟩ := gw83 b0 b1 (by omega) hts
    obtain ⟨W, hW⟩ : ∃ W : Int, gW b ts = W := ⟨_, rfl⟩
    rw [hW] at g2 g64 gIn gNot hv
    rw [hW]
    have lrow := rowB_len b ts
    have rin := rowB_in b0 ts
    obtain ⟨row, hrow⟩ : ∃ row, (rowB b ts).reverse = row := ⟨_, rfl⟩
    rw [hrow] at hv
    replace gNot : W ≠ 2 → inR (some (W - 1)) (dotI ts row.reverse) = false := by
      rw [← hrow, List.reverse_reverse]
      exact gNot
    have lrow2 : row.length = ts.length := by rw [← hrow, List.length_reverse, lrow]
    have rin2 : ∀ y ∈ row, inR (some b) y = true := fun y hy => by
      rw [← hrow] at hy
      exact rin y (List.mem_reverse.mp hy)
    replace htl := s7 _ _ htl
    replace hF := FormAt.same hF s7
    replace S := S.trans s7
    clear lrow rin hrow hW s7 hsm hlen
    have hts63 : ∀ t ∈ ts, t.natAbs < 9223372036854775808 := fun t ht => Nat.lt_of_le_of_lt (hts t ht) (by decide)
    refine ⟨_, rfl, _, _, rfl, rfl, _, rfl, iteC (d := true) (decide_eq_true g2) (iteT ?_)⟩
    refine ⟨_, _, rfl, rfl, _, rfl, iteC (d := false) (by rw [decide_eq_true g64]; rfl) (iteF ?_)⟩
    refine ⟨_, rfl, _, rfl, _, rfl, tl, fp, ts, W, b, rfl, htl, l1, by omega, hts63, g2, g64, b0, b64, hF, fun p1 G8 s8 hn => fun mm dm hm0 hdm nem => ?_⟩
    have sQ := make_same (C := CM) hm0 hdm nem
    refine ⟨mm, dm, p1, sN b W ts, .non, starts (sN b W ts), G8, G8, rfl, upd_same, hm0, Same.refl _, sQ, hn, .inl ⟨rfl, rfl⟩, fun pl G9 M1 pl0 s9 => ⟨rfl, ?_⟩⟩
    clear sQ hm0 hdm nem
    have ok := s_ok (b := b) (W := W) l1 (by omega) b0 b64 g2 g64 hts63
    refine ⟨(by show 1 ≤ sizeLine; decide), fun q0 hq0 => ?_⟩
    generalize hGG10 : upd _ q0 _ = G10
    obtain ⟨s10, h_q0⟩ := upd_gen hGG10 hq0
    refine ⟨_, rfl, q0, (m : Int), [.int 0], rfl, rfl, h_q0, by omega, by omega, sl_le (by show 1 * _ ≤ _; omega), fun wl hwl => ?_⟩
    generalize hGG11 : upd _ wl _ = G11
    obtain ⟨s11, h_wl⟩ := upd_gen hGG11 hwl
    rw [rep_flat] at h_wl
    have nwl : wl ≠ pl := by
      obtain ⟨xs, e⟩ := ((M1 fun _ => True).same s10).lst
      exact (ne_of_none e hwl).symm
    have S8 : Same G7 G8 := s8
    have W0 := (WinAt.start (M1 _)).same (s10.trans s11)
    refine ⟨_, rfl, _, rfl, _, rfl, as, _, rfl, Same.sqL (S.trans (S8.trans (s9.trans (s10.trans s11)))) hS, fun cs hcs => ?_⟩
    generalize hGG12 : upd _ cs _ = G12
    obtain ⟨s12, h_cs⟩ := upd_gen hGG12 hcs
    have ncs : cs ≠ pl := by
      obtain ⟨xs, e⟩ := ((M1 fun _ => True).same (s10.trans s11)).lst
      exact (ne_of_none e hcs).symm
    obtain ⟨cl60, clI⟩ := cut_cells3 (ns := ns)
    replace h_wl := s12 _ _ h_wl
    have em2 : m = ts.length := lt.symm
    subst em2
    refine ⟨cs, rfl, ⟨_, SqL.of h_cs⟩, ?_⟩
    refine for_it (walk_list (K := K) (a := cs) (xs := cutV (ns.map V.int) (some 1) (some 61))) (fun i σ G => ∃ (y13 y14 y15 : Option V) (wl : Addr) (ws : List Int) (hist : List Trn), σ = [some (.ref as), some (.ref a), some (.int (ts.length : Nat)), some (.int b), some (.int r13), some (.ref tl), y6, y7, some (.ref fp), some (.int W), some v, some (.ref mm), some (.ref wl), y13, y14, y15, none] ∧ WinAt C CN CM G8 G mm pl b W ts ws hist ∧ G wl = some (.lst (ws.map V.int)) ∧ wl ≠ pl ∧ hist.length = i ∧ Quiet (sN b W ts) hist ∧ G cs = some (.lst (cutV (ns.map V.int) (some 1) (some 61)))) ⟨none, none, none, wl, _, [], rfl, W0.same s12, h_wl, nwl, rfl, Quiet.nil, h_cs⟩ (fun i σ G _ hP => ?_) (fun i v2 σ G G' hi hP hY => ?_) (fun σ G hP => ?_)
    · obtain ⟨y13, y14, y15, wl, ws, hist, rfl, _, _, _, _, _, hc⟩ := hP
      exact SqL.of hc
    · obtain ⟨y13, y14, y15, wl, ws, hist, rfl, wa, hwl, nwl, lh, qu, hc⟩ := hP
      obtain ⟨rfl, e1⟩ := hY
      obtain ⟨c, rfl⟩ := clI v2 (List.mem_of_getElem? e1)
      clear W0 s12 h_wl h_cs hcs s10 s11 hq0 h_q0
      have hF2 := FormAt.same hF (S8.trans wa.a.bs)
      refine ⟨_, rfl, c, rfl, fun w4 hw4 H15 s15 k15 => ?_⟩
      have hF3 := FormAt.same hF2 s15
      obtain ⟨⟨dx, ho⟩, _, _, _⟩ := id hF3
      refine ⟨_, rfl, fp, dx, _, rfl, ho, fl_no (by decide +kernel), fp, some b, 0, .half, true, rfl, hF3, _, rfl, fp, dx, _, rfl, ho, fl_no (by decide +kernel), fp, some b, 0, .half, true, rfl, hF3, ?_⟩
      refine ⟨w4, 0, lst b, grt b, rfl, k15, by decide, by decide, lst_grt b0, ?_, fun x H16 x0 x1 sb16 => ?_⟩
      · have t := two_le (k := 16) b1
        have t0 := two_pos (b - 1)
        unfold lst grt
        refine Nat.lt_of_le_of_lt (m := 200000) (by omega) (by decide)
      have xin : inR (some b) x = true := in_iff.mpr ⟨x0, x1⟩
      have s16 : Same G' H16 := same_but s15 sb16 hw4
      replace hc := s16 _ _ hc
      replace hwl := s16 _ _ hwl
      replace wa := wa.same s16
      clear s15 sb16 k15 s16 hF3 hF2 ho hw4
      have lw := wa.ls
      refine ⟨_, rfl, (by show 1 ≤ sizeLine; decide), fun l1' hl1' => ?_⟩
      generalize hGGa : upd _ l1' _ = Ga
      obtain ⟨sa, h_l1'⟩ := upd_gen hGGa hl1'
      refine ⟨_, rfl, _, rfl, _, _, rfl, rfl, _, rfl, wl, _, rfl, SqL.of (sa _ _ hwl), fun c1 hc1 => ?_⟩
      generalize hGGb : upd _ c1 _ = Gb
      obtain ⟨sb, h_c1⟩ := upd_gen hGGb hc1
      have ek : ((ts.length : Nat) : Int) - 1 = ((ts.length - 1 : Nat) : Int) := by omega
      rw [ek, cut_to2, ← List.map_take] at h_c1
      have lt1 : (ws.take (ts.length - 1)).length ≤ 7 := by
        rw [List.length_take]
        omega
      refine ⟨l1', c1, _, _, rfl, rfl, sb _ _ h_l1', h_c1, sl_le (by rw [List.length_map]; show 1 + _ ≤ _; omega), fun wl2 hwl2 => ?_⟩
      generalize hGGc : upd _ wl2 _ = Gc
      obtain ⟨sc, h_wl2⟩ := upd_gen hGGc hwl2
      replace h_wl2 : Gc wl2 = some (.lst ((x :: ws.take (ts.length - 1)).map V.int)) := h_wl2
      have nwl2 : wl2 ≠ pl := by
        obtain ⟨xs, e⟩ := (wa.a.same (sa.trans sb)).lst
        exact (ne_of_none e hwl2).symm
      have Sc := (sa.trans sb).trans sc
      replace hc := Sc _ _ hc
      replace wa := wa.same Sc
      clear Sc sa sb sc h_l1' h_c1 hl1' hc1 hwl2 hwl nwl
      have lws : (x :: ws.take (ts.length - 1)).length = ts.length := by rw [List.length_cons]; exact wa.us l1
      have htl2 := wa.a.bs _ _ (S8 _ _ htl)
      have h_wl3 := h_wl2
      obtain ⟨ws2, ew⟩ : ∃ ws2, x :: ws.take (ts.length - 1) = ws2 := ⟨_, rfl⟩
      rw [ew] at h_wl3 lws
      refine ⟨_, rfl, _, rfl, tl, wl2, _, _, rfl, .inl ⟨SqL.of htl2, SqL.of h_wl3, fun D hD => ?_⟩⟩
      refine lc_it (walk_zip (K := K) (a := tl) (b := wl2) (xs := ts.map V.int) (ys := ws2.map V.int) rfl) (fun i H2 => Same Gc H2 ∧ H2 D = some (.lst ((prodI (ts.take i) (ws2.take i)).map V.int))) ⟨same_new hD, upd_same⟩ (fun i H2 _ hP => ⟨SqL.of (hP.1 _ _ htl2), SqL.of (hP.1 _ _ h_wl3)⟩) (fun i2 v3 H2 H3 hi2 hP hY => ?_) (fun H2 hP => ?_)
      · obtain ⟨s1, hacc⟩ := hP
        obtain ⟨Tp, u, v, rfl, nT, rfl, e1, e2⟩ := hY
        replace e1 : (ts.map V.int)[i2]? = some u := e1
        replace e2 : (ws2.map V.int)[i2]? = some v := e2
        rw [List.getElem?_map] at e1 e2
        obtain ⟨n1, g1, rfl⟩ := Option.map_eq_some_iff.mp e1
        obtain ⟨n2, g2', rfl⟩ := Option.map_eq_some_iff.mp e2
        have hn := hts63 n1 (List.mem_of_getElem? g1)
        have li := (List.getElem?_eq_some_iff.mp g1).1
        have sN := same_new (o := .tup [.int n1, .int n2]) nT
        have tl' : (ts.take i2).length = (ws2.take i2).length := by rw [List.length_take, List.length_take, lws]
        refine ⟨Tp, [.int n1, .int n2], rfl, SqT.of upd_same, rfl, _, _, rfl, _, _, rfl, rfl, rfl, ?_⟩
        refine ⟨_, rfl, _, rfl, _, _, rfl, rfl, .inl ⟨by omega, by omega⟩, _, sN _ _ hacc, ?_, fun b o e => ?_, ?_⟩
        · rw [List.length_map, prodI_len _ _ tl', List.length_take]
          exact sl_lt (by omega)
        · rw [upd_ne (ne_of_none e hD)]
          exact sN _ _ (s1 _ _ e)
        · rw [upd_same, List.take_succ, List.take_succ, g1, g2', Option.toList_some, Option.toList_some, prodI_snoc _ _ _ _ tl', List.map_append]
          rfl
      obtain ⟨s1, hacc⟩ := hP
      rw [List.length_map, List.length_map, lws, Nat.min_self, List.take_length, ← lws, List.take_length] at hacc
      refine ⟨D, _, rfl, SqL.of hacc, ?_⟩
      rw [prodI_sum, ← ew]
      clear hacc htl2 h_wl3 ew lws
      replace hc := s1 _ _ hc
      replace h_wl2 := s1 _ _ h_wl2
      replace wa := wa.same s1
      have hd := gIn (x :: ws.take (ts.length - 1)) (wa.us l1).symm (wa.hin xin)
      have ov := s_no l1 (wa.us l1) b W x (fun y hy => wa.hin xin y (List.mem_of_mem_take hy)) hd
      have ou := s_out l1 (wa.us l1) b W x
      rw [word_id hd] at ou
      obtain ⟨dx1, fs1, np1, pv1, b1'⟩ := id wa.a
      refine ⟨_, rfl, mm, dx1, _, rfl, b1'.ob, ml_no (by decide +kernel), _, rfl, _, _, mm, pl, sN b W ts, starts (sN b W ts), hist, x, rfl, wa.a, rfl, (fun y hy => by rw [hy]; exact wa.a.lst), xin, wa.sl, wa.num ok b1 xin, by omega, fun G2 s2 M2 => ?_⟩
      have wa2 := wa.step l1 xin M2
      replace hc := s2 _ _ ncs hc
      replace h_wl2 := s2 _ _ nwl2 h_wl2
      have eo : ((sN b W ts).nums x (stOf (starts (sN b W ts)) hist)).getD (sN b W ts).out 0 = dotI ts (x :: ws.take (ts.length - 1)) := by
        rw [wa.st]
        exact ou
      rw [eo]
      refine ⟨_, rfl, rfl, _, rfl, iteC (d := false) (by rw [decide_eq_true rfl]; rfl) (iteF ?_)⟩
      clear b1' M2 s2
      obtain ⟨dx1, fs1, np1, pv1, b1'⟩ := id wa2.a
      refine ⟨_, rfl, mm, dx1, _, rfl, b1'.ob, ml_no (by decide +kernel), _, _, mm, pl, sN b W ts, starts (sN b W ts), _, rfl, wa2.a, fun v2 H4 hv20 s4 h_v2 => ⟨(by show 0 ≤ sizeLine; decide), fun e0 he0 => ?_⟩⟩
      rw [lastO_snoc, show (trn (sN b W ts) x (ws.take (ts.length - 1))).nums = (sN b W ts).nums x (ws.take (ts.length - 1)) from rfl, ov] at h_v2
      generalize hGGd : upd _ e0 _ = Gd
      obtain ⟨sd, h_e0⟩ := upd_gen hGGd he0
      refine ⟨.list (([] : List Int).map PyData.int), .list (([] : List Int).map PyData.int), .lst (SqL.of (sd _ _ h_v2)) (dp_ints []), .lst (SqL.of h_e0) (dp_ints []), ints_shaped [], ints_shaped [], ?_⟩
      rw [eqv_of (ints_shaped [])]
      have Sd := s4.trans sd
      refine ⟨_, rfl, iteF ⟨_, _, _, wl2, _, _, rfl, wa2.same Sd, Sd _ _ h_wl2, nwl2, by rw [List.length_append, lh]; rfl, qu.snoc ov, Sd _ _ hc⟩⟩
    obtain ⟨y13, y14, y15, wl, ws, hist, rfl, wa, _, _, lh, qu, _⟩ := hP
    clear W0 s12 h_wl h_cs hcs s10 s11 hq0 h_q0 clI
    replace S := S.trans S8
    have hist60 : hist.length ≤ 60 := by omega
    have S9 := wa.a.bs
    rcases hv with ⟨e2, rfl⟩ | ⟨e2, Rb, rfl, hRb⟩
    · refine ⟨_, rfl, rfl, _, rfl, iteT ?_⟩
      refine ⟨_, rfl, rfl, _, rfl, iteC (d := true) (decide_eq_true (congrArg V.int e2)) (iteT ?_)⟩
      obtain ⟨dx1, fs1, np1, pv1, b1'⟩ := id wa.a
      refine ⟨_, rfl, mm, dx1, _, rfl, b1'.ob, ml_no (by decide +kernel), _, _, mm, pl, sN b W ts, starts (sN b W ts), hist, rfl, wa.a, by omega, fun l G2 hl0 s2 h_l => ⟨(by show 0 ≤ sizeLine; decide), fun e0 he0 => ?_⟩⟩
      rw [went_nil qu] at h_l
      obtain ⟨lv, h_lv, tw⟩ := h_l
      cases tw
      generalize hGGd : upd _ e0 _ = Gd
      obtain ⟨sd, h_e0⟩ := upd_gen hGGd he0
      refine ⟨.list (([] : List Int).map PyData.int), .list (([] : List Int).map PyData.int), .lst (SqL.of (sd _ _ h_lv)) (dp_ints []), .lst (SqL.of h_e0) (dp_ints []), ints_shaped [], ints_shaped [], ?_⟩
      rw [eqv_of (ints_shaped [])]
      exact q _
    refine ⟨_, rfl, rfl, _, rfl, iteF ?_⟩
    replace htl := S9 _ _ (S8 _ _ htl)
    replace hF := FormAt.same hF (S8.trans S9)
    replace hRb := S9 _ _ (S8 _ _ hRb)
    clear wa qu lh hist60 S9 S8 M1 pl0 s9 hn S hS cl60 nwl ncs s8
    refine ⟨_, rfl, _, rfl, _, rfl, tl, fp, ts, W, b, rfl, htl, l1, by omega, hts63, g2, g64, b0, b64, hF, fun p1r K1 s1r hn => fun m1 dm hm0 hdm nem => ?_⟩
    have sQ := make_same (C := CM) hm0 hdm nem
    refine ⟨m1, dm, p1r, (sN b W ts), .non, starts (sN b W ts), K1, K1, rfl, upd_same, hm0, Same.refl _, sQ, hn, .inl ⟨rfl, rfl⟩, fun pl1 J1 M1 pl0 s9 => ⟨rfl, ?_⟩⟩
    clear sQ hm0 hdm nem
    have ok1 := s_ok (b := b) (W := W) l1 (by omega) b0 b64 g2 g64 hts63
    have W0 := WinAt.start (M1 _)
    rw [← winR_zero ts.length row] at W0
    replace hRb := s1r _ _ hRb
    have nRb : Rb ≠ pl1 := ne_of_none hRb pl0
    refine ⟨_, rfl, Rb, rfl, ⟨_, SqL.of (s9 _ _ hRb)⟩, ?_⟩
    refine for_it (walk_list (K := K) (a := Rb) (xs := row.map V.int)) (fun i σ G => ∃ (y14 : Option V) (hist : List Trn), σ = [some (.ref as), some (.ref a), some (.int (ts.length : Nat)), some (.int b), some (.int r13), some (.ref tl), y6, y7, some (.ref fp), some (.int W), some (.ref Rb), some (.ref m1), some (.ref wl), y13, y14, y15, none] ∧ WinAt C CN CM K1 G m1 pl1 b W ts (winR ts.length row i) hist ∧ hist.length = i ∧ Quiet (sN b W ts) hist ∧ G Rb = some (.lst (row.map V.int))) ⟨y14, [], rfl, W0, rfl, Quiet.nil, s9 _ _ hRb⟩ (fun i σ G _ hP => ?_) (fun i v2 σ G G' hi hP hY => ?_) (fun σ G hP => ?_)
    · obtain ⟨y14, hist, rfl, _, _, _, hr⟩ := hP
      exact SqL.of hr
    · obtain ⟨y14, hist, rfl, wa, lh, qu, hr⟩ := hP
      obtain ⟨rfl, hY⟩ := hY
      rw [List.getElem?_map] at hY
      obtain ⟨x, ex, rfl⟩ := Option.map_eq_some_iff.mp hY
      have il := (List.getElem?_eq_some_iff.mp ex).1
      have xin := rin2 x (List.mem_of_getElem? ex)
      have ov := s_no l1 (wa.us l1) b W x (fun y hy => wa.hin xin y (List.mem_of_mem_take hy)) (gIn (x :: (winR ts.length row i).take (ts.length - 1)) (wa.us l1).symm (wa.hin xin))
      obtain ⟨dx1, fs1, np1, pv1, b1'⟩ := id wa.a
      refine ⟨_, rfl, m1, dx1, _, rfl, b1'.ob, ml_no (by decide +kernel), _, rfl, _, _, m1, pl1, (sN b W ts), starts (sN b W ts), hist, x, rfl, wa.a, rfl, (fun y hy => by rw [hy]; exact wa.a.lst), xin, wa.sl, wa.num ok1 b1 xin, by omega, fun G2 s2 M2 => ?_⟩
      exact ⟨some (.int x), hist ++ [trn (sN b W ts) x ((winR ts.length row i).take (ts.length - 1))], rfl, by rw [winR_next ex l1]; exact wa.step l1 xin M2, by rw [List.length_append, lh, List.length_singleton], qu.snoc ov, s2 _ _ nRb hr⟩
    obtain ⟨y14, hist, rfl, wa, lh, qu, hr⟩ := hP
    rw [List.length_map, lrow2] at wa lh
    clear W0 nRb s9 pl0 M1 hn
    replace htl := wa.a.bs _ _ (s1r _ _ htl)
    replace hF := FormAt.same hF (s1r.trans wa.a.bs)
    obtain ⟨dx1, fs1, np1, pv1, b1'⟩ := id wa.a
    refine ⟨_, rfl, m1, dx1, _, rfl, b1'.ob, ml_no (by decide +kernel), _, _, m1, pl1, sN b W ts, starts (sN b W ts), hist, rfl, wa.a, by omega, fun l G2 hl0 s2 h_l => ⟨(by show 0 ≤ sizeLine; decide), fun e0 he0 => ?_⟩⟩
    rw [went_nil qu] at h_l
    obtain ⟨lv, h_lv, tw⟩ := h_l
    cases tw
    generalize hGGd : upd _ e0 _ = Gd
    obtain ⟨sd, h_e0⟩ := upd_gen hGGd he0
    refine ⟨.list (([] : List Int).map PyData.int), .list (([] : List Int).map PyData.int), .lst (SqL.of (sd _ _ h_lv)) (dp_ints []), .lst (SqL.of h_e0) (dp_ints []), ints_shaped [], ints_shaped [], ?_⟩
    rw [eqv_of (ints_shaped [])]
    refine ⟨_, rfl, iteF ?_⟩
    replace htl := sd _ _ (s2 _ _ htl)
    replace hF := FormAt.same hF (s2.trans sd)
    replace hRb := sd _ _ (s2 _ _ hr)
    clear b1' wa qu lh hr s2 sd h_lv h_e0 he0 hl0 s1r ok1 ok
    refine ⟨_, rfl, rfl, _, rfl, iteC (d := false) (decide_eq_false (fun e => e2 (V.int.inj e))) (iteF ?_)⟩
    have mx : (if W - 1 > 2 then W - 1 else 2) = W - 1 := by split <;> omega
    have v0 : 2 ≤ W - 1 := by omega
    have v1 : W - 1 ≤ 64 := by omega
    refine ⟨_, rfl, _, rfl, _, _, rfl, rfl, _, _, rfl, _, rfl, tl, fp, ts, (W - 1), b, by rw [mx]; rfl, htl, l1, by omega, hts63, v0, v1, b0, b64, hF, fun p2r K2 s2r hn => fun m2 dm hm0 hdm nem => ?_⟩
    have sQ := make_same (C := CM) hm0 hdm nem
    refine ⟨m2, dm, p2r, (sN b (W - 1) ts), .non, starts (sN b (W - 1) ts), K2, K2, rfl, upd_same, hm0, Same.refl _, sQ, hn, .inl ⟨rfl, rfl⟩, fun pl2 J2 M1 pl0 s9 => ⟨rfl, ?_⟩⟩
    clear sQ hm0 hdm nem
    have ok2 := s_ok (b := b) (W := (W - 1)) l1 (by omega) b0 b64 v0 v1 hts63
    have W0 := WinAt.start (M1 _)
    rw [← winR_zero ts.length row] at W0
    replace hRb := s2r _ _ hRb
    have nRb : Rb ≠ pl2 := ne_of_none hRb pl0
    refine ⟨_, rfl, Rb, rfl, ⟨_, SqL.of (s9 _ _ hRb)⟩, ?_⟩
    refine for_it (walk_list (K := K) (a := Rb) (xs := row.map V.int)) (fun i σ G => ∃ (y14 : Option V) (hist : List Trn), σ = [some (.ref as), some (.ref a), some (.int (ts.length : Nat)), some (.int b), some (.int r13), some (.ref tl), y6, y7, some (.ref fp), some (.int W), some (.ref Rb), some (.ref m2), some (.ref wl), y13, y14, y15, none] ∧ WinAt C CN CM K2 G m2 pl2 b (W - 1) ts (winR ts.length row i) hist ∧ hist.length = i ∧ (∀ x us, winR ts.length row i = x :: us → 0 < i → lastO (sN b (W - 1) ts) hist = oversOf (sN b (W - 1) ts) ((sN b (W - 1) ts).nums x us)) ∧ G Rb = some (.lst (row.map V.int))) ⟨y14, [], rfl, W0, rfl, (fun x us _ h => absurd h (by decide)), s9 _ _ hRb⟩ (fun i σ G _ hP => ?_) (fun i v2 σ G G' hi hP hY => ?_) (fun σ G hP => ?_)
    · obtain ⟨y14, hist, rfl, _, _, _, hr⟩ := hP
      exact SqL.of hr
    · obtain ⟨y14, hist, rfl, wa, lh, qu, hr⟩ := hP
      obtain ⟨rfl, hY⟩ := hY
      rw [List.getElem?_map] at hY
      obtain ⟨x, ex, rfl⟩ := Option.map_eq_some_iff.mp hY
      have il := (List.getElem?_eq_some_iff.mp ex).1
      have xin := rin2 x (List.mem_of_getElem? ex)
      have qn : ∀ x' us', winR ts.length row (i + 1) = x' :: us' → 0 < i + 1 → lastO (sN b (W - 1) ts) (hist ++ [trn (sN b (W - 1) ts) x ((winR ts.length row i).take (ts.length - 1))]) = oversOf (sN b (W - 1) ts) ((sN b (W - 1) ts).nums x' us') := fun x' us' e _ => by
        rw [winR_next ex l1] at e
        cases e
        rw [lastO_snoc]
        rfl
      obtain ⟨dx1, fs1, np1, pv1, b1'⟩ := id wa.a
      refine ⟨_, rfl, m2, dx1, _, rfl, b1'.ob, ml_no (by decide +kernel), _, rfl, _, _, m2, pl2, (sN b (W - 1) ts), starts (sN b (W - 1) ts), hist, x, rfl, wa.a, rfl, (fun y hy => by rw [hy]; exact wa.a.lst), xin, wa.sl, wa.num ok2 b1 xin, by omega, fun G2 s2 M2 => ?_⟩
      exact ⟨some (.int x), hist ++ [trn (sN b (W - 1) ts) x ((winR ts.length row i).take (ts.length - 1))], rfl, by rw [winR_next ex l1]; exact wa.step l1 xin M2, by rw [List.length_append, lh, List.length_singleton], qn, s2 _ _ nRb hr⟩
    obtain ⟨y14, hist, rfl, wa, lh, qu, hr⟩ := hP
    rw [List.length_map, lrow2] at wa lh qu
    clear W0 nRb s9 pl0 M1 hn
    obtain ⟨x, us, exu⟩ : ∃ x us, row.reverse = x :: us := by
      cases e : row.reverse with
      | nil =>
        have := congrArg List.length e
        rw [List.length_reverse, lrow2] at this
        rw [this] at l1
        cases l1
      | cons x us => exact ⟨x, us, rfl⟩
    have hu : us.length + 1 = ts.length := by
      have := congrArg List.length exu
      rw [List.length_reverse, lrow2, List.length_cons] at this
      exact this.symm
    have lo := qu x us ((winR_all lrow2).trans exu) (by omega)
    have ne := s_yes l1 hu b (W - 1) x (wok_of v0 v1) (by rw [← exu]; exact gNot e2)
    obtain ⟨o, os, eo⟩ : ∃ o os, oversOf (sN b (W - 1) ts) ((sN b (W - 1) ts).nums x us) = o :: os := by
      cases e : oversOf (sN b (W - 1) ts) ((sN b (W - 1) ts).nums x us) with
      | nil => exact absurd e ne
      | cons o os => exact ⟨o, os, rfl⟩
    obtain ⟨dx1, fs1, np1, pv1, b1'⟩ := id wa.a
    refine ⟨_, rfl, m2, dx1, _, rfl, b1'.ob, ml_no (by decide +kernel), _, _, m2, pl2, sN b (W - 1) ts, starts (sN b (W - 1) ts), _, rfl, wa.a, fun v2 H4 hv20 s4 h_v2 => ⟨(by show 0 ≤ sizeLine; decide), fun e0 he0 => ?_⟩⟩
    rw [lo, eo] at h_v2
    replace h_v2 : H4 v2 = some (.lst (((o : Int) :: os.map fun k : Nat => (k : Int)).map V.int)) := by
      rw [h_v2, List.map_cons, List.map_cons, List.map_map]
      rfl
    generalize hGGd : upd _ e0 _ = Gd
    obtain ⟨sd, h_e0⟩ := upd_gen hGGd he0
    refine ⟨.list (((o : Int) :: os.map fun k : Nat => (k : Int)).map PyData.int), .list (([] : List Int).map PyData.int), .lst (SqL.of (sd _ _ h_v2)) (dp_ints _), .lst (SqL.of h_e0) (dp_ints []), ints_shaped _, ints_shaped [], ?_⟩
    rw [eqv_non]
    refine ⟨_, rfl, iteT ?_⟩
    have wa4 := wa.a.same (s4.trans sd)
    obtain ⟨dx2, fs2, np2, pv2, b2'⟩ := id wa4
    refine ⟨_, rfl, m2, dx2, _, rfl, b2'.ob, ml_no (by decide +kernel), _, _, m2, pl2, sN b (W - 1) ts, starts (sN b (W - 1) ts), hist, rfl, wa4, _, rfl, rfl, ?_⟩
    rw [lh, decide_eq_true rfl]
    exact q _

end
end E1

namespace E1
open PySem PySem.Spec PyProof.Rows L2

theorem Vals.rev : ∀ {xs : List V} {us : List Value}, Vals xs us → Vals xs.reverse us.reverse
  | _, _, .nil => .nil
  | _, _, .cons r t => by
    rw [List.reverse_cons, List.reverse_cons]
    exact Vals.append (Vals.rev t) (.cons r .nil)
section
variable {P : Program} {w : World} {K : PySem.W.Frag} {mg : Str → Option Value} {base : Heap} {x : Str} {st : Stmt} {f : Addr} {fd : FuncData} {ps ks : List Str} {k n : Nat} {sp : Sp}
/-- a def without defaults: its arguments by keywords alone or behind others -/
theorem Fun.kbn {qual : Str} (F : Fun K x qual st f fd) {g : List Value → List Value → List Value} {gV : List V → List V → List V} (hrel : ∀ {vs : List V} {us : List Value} {zs : List V} {ws : List Value}, Vals vs us → Vals zs ws → Vals (gV vs zs) (g us ws))
    (h : ∀ (kV doc pm : Value) (an : Option Addr) (cdv ct : Value) (us ws : List Value), us.length = n → ws.length = ks.length → bindArgs (PySem.W.fnOf x qual (defArgs st) (defBody st) (defScope st) .none kV doc pm an cdv ct) ⟨us, ks.zip ws⟩ = pure (ps.zip (g us ws))) : KBn K fd ps n ks g gV := by
  rcases F.ex with ⟨_, _, v1, v2, v3, v4, v5, v6, _, same, _, _⟩
  subst same
  exact ⟨fun s us ws _ l1 l2 => .of_eq (h v1 v2 v3 v4 v5 v6 us ws l1 l2), hrel⟩
/-- a def with defaults, all arguments given -/
theorem FunD.kbn {qual : Str} {params : Arguments} {body : List Stmt} {scope : Scope} {dvs : List V} {kws : List (Str × V)} (F : FunD K x qual params body scope dvs kws f fd) (hd : dvs ≠ []) {g : List Value → List Value → List Value} {gV : List V → List V → List V} (hrel : ∀ {vs : List V} {us : List Value} {zs : List V} {ws : List Value}, Vals vs us → Vals zs ws → Vals (gV vs zs) (g us ws))
    (h : ∀ (T : Addr) (kV doc pm : Value) (an : Option Addr) (cdv ct : Value) (us ws its : List Value), us.length = n → ws.length = ks.length → its.length = dvs.length → ∃ k, bindArgs (PySem.W.fnOf x qual params body scope (.ref T) kV doc pm an cdv ct) ⟨us, ks.zip ws⟩ = seqItems? (.ref T) >>= k ∧ k (some its.toArray) = pure (ps.zip (g us ws))) : KBn K fd ps n ks g gV := by
  rcases F.ex with ⟨_, _, _, v1, v2, v3, v4, v5, v6, _, same, _, _, bare | given, _⟩
  · exact absurd bare.1 hd
  · rcases given with ⟨_, T, _, its, _, dv, at_, it, rel⟩
    subst same dv
    refine ⟨fun s us ws inn l1 l2 => BindsTo.of_looks fun M => ?_, hrel⟩
    rcases h T v1 v2 v3 v4 v5 v6 us ws its l1 l2 rel.length.symm with ⟨go, b1, b2⟩
    rw [b1]
    exact looks_items inn at_ it (.of_pure b2)
end

theorem fun_of {K : PySem.W.Frag} {x qual : Str} {st : Stmt} {f : Addr} {fd : FuncData} (F : FunD K x qual (defArgs st) (defBody st) (defScope st) [] [] f fd) : Fun K x qual st f fd := by
  obtain ⟨oc, od, dV, kV, doc, pm, an, cdv, ct, osl, e, lk, hcd, hd, _⟩ := F.ex
  rcases hd with ⟨_, rfl⟩ | ⟨n, _⟩
  · exact ⟨⟨oc, od, kV, doc, pm, an, cdv, ct, osl, e, lk, hcd⟩, F.kp⟩
  · exact absurd rfl n
theorem ex_at {l : List Bool} (h : (l.all id) = true) {i : Nat} {b : Bool} (e : l[i]? = some b) : b = true := List.all_eq_true.mp h b (List.mem_of_getElem? e)
theorem val_int {K : PySem.W.Frag} {a : Addr} {kvs : List (Str × He.Dv)} (h : He.valsB K a kvs = true) {i : Nat} {k : Str} {v : Int} (e : kvs[i]? = some (k, .int v)) : ∃ t, PySem.W.nsIn K a k = some (some (.int v t)) := by
  obtain ⟨u, e1, r⟩ := He.valsB_ok h (List.mem_of_getElem? e)
  obtain ⟨t, rfl⟩ := r
  exact ⟨t, e1⟩
/-- the head's facts, of these addresses -/
abbrev AlY : Type := He.AlT × Bool
def obsY (as : List Addr) (fa : List He.Fa) (fn : List He.DefD) (ts : List He.Tab) (ex : PySem.W.Frag → Bool) (g : Addr → Option Obj) : AlY := (He.obsT fa fn ts (He.frG g as), ex (He.frG g as))
structure SaysY (fa : List He.Fa) (fn : List He.DefD) (ts : List He.Tab) (ex : PySem.W.Frag → Bool) (w : World) (K : PySem.W.Frag) : Prop where
  t : He.SaysT fa fn ts w K
  more : ex K = true
def hookY (as : List Addr) (fa : List He.Fa) (fn : List He.DefD) (ts : List He.Tab) (ex : PySem.W.Frag → Bool) : PySem.W.Hook where
  α := AlY
  obs := fun s => obsY as fa fn ts ex s.heap.get?
  val := fun w => (He.valT fn ts w, true)
  says := fun w h => ∃ K : PySem.W.Frag, K.In h ∧ SaysY fa fn ts ex w K
  of := fun _ _ e => ⟨_, He.frG_in, congrArg (fun z : AlY => z.1) e, congrArg (fun z : AlY => z.2) e⟩
  keeps := fun _ _ _ ⟨K, hK, c⟩ k => ⟨K, PySem.W.Frag.In.keeps hK k, c⟩
theorem obsY_eq {as : List Addr} {fa : List He.Fa} {fn : List He.DefD} {ts : List He.Tab} {ex : PySem.W.Frag → Bool} {g : Addr → Option Obj} {s : Shared} (h : ∀ a, g a = s.heap.get? a) : obsY as fa fn ts ex g = (hookY as fa fn ts ex).obs s := by
  have e : g = s.heap.get? := funext h
  rw [e]
  rfl
def dd_is_whole : He.DefD := ⟨("is_whole", none), "is_whole", "is_whole", defArgs s_is_whole, defBody s_is_whole, defScope s_is_whole, [], []⟩
def dd_downward : He.DefD := ⟨("downward", none), "downward", "downward", defArgs s_downward, defBody s_downward, defScope s_downward, [], []⟩
def dd_upward : He.DefD := ⟨("upward", none), "upward", "upward", defArgs s_upward, defBody s_upward, defScope s_upward, [], []⟩
def dd_inward : He.DefD := ⟨("inward", none), "inward", "inward", defArgs s_inward, defBody s_inward, defScope s_inward, [], []⟩
def dd_outward : He.DefD := ⟨("outward", none), "outward", "outward", defArgs s_outward, defBody s_outward, defScope s_outward, [], []⟩
def dd_nearest_greater : He.DefD := ⟨("nearest_greater", none), "nearest_greater", "nearest_greater", defArgs s_nearest_greater, defBody s_nearest_greater, defScope s_nearest_greater, [], []⟩
def dd_nearest_even : He.DefD := ⟨("nearest_even", none), "nearest_even", "nearest_even", defArgs s_nearest_even, defBody s_nearest_even, defScope s_nearest_even, [], []⟩
def dd_nearest_far : He.DefD := ⟨("nearest_far", none), "nearest_far", "nearest_far", defArgs s_nearest_far, defBody s_nearest_far, defScope s_nearest_far, [], []⟩
def dd_is_manner : He.DefD := ⟨("is_manner", none), "is_manner", "is_manner", defArgs s_is_manner, defBody s_is_manner, defScope s_is_manner, [], []⟩
def dd_rounded : He.DefD := ⟨("rounded", none), "rounded", "rounded", defArgs s_rounded, defBody s_rounded, defScope s_rounded, [.str "half"], []⟩
def dd_is_width : He.DefD := ⟨("is_width", none), "is_width", "is_width", defArgs s_is_width, defBody s_is_width, defScope s_is_width, [], []⟩
def dd_is_point : He.DefD := ⟨("is_point", none), "is_point", "is_point", defArgs s_is_point, defBody s_is_point, defScope s_is_point, [], []⟩
def dd_is_ends : He.DefD := ⟨("is_ends", none), "is_ends", "is_ends", defArgs s_is_ends, defBody s_is_ends, defScope s_is_ends, [], []⟩
def dd_is_place : He.DefD := ⟨("is_place", none), "is_place", "is_place", defArgs s_is_place, defBody s_is_place, defScope s_is_place, [], []⟩
def dd_is_factor : He.DefD := ⟨("is_factor", none), "is_factor", "is_factor", defArgs s_is_factor, defBody s_is_factor, defScope s_is_factor, [], []⟩
def dd_in_point : He.DefD := ⟨("in_point", none), "in_point", "in_point", defArgs s_in_point, defBody s_in_point, defScope s_in_point, [], []⟩
def dd_old_point : He.DefD := ⟨("old_point", none), "old_point", "old_point", defArgs s_old_point, defBody s_old_point, defScope s_old_point, [], []⟩
def dd_times_point : He.DefD := ⟨("times_point", none), "times_point", "times_point", defArgs s_times_point, defBody s_times_point, defScope s_times_point, [], []⟩
def dd_sum_point : He.DefD := ⟨("sum_point", none), "sum_point", "sum_point", defArgs s_sum_point, defBody s_sum_point, defScope s_sum_point, [], []⟩
def dd_move_point : He.DefD := ⟨("move_point", none), "move_point", "move_point", defArgs s_move_point, defBody s_move_point, defScope s_move_point, [], []⟩
def dd_keep_point : He.DefD := ⟨("keep_point", none), "keep_point", "keep_point", defArgs s_keep_point, defBody s_keep_point, defScope s_keep_point, [], []⟩
def dd_is_written_as_row : He.DefD := ⟨("is_written_as_row", none), "is_written_as_row", "is_written_as_row", defArgs s_is_written_as_row, defBody s_is_written_as_row, defScope s_is_written_as_row, [], []⟩
def dd_row_point : He.DefD := ⟨("row_point", none), "row_point", "row_point", defArgs s_row_point, defBody s_row_point, defScope s_row_point, [], []⟩
def dd_check_length : He.DefD := ⟨("check_length", none), "check_length", "check_length", defArgs s_check_length, defBody s_check_length, defScope s_check_length, [], []⟩
def dd_check_forms : He.DefD := ⟨("check_forms", none), "check_forms", "check_forms", defArgs s_check_forms, defBody s_check_forms, defScope s_check_forms, [], []⟩
def dd_is_hold : He.DefD := ⟨("is_hold", none), "is_hold", "is_hold", defArgs s_is_hold, defBody s_is_hold, defScope s_is_hold, [], []⟩
def dd_check_holds : He.DefD := ⟨("check_holds", none), "check_holds", "check_holds", defArgs s_check_holds, defBody s_check_holds, defScope s_check_holds, [], []⟩
def dd_checked_points : He.DefD := ⟨("checked_points", none), "checked_points", "checked_points", defArgs s_checked_points, defBody s_checked_points, defScope s_checked_points, [], []⟩
def dd_check_links : He.DefD := ⟨("check_links", none), "check_links", "check_links", defArgs s_check_links, defBody s_check_links, defScope s_check_links, [], []⟩
def dd_enter_form : He.DefD := ⟨("enter_form", none), "enter_form", "enter_form", defArgs s_enter_form, defBody s_enter_form, defScope s_enter_form, [], []⟩
def dd_swept : He.DefD := ⟨("swept", none), "swept", "swept", defArgs s_swept, defBody s_swept, defScope s_swept, [], []⟩
def dd_is_numbers : He.DefD := ⟨("is_numbers", none), "is_numbers", "is_numbers", defArgs s_is_numbers, defBody s_is_numbers, defScope s_is_numbers, [], []⟩
def dd_dot : He.DefD := ⟨("dot", none), "dot", "dot", defArgs s_dot, defBody s_dot, defScope s_dot, [], []⟩
def dd_check_taps : He.DefD := ⟨("check_taps", none), "check_taps", "check_taps", defArgs s_check_taps, defBody s_check_taps, defScope s_check_taps, [], []⟩
def dd_extremes : He.DefD := ⟨("extremes", none), "extremes", "extremes", defArgs s_extremes, defBody s_extremes, defScope s_extremes, [], []⟩
def dd_width_for : He.DefD := ⟨("width_for", none), "width_for", "width_for", defArgs s_width_for, defBody s_width_for, defScope s_width_for, [], []⟩
def dd_guard : He.DefD := ⟨("guard", none), "guard", "guard", defArgs s_guard, defBody s_guard, defScope s_guard, [], []⟩
def dd_is_state : He.DefD := ⟨("is_state", none), "is_state", "is_state", defArgs s_is_state, defBody s_is_state, defScope s_is_state, [], []⟩
def dd_check_state : He.DefD := ⟨("check_state", none), "check_state", "check_state", defArgs s_check_state, defBody s_check_state, defScope s_check_state, [], []⟩
def dd_check_word : He.DefD := ⟨("check_word", none), "check_word", "check_word", defArgs s_check_word, defBody s_check_word, defScope s_check_word, [], []⟩
def dd_first_state : He.DefD := ⟨("first_state", none), "first_state", "first_state", defArgs s_first_state, defBody s_first_state, defScope s_first_state, [], []⟩
def dd_sum_number : He.DefD := ⟨("sum_number", none), "sum_number", "sum_number", defArgs s_sum_number, defBody s_sum_number, defScope s_sum_number, [], []⟩
def dd_number_of_row : He.DefD := ⟨("number_of_row", none), "number_of_row", "number_of_row", defArgs s_number_of_row, defBody s_number_of_row, defScope s_number_of_row, [], []⟩
def dd_state_behind : He.DefD := ⟨("state_behind", none), "state_behind", "state_behind", defArgs s_state_behind, defBody s_state_behind, defScope s_state_behind, [], []⟩
def dd_turn_of : He.DefD := ⟨("turn_of", none), "turn_of", "turn_of", defArgs s_turn_of, defBody s_turn_of, defScope s_turn_of, [], []⟩
def dd_went_over : He.DefD := ⟨("went_over", none), "went_over", "went_over", defArgs s_went_over, defBody s_went_over, defScope s_went_over, [], []⟩
def dd_overs : He.DefD := ⟨("overs", none), "overs", "overs", defArgs s_overs, defBody s_overs, defScope s_overs, [], []⟩
def dd__law_cell_at : He.DefD := ⟨("_law_cell_at", none), "_law_cell_at", "_law_cell_at", defArgs s__law_cell_at, defBody s__law_cell_at, defScope s__law_cell_at, [], []⟩
def dd__law_well : He.DefD := ⟨("_law_well", none), "_law_well", "_law_well", defArgs s__law_well, defBody s__law_well, defScope s__law_well, [], []⟩
def dd__law_draw : He.DefD := ⟨("_law_draw", none), "_law_draw", "_law_draw", defArgs s__law_draw, defBody s__law_draw, defScope s__law_draw, [], []⟩
def dd__law_net : He.DefD := ⟨("_law_net", none), "_law_net", "_law_net", defArgs s__law_net, defBody s__law_net, defScope s__law_net, [], []⟩
def dd__law_word : He.DefD := ⟨("_law_word", none), "_law_word", "_law_word", defArgs s__law_word, defBody s__law_word, defScope s__law_word, [], []⟩
def dd_law : He.DefD := ⟨("law", none), "law", "law", defArgs s_law, defBody s_law, defScope s_law, [], []⟩
def dd_Form_least : He.DefD := ⟨("Form", some "least"), "least", "Form.least", defArgs s_Form_least, defBody s_Form_least, defScope s_Form_least, [], []⟩
def dd_Form_greatest : He.DefD := ⟨("Form", some "greatest"), "greatest", "Form.greatest", defArgs s_Form_greatest, defBody s_Form_greatest, defScope s_Form_greatest, [], []⟩
def dd_Form_has : He.DefD := ⟨("Form", some "has"), "has", "Form.has", defArgs s_Form_has, defBody s_Form_has, defScope s_Form_has, [], []⟩
def dd_Form_word_for : He.DefD := ⟨("Form", some "word_for"), "word_for", "Form.word_for", defArgs s_Form_word_for, defBody s_Form_word_for, defScope s_Form_word_for, [], []⟩
def dd_Form_ended : He.DefD := ⟨("Form", some "ended"), "ended", "Form.ended", defArgs s_Form_ended, defBody s_Form_ended, defScope s_Form_ended, [], []⟩
def dd_Form_kept_at : He.DefD := ⟨("Form", some "kept_at"), "kept_at", "Form.kept_at", defArgs s_Form_kept_at, defBody s_Form_kept_at, defScope s_Form_kept_at, [], []⟩
def dd_Net_forms : He.DefD := ⟨("Net", some "forms"), "forms", "Net.forms", defArgs s_Net_forms, defBody s_Net_forms, defScope s_Net_forms, [], []⟩
def dd_Net_rows : He.DefD := ⟨("Net", some "rows"), "rows", "Net.rows", defArgs s_Net_rows, defBody s_Net_rows, defScope s_Net_rows, [], []⟩
def dd_Net_holds : He.DefD := ⟨("Net", some "holds"), "holds", "Net.holds", defArgs s_Net_holds, defBody s_Net_holds, defScope s_Net_holds, [], []⟩
def dd_Net_points : He.DefD := ⟨("Net", some "points"), "points", "Net.points", defArgs s_Net_points, defBody s_Net_points, defScope s_Net_points, [], []⟩
def dd_Net_enters : He.DefD := ⟨("Net", some "enters"), "enters", "Net.enters", defArgs s_Net_enters, defBody s_Net_enters, defScope s_Net_enters, [], []⟩
def dd_Net_keeps : He.DefD := ⟨("Net", some "keeps"), "keeps", "Net.keeps", defArgs s_Net_keeps, defBody s_Net_keeps, defScope s_Net_keeps, [], []⟩
def dd_Net_start : He.DefD := ⟨("Net", some "start"), "start", "Net.start", defArgs s_Net_start, defBody s_Net_start, defScope s_Net_start, [], []⟩
def dd_Net_out : He.DefD := ⟨("Net", some "out"), "out", "Net.out", defArgs s_Net_out, defBody s_Net_out, defScope s_Net_out, [], []⟩
def dd_Net___init__ : He.DefD := ⟨("Net", some "__init__"), "__init__", "Net.__init__", defArgs s_Net___init__, defBody s_Net___init__, defScope s_Net___init__, [], []⟩
def dd_Machine_turn : He.DefD := ⟨("Machine", some "turn"), "turn", "Machine.turn", defArgs s_Machine_turn, defBody s_Machine_turn, defScope s_Machine_turn, [], []⟩
def dd_Machine_turns : He.DefD := ⟨("Machine", some "turns"), "turns", "Machine.turns", defArgs s_Machine_turns, defBody s_Machine_turns, defScope s_Machine_turns, [], []⟩
def dd_Machine_state : He.DefD := ⟨("Machine", some "state"), "state", "Machine.state", defArgs s_Machine_state, defBody s_Machine_state, defScope s_Machine_state, [], []⟩
def dd_Machine_went : He.DefD := ⟨("Machine", some "went"), "went", "Machine.went", defArgs s_Machine_went, defBody s_Machine_went, defScope s_Machine_went, [], []⟩
def dd_Machine_overs : He.DefD := ⟨("Machine", some "overs"), "overs", "Machine.overs", defArgs s_Machine_overs, defBody s_Machine_overs, defScope s_Machine_overs, [], []⟩
def dd_Machine___init__ : He.DefD := ⟨("Machine", some "__init__"), "__init__", "Machine.__init__", defArgs s_Machine___init__, defBody s_Machine___init__, defScope s_Machine___init__, [.non], []⟩
def dd_Form___init__ : He.DefD := ⟨("Form", some "__init__"), "__init__", "Form.__init__", defArgs s_Form___init__, defBody s_Form___init__, defScope s_Form___init__, [.non, .int 0, .str "half", .str "wrap"], []⟩
def FN_0 : List He.DefD := [dd_is_whole, dd_downward, dd_upward, dd_inward, dd_outward, dd_nearest_greater, dd_nearest_even, dd_nearest_far, dd_is_manner, dd_rounded, dd_is_width, dd_is_point, dd_is_ends, dd_is_place, dd_is_factor, dd_in_point, dd_old_point, dd_times_point, dd_sum_point, dd_move_point]
def FN_1 : List He.DefD := [dd_keep_point, dd_is_written_as_row, dd_row_point, dd_check_length, dd_check_forms, dd_is_hold, dd_check_holds, dd_checked_points, dd_check_links, dd_enter_form, dd_swept, dd_is_numbers, dd_dot, dd_check_taps, dd_extremes, dd_width_for, dd_guard, dd_is_state, dd_check_state, dd_check_word]
def FN_2 : List He.DefD := [dd_first_state, dd_sum_number, dd_number_of_row, dd_state_behind, dd_turn_of, dd_went_over, dd_overs, dd__law_cell_at, dd__law_well, dd__law_draw, dd__law_net, dd__law_word, dd_law, dd_Form_least, dd_Form_greatest, dd_Form_has, dd_Form_word_for, dd_Form_ended, dd_Form_kept_at, dd_Net_forms]
def FN_3 : List He.DefD := [dd_Net_rows, dd_Net_holds, dd_Net_points, dd_Net_enters, dd_Net_keeps, dd_Net_start, dd_Net_out, dd_Net___init__, dd_Machine_turn, dd_Machine_turns, dd_Machine_state, dd_Machine_went, dd_Machine_overs, dd_Machine___init__, dd_Form___init__]
def FN : List He.DefD := FN_0 ++ (FN_1 ++ (FN_2 ++ (FN_3)))
def FA_0 : List He.Fa := [.glo "is_whole", .glo "downward", .glo "upward", .glo "inward", .glo "outward", .glo "nearest_greater", .glo "nearest_even", .glo "nearest_far", .glo "is_manner", .glo "rounded", .glo "is_width", .glo "is_point", .glo "is_ends", .glo "is_place", .glo "is_factor", .glo "in_point", .glo "old_point", .glo "times_point", .glo "sum_point", .glo "move_point"]
def FA_1 : List He.Fa := [.glo "keep_point", .glo "is_written_as_row", .glo "row_point", .glo "check_length", .glo "check_forms", .glo "is_hold", .glo "check_holds", .glo "checked_points", .glo "check_links", .glo "enter_form", .glo "swept", .glo "is_numbers", .glo "dot", .glo "check_taps", .glo "extremes", .glo "width_for", .glo "guard", .glo "is_state", .glo "check_state", .glo "check_word"]
def FA_2 : List He.Fa := [.glo "first_state", .glo "sum_number", .glo "number_of_row", .glo "state_behind", .glo "turn_of", .glo "went_over", .glo "overs", .glo "_law_cell_at", .glo "_law_well", .glo "_law_draw", .glo "_law_net", .glo "_law_word", .glo "law", .glo "Form", .cls "Form", .mkr "Form", .noat "Form" "width", .noat "Form" "point", .noat "Form" "manner", .noat "Form" "ends"]
def FA_3 : List He.Fa := [.glo "Net", .cls "Net", .mkr "Net", .noat "Net" "form_list", .noat "Net" "enters_at", .noat "Net" "row_list", .noat "Net" "hold_list", .noat "Net" "out_at", .noat "Net" "point_list", .meth "Form" "least", .meth "Form" "greatest", .meth "Form" "has", .meth "Form" "word_for", .meth "Form" "ended", .meth "Form" "kept_at", .meth "Net" "forms", .meth "Net" "rows", .meth "Net" "holds", .meth "Net" "points", .meth "Net" "enters"]
def FA_4 : List He.Fa := [.meth "Net" "keeps", .meth "Net" "start", .meth "Net" "out", .meth "Net" "__init__", .glo "Machine", .cls "Machine", .mkr "Machine", .noat "Machine" "first", .noat "Machine" "net", .noat "Machine" "past", .meth "Machine" "turn", .meth "Machine" "turns", .meth "Machine" "state", .meth "Machine" "went", .meth "Machine" "overs", .meth "Machine" "__init__", .meth "Form" "__init__", .int "LEAST_WIDTH_forms" 2, .int "LEAST_WIDTH_taps" 2, .int "MOST_TAPS" 40]
def FA_5 : List He.Fa := [.int "NUMBER_END" 1000000000000000000, .int "GREATEST_WIDTH" 64, .int "GREATEST_POINT" 64, .int "MOST_FORMS" 12, .int "MOST_ROWS" 60, .int "MOST_HOLDS" 6, .int "FACTOR_END" 9223372036854775808, .int "GREATEST_SHIFT" 64, .int "GREATEST_ROW_POINT" 200, .glo "ENDS", .glo "MANNERS", .glo "POINT_RULES", .glo "ROW_LENGTHS", .free "isinstance", .free "int", .free "bool", .free "abs", .free "str", .free "len", .free "max"]
def FA_6 : List He.Fa := [.free "tuple", .free "list", .free "enumerate", .free "all", .free "sum", .free "zip", .free "range"]
def FA : List He.Fa := FA_0 ++ (FA_1 ++ (FA_2 ++ (FA_3 ++ (FA_4 ++ (FA_5 ++ (FA_6))))))
def TS_0 : List He.Tab := [(fun K => He.ga K "MANNERS", ["down", "up", "in", "out", "half", "even", "far"]), (fun K => He.ga K "POINT_RULES", ["in", "old", "times", "plus", "less", "move", "keep"]), (fun K => He.ga K "ROW_LENGTHS", ["in", "old", "times", "plus", "less", "move", "keep"])]
def TS : List He.Tab := TS_0
def EXL_0 (K : PySem.W.Frag) : List Bool := [decide (PySem.W.nsIn K mainGlobals "overs_machines" = some (some (.ref (He.ga K "overs")))), He.tupB K "ENDS" [.str "wrap", .str "stop"], decide (PySem.W.nsIn K (He.ga K "MANNERS") "down" = some (some (.ref (He.ga K "downward")))), decide (PySem.W.nsIn K (He.ga K "MANNERS") "up" = some (some (.ref (He.ga K "upward")))), decide (PySem.W.nsIn K (He.ga K "MANNERS") "in" = some (some (.ref (He.ga K "inward")))), decide (PySem.W.nsIn K (He.ga K "MANNERS") "out" = some (some (.ref (He.ga K "outward")))), decide (PySem.W.nsIn K (He.ga K "MANNERS") "half" = some (some (.ref (He.ga K "nearest_greater")))), decide (PySem.W.nsIn K (He.ga K "MANNERS") "even" = some (some (.ref (He.ga K "nearest_even")))), decide (PySem.W.nsIn K (He.ga K "MANNERS") "far" = some (some (.ref (He.ga K "nearest_far")))), decide (PySem.W.nsIn K (He.ga K "POINT_RULES") "in" = some (some (.ref (He.ga K "in_point")))), decide (PySem.W.nsIn K (He.ga K "POINT_RULES") "old" = some (some (.ref (He.ga K "old_point")))), decide (PySem.W.nsIn K (He.ga K "POINT_RULES") "times" = some (some (.ref (He.ga K "times_point")))), decide (PySem.W.nsIn K (He.ga K "POINT_RULES") "plus" = some (some (.ref (He.ga K "sum_point")))), decide (PySem.W.nsIn K (He.ga K "POINT_RULES") "less" = some (some (.ref (He.ga K "sum_point")))), decide (PySem.W.nsIn K (He.ga K "POINT_RULES") "move" = some (some (.ref (He.ga K "move_point")))), decide (PySem.W.nsIn K (He.ga K "POINT_RULES") "keep" = some (some (.ref (He.ga K "keep_point")))), He.valsB K (He.ga K "ROW_LENGTHS") [("in", .int 1), ("old", .int 2), ("times", .int 4), ("plus", .int 3), ("less", .int 3), ("move", .int 3), ("keep", .int 3)], decide (PySem.W.findIn K (.ref (He.ga K "Form")) "__class__" = some (some (.builtin "object.__class__"))), decide (PySem.W.specialIn K (.builtin "object.__class__") "__get__" = some (some (.builtin "getset_descriptor.__get__"))), decide (PySem.W.takesIn K (.builtin "object.__class__") = some true)]
def EXL_1 (K : PySem.W.Frag) : List Bool := [decide (PySem.W.mroIn K (He.ga K "Form") (.type "object") = some true), decide (PySem.W.kitOne K (.ref (He.ga K "Form")) (.ref (He.ga K "Form")) = some true)]
def EXL (K : PySem.W.Frag) : List Bool := EXL_0 K ++ (EXL_1 K)
def EXB (K : PySem.W.Frag) : Bool := (EXL K).all id
theorem all_mk {l : PySem.W.OpenLaw} {w : World} {K : PySem.W.Frag} {h : Heap} {mg : Str → Option Value} {fa : Addr} {C : Addr} {CN : Addr} {CM : Addr} {A_ENDS : Addr} {A_MANNERS : Addr} {A_POINT_RULES : Addr} {A_ROW_LENGTHS : Addr} (e_C : He.ga K "Form" = C) (e_CN : He.ga K "Net" = CN) (e_CM : He.ga K "Machine" = CM) (e_A_ENDS : He.ga K "ENDS" = A_ENDS) (e_A_MANNERS : He.ga K "MANNERS" = A_MANNERS) (e_A_POINT_RULES : He.ga K "POINT_RULES" = A_POINT_RULES) (e_A_ROW_LENGTHS : He.ga K "ROW_LENGTHS" = A_ROW_LENGTHS) (X : K.In h) (G : h.Ns mainGlobals mg) (hfa : mg "law" = some (.ref fa)) (c : SaysY FA FN TS EXB w K) :
    ∃ fd : FuncData, (∀ (s : Shared) (v : Value), BindsTo s fd ⟨[v], []⟩ [("_law_script", v)]) ∧ ∀ base : Heap, K.In base → base.Ns mainGlobals mg → FnOk l.prog w K mg base CX0 10 fa fd ["_law_script"] (spLaw K) := by
  obtain ⟨fd_is_whole, F0_is_whole⟩ := c.t.d.def_ 0 (d := dd_is_whole) rfl
  have F_is_whole : Fun K "is_whole" "is_whole" s_is_whole (He.ga K "is_whole") fd_is_whole := fun_of F0_is_whole
  have k_is_whole := F_is_whole.kp
  have a_is_whole : PySem.W.nsIn K mainGlobals "is_whole" = some (some (.ref (He.ga K "is_whole"))) := He.eqO_ok (c.t.d.fact 0 (f := .glo "is_whole") rfl)
  have b_is_whole := F_is_whole.binds (ps := ["thing"]) fun _ _ _ _ _ _ us hl => match us, hl with | [_], _ => rfl
  obtain ⟨fd_downward, F0_downward⟩ := c.t.d.def_ 1 (d := dd_downward) rfl
  have F_downward : Fun K "downward" "downward" s_downward (He.ga K "downward") fd_downward := fun_of F0_downward
  have k_downward := F_downward.kp
  have a_downward : PySem.W.nsIn K mainGlobals "downward" = some (some (.ref (He.ga K "downward"))) := He.eqO_ok (c.t.d.fact 1 (f := .glo "downward") rfl)
  have b_downward := F_downward.binds (ps := ["top", "bottom"]) fun _ _ _ _ _ _ us hl => match us, hl with | [_, _], _ => rfl
  obtain ⟨fd_upward, F0_upward⟩ := c.t.d.def_ 2 (d := dd_upward) rfl
  have F_upward : Fun K "upward" "upward" s_upward (He.ga K "upward") fd_upward := fun_of F0_upward
  have k_upward := F_upward.kp
  have a_upward : PySem.W.nsIn K mainGlobals "upward" = some (some (.ref (He.ga K "upward"))) := He.eqO_ok (c.t.d.fact 2 (f := .glo "upward") rfl)
  have b_upward := F_upward.binds (ps := ["top", "bottom"]) fun _ _ _ _ _ _ us hl => match us, hl with | [_, _], _ => rfl
  obtain ⟨fd_inward, F0_inward⟩ := c.t.d.def_ 3 (d := dd_inward) rfl
  have F_inward : Fun K "inward" "inward" s_inward (He.ga K "inward") fd_inward := fun_of F0_inward
  have k_inward := F_inward.kp
  have a_inward : PySem.W.nsIn K mainGlobals "inward" = some (some (.ref (He.ga K "inward"))) := He.eqO_ok (c.t.d.fact 3 (f := .glo "inward") rfl)
  have b_inward := F_inward.binds (ps := ["top", "bottom"]) fun _ _ _ _ _ _ us hl => match us, hl with | [_, _], _ => rfl
  obtain ⟨fd_outward, F0_outward⟩ := c.t.d.def_ 4 (d := dd_outward) rfl
  have F_outward : Fun K "outward" "outward" s_outward (He.ga K "outward") fd_outward := fun_of F0_outward
  have k_outward := F_outward.kp
  have a_outward : PySem.W.nsIn K mainGlobals "outward" = some (some (.ref (He.ga K "outward"))) := He.eqO_ok (c.t.d.fact 4 (f := .glo "outward") rfl)
  have b_outward := F_outward.binds (ps := ["top", "bottom"]) fun _ _ _ _ _ _ us hl => match us, hl with | [_, _], _ => rfl
  obtain ⟨fd_nearest_greater, F0_nearest_greater⟩ := c.t.d.def_ 5 (d := dd_nearest_greater) rfl
  have F_nearest_greater : Fun K "nearest_greater" "nearest_greater" s_nearest_greater (He.ga K "nearest_greater") fd_nearest_greater := fun_of F0_nearest_greater
  have k_nearest_greater := F_nearest_greater.kp
  have a_nearest_greater : PySem.W.nsIn K mainGlobals "nearest_greater" = some (some (.ref (He.ga K "nearest_greater"))) := He.eqO_ok (c.t.d.fact 5 (f := .glo "nearest_greater") rfl)
  have b_nearest_greater := F_nearest_greater.binds (ps := ["top", "bottom"]) fun _ _ _ _ _ _ us hl => match us, hl with | [_, _], _ => rfl
  obtain ⟨fd_nearest_even, F0_nearest_even⟩ := c.t.d.def_ 6 (d := dd_nearest_even) rfl
  have F_nearest_even : Fun K "nearest_even" "nearest_even" s_nearest_even (He.ga K "nearest_even") fd_nearest_even := fun_of F0_nearest_even
  have k_nearest_even := F_nearest_even.kp
  have a_nearest_even : PySem.W.nsIn K mainGlobals "nearest_even" = some (some (.ref (He.ga K "nearest_even"))) := He.eqO_ok (c.t.d.fact 6 (f := .glo "nearest_even") rfl)
  have b_nearest_even := F_nearest_even.binds (ps := ["top", "bottom"]) fun _ _ _ _ _ _ us hl => match us, hl with | [_, _], _ => rfl
  obtain ⟨fd_nearest_far, F0_nearest_far⟩ := c.t.d.def_ 7 (d := dd_nearest_far) rfl
  have F_nearest_far : Fun K "nearest_far" "nearest_far" s_nearest_far (He.ga K "nearest_far") fd_nearest_far := fun_of F0_nearest_far
  have k_nearest_far := F_nearest_far.kp
  have a_nearest_far : PySem.W.nsIn K mainGlobals "nearest_far" = some (some (.ref (He.ga K "nearest_far"))) := He.eqO_ok (c.t.d.fact 7 (f := .glo "nearest_far") rfl)
  have b_nearest_far := F_nearest_far.binds (ps := ["top", "bottom"]) fun _ _ _ _ _ _ us hl => match us, hl with | [_, _], _ => rfl
  obtain ⟨fd_is_manner, F0_is_manner⟩ := c.t.d.def_ 8 (d := dd_is_manner) rfl
  have F_is_manner : Fun K "is_manner" "is_manner" s_is_manner (He.ga K "is_manner") fd_is_manner := fun_of F0_is_manner
  have k_is_manner := F_is_manner.kp
  have a_is_manner : PySem.W.nsIn K mainGlobals "is_manner" = some (some (.ref (He.ga K "is_manner"))) := He.eqO_ok (c.t.d.fact 8 (f := .glo "is_manner") rfl)
  have b_is_manner := F_is_manner.binds (ps := ["thing"]) fun _ _ _ _ _ _ us hl => match us, hl with | [_], _ => rfl
  obtain ⟨fd_rounded, F0_rounded⟩ := c.t.d.def_ 9 (d := dd_rounded) rfl
  have F_rounded : FunD K "rounded" "rounded" (defArgs s_rounded) (defBody s_rounded) (defScope s_rounded) [V.str "half"] [] (He.ga K "rounded") fd_rounded := F0_rounded
  have k_rounded := F_rounded.kp
  have a_rounded : PySem.W.nsIn K mainGlobals "rounded" = some (some (.ref (He.ga K "rounded"))) := He.eqO_ok (c.t.d.fact 9 (f := .glo "rounded") rfl)
  obtain ⟨ds_rounded, dv_rounded, b_rounded⟩ := F_rounded.binds1 (ps := ["value", "manner"]) 2 1 (by simp) rfl fun _ _ _ _ _ _ _ us its h1 h2 => match us, its, h1, h2 with | [_, _], [_], _, _ => ⟨_, rfl, rfl⟩
  cases dv_rounded
  obtain ⟨fd_is_width, F0_is_width⟩ := c.t.d.def_ 10 (d := dd_is_width) rfl
  have F_is_width : Fun K "is_width" "is_width" s_is_width (He.ga K "is_width") fd_is_width := fun_of F0_is_width
  have k_is_width := F_is_width.kp
  have a_is_width : PySem.W.nsIn K mainGlobals "is_width" = some (some (.ref (He.ga K "is_width"))) := He.eqO_ok (c.t.d.fact 10 (f := .glo "is_width") rfl)
  have b_is_width := F_is_width.binds (ps := ["thing"]) fun _ _ _ _ _ _ us hl => match us, hl with | [_], _ => rfl
  obtain ⟨fd_is_point, F0_is_point⟩ := c.t.d.def_ 11 (d := dd_is_point) rfl
  have F_is_point : Fun K "is_point" "is_point" s_is_point (He.ga K "is_point") fd_is_point := fun_of F0_is_point
  have k_is_point := F_is_point.kp
  have a_is_point : PySem.W.nsIn K mainGlobals "is_point" = some (some (.ref (He.ga K "is_point"))) := He.eqO_ok (c.t.d.fact 11 (f := .glo "is_point") rfl)
  have b_is_point := F_is_point.binds (ps := ["thing"]) fun _ _ _ _ _ _ us hl => match us, hl with | [_], _ => rfl
  obtain ⟨fd_is_ends, F0_is_ends⟩ := c.t.d.def_ 12 (d := dd_is_ends) rfl
  have F_is_ends : Fun K "is_ends" "is_ends" s_is_ends (He.ga K "is_ends") fd_is_ends := fun_of F0_is_ends
  have k_is_ends := F_is_ends.kp
  have a_is_ends : PySem.W.nsIn K mainGlobals "is_ends" = some (some (.ref (He.ga K "is_ends"))) := He.eqO_ok (c.t.d.fact 12 (f := .glo "is_ends") rfl)
  have b_is_ends := F_is_ends.binds (ps := ["thing"]) fun _ _ _ _ _ _ us hl => match us, hl with | [_], _ => rfl
  obtain ⟨fd_is_place, F0_is_place⟩ := c.t.d.def_ 13 (d := dd_is_place) rfl
  have F_is_place : Fun K "is_place" "is_place" s_is_place (He.ga K "is_place") fd_is_place := fun_of F0_is_place
  have k_is_place := F_is_place.kp
  have a_is_place : PySem.W.nsIn K mainGlobals "is_place" = some (some (.ref (He.ga K "is_place"))) := He.eqO_ok (c.t.d.fact 13 (f := .glo "is_place") rfl)
  have b_is_place := F_is_place.binds (ps := ["thing", "many"]) fun _ _ _ _ _ _ us hl => match us, hl with | [_, _], _ => rfl
  obtain ⟨fd_is_factor, F0_is_factor⟩ := c.t.d.def_ 14 (d := dd_is_factor) rfl
  have F_is_factor : Fun K "is_factor" "is_factor" s_is_factor (He.ga K "is_factor") fd_is_factor := fun_of F0_is_factor
  have k_is_factor := F_is_factor.kp
  have a_is_factor : PySem.W.nsIn K mainGlobals "is_factor" = some (some (.ref (He.ga K "is_factor"))) := He.eqO_ok (c.t.d.fact 14 (f := .glo "is_factor") rfl)
  have b_is_factor := F_is_factor.binds (ps := ["thing"]) fun _ _ _ _ _ _ us hl => match us, hl with | [_], _ => rfl
  obtain ⟨fd_in_point, F0_in_point⟩ := c.t.d.def_ 15 (d := dd_in_point) rfl
  have F_in_point : Fun K "in_point" "in_point" s_in_point (He.ga K "in_point") fd_in_point := fun_of F0_in_point
  have k_in_point := F_in_point.kp
  have a_in_point : PySem.W.nsIn K mainGlobals "in_point" = some (some (.ref (He.ga K "in_point"))) := He.eqO_ok (c.t.d.fact 15 (f := .glo "in_point") rfl)
  have b_in_point := F_in_point.binds (ps := ["row", "points", "given"]) fun _ _ _ _ _ _ us hl => match us, hl with | [_, _, _], _ => rfl
  obtain ⟨fd_old_point, F0_old_point⟩ := c.t.d.def_ 16 (d := dd_old_point) rfl
  have F_old_point : Fun K "old_point" "old_point" s_old_point (He.ga K "old_point") fd_old_point := fun_of F0_old_point
  have k_old_point := F_old_point.kp
  have a_old_point : PySem.W.nsIn K mainGlobals "old_point" = some (some (.ref (He.ga K "old_point"))) := He.eqO_ok (c.t.d.fact 16 (f := .glo "old_point") rfl)
  have b_old_point := F_old_point.binds (ps := ["row", "points", "given"]) fun _ _ _ _ _ _ us hl => match us, hl with | [_, _, _], _ => rfl
  obtain ⟨fd_times_point, F0_times_point⟩ := c.t.d.def_ 17 (d := dd_times_point) rfl
  have F_times_point : Fun K "times_point" "times_point" s_times_point (He.ga K "times_point") fd_times_point := fun_of F0_times_point
  have k_times_point := F_times_point.kp
  have a_times_point : PySem.W.nsIn K mainGlobals "times_point" = some (some (.ref (He.ga K "times_point"))) := He.eqO_ok (c.t.d.fact 17 (f := .glo "times_point") rfl)
  have b_times_point := F_times_point.binds (ps := ["row", "points", "given"]) fun _ _ _ _ _ _ us hl => match us, hl with | [_, _, _], _ => rfl
  obtain ⟨fd_sum_point, F0_sum_point⟩ := c.t.d.def_ 18 (d := dd_sum_point) rfl
  have F_sum_point : Fun K "sum_point" "sum_point" s_sum_point (He.ga K "sum_point") fd_sum_point := fun_of F0_sum_point
  have k_sum_point := F_sum_point.kp
  have a_sum_point : PySem.W.nsIn K mainGlobals "sum_point" = some (some (.ref (He.ga K "sum_point"))) := He.eqO_ok (c.t.d.fact 18 (f := .glo "sum_point") rfl)
  have b_sum_point := F_sum_point.binds (ps := ["row", "points", "given"]) fun _ _ _ _ _ _ us hl => match us, hl with | [_, _, _], _ => rfl
  obtain ⟨fd_move_point, F0_move_point⟩ := c.t.d.def_ 19 (d := dd_move_point) rfl
  have F_move_point : Fun K "move_point" "move_point" s_move_point (He.ga K "move_point") fd_move_point := fun_of F0_move_point
  have k_move_point := F_move_point.kp
  have a_move_point : PySem.W.nsIn K mainGlobals "move_point" = some (some (.ref (He.ga K "move_point"))) := He.eqO_ok (c.t.d.fact 19 (f := .glo "move_point") rfl)
  have b_move_point := F_move_point.binds (ps := ["row", "points", "given"]) fun _ _ _ _ _ _ us hl => match us, hl with | [_, _, _], _ => rfl
  obtain ⟨fd_keep_point, F0_keep_point⟩ := c.t.d.def_ 20 (d := dd_keep_point) rfl
  have F_keep_point : Fun K "keep_point" "keep_point" s_keep_point (He.ga K "keep_point") fd_keep_point := fun_of F0_keep_point
  have k_keep_point := F_keep_point.kp
  have a_keep_point : PySem.W.nsIn K mainGlobals "keep_point" = some (some (.ref (He.ga K "keep_point"))) := He.eqO_ok (c.t.d.fact 20 (f := .glo "keep_point") rfl)
  have b_keep_point := F_keep_point.binds (ps := ["row", "points", "given"]) fun _ _ _ _ _ _ us hl => match us, hl with | [_, _, _], _ => rfl
  obtain ⟨fd_is_written_as_row, F0_is_written_as_row⟩ := c.t.d.def_ 21 (d := dd_is_written_as_row) rfl
  have F_is_written_as_row : Fun K "is_written_as_row" "is_written_as_row" s_is_written_as_row (He.ga K "is_written_as_row") fd_is_written_as_row := fun_of F0_is_written_as_row
  have k_is_written_as_row := F_is_written_as_row.kp
  have a_is_written_as_row : PySem.W.nsIn K mainGlobals "is_written_as_row" = some (some (.ref (He.ga K "is_written_as_row"))) := He.eqO_ok (c.t.d.fact 21 (f := .glo "is_written_as_row") rfl)
  have b_is_written_as_row := F_is_written_as_row.binds (ps := ["thing"]) fun _ _ _ _ _ _ us hl => match us, hl with | [_], _ => rfl
  obtain ⟨fd_row_point, F0_row_point⟩ := c.t.d.def_ 22 (d := dd_row_point) rfl
  have F_row_point : Fun K "row_point" "row_point" s_row_point (He.ga K "row_point") fd_row_point := fun_of F0_row_point
  have k_row_point := F_row_point.kp
  have a_row_point : PySem.W.nsIn K mainGlobals "row_point" = some (some (.ref (He.ga K "row_point"))) := He.eqO_ok (c.t.d.fact 22 (f := .glo "row_point") rfl)
  have b_row_point := F_row_point.binds (ps := ["row", "points", "given"]) fun _ _ _ _ _ _ us hl => match us, hl with | [_, _, _], _ => rfl
  obtain ⟨fd_check_length, F0_check_length⟩ := c.t.d.def_ 23 (d := dd_check_length) rfl
  have F_check_length : Fun K "check_length" "check_length" s_check_length (He.ga K "check_length") fd_check_length := fun_of F0_check_length
  have k_check_length := F_check_length.kp
  have a_check_length : PySem.W.nsIn K mainGlobals "check_length" = some (some (.ref (He.ga K "check_length"))) := He.eqO_ok (c.t.d.fact 23 (f := .glo "check_length") rfl)
  have b_check_length := F_check_length.binds (ps := ["thing", "part", "least", "most"]) fun _ _ _ _ _ _ us hl => match us, hl with | [_, _, _, _], _ => rfl
  obtain ⟨fd_check_forms, F0_check_forms⟩ := c.t.d.def_ 24 (d := dd_check_forms) rfl
  have F_check_forms : Fun K "check_forms" "check_forms" s_check_forms (He.ga K "check_forms") fd_check_forms := fun_of F0_check_forms
  have k_check_forms := F_check_forms.kp
  have a_check_forms : PySem.W.nsIn K mainGlobals "check_forms" = some (some (.ref (He.ga K "check_forms"))) := He.eqO_ok (c.t.d.fact 24 (f := .glo "check_forms") rfl)
  have b_check_forms := F_check_forms.binds (ps := ["forms"]) fun _ _ _ _ _ _ us hl => match us, hl with | [_], _ => rfl
  obtain ⟨fd_is_hold, F0_is_hold⟩ := c.t.d.def_ 25 (d := dd_is_hold) rfl
  have F_is_hold : Fun K "is_hold" "is_hold" s_is_hold (He.ga K "is_hold") fd_is_hold := fun_of F0_is_hold
  have k_is_hold := F_is_hold.kp
  have a_is_hold : PySem.W.nsIn K mainGlobals "is_hold" = some (some (.ref (He.ga K "is_hold"))) := He.eqO_ok (c.t.d.fact 25 (f := .glo "is_hold") rfl)
  have b_is_hold := F_is_hold.binds (ps := ["thing", "forms"]) fun _ _ _ _ _ _ us hl => match us, hl with | [_, _], _ => rfl
  obtain ⟨fd_check_holds, F0_check_holds⟩ := c.t.d.def_ 26 (d := dd_check_holds) rfl
  have F_check_holds : Fun K "check_holds" "check_holds" s_check_holds (He.ga K "check_holds") fd_check_holds := fun_of F0_check_holds
  have k_check_holds := F_check_holds.kp
  have a_check_holds : PySem.W.nsIn K mainGlobals "check_holds" = some (some (.ref (He.ga K "check_holds"))) := He.eqO_ok (c.t.d.fact 26 (f := .glo "check_holds") rfl)
  have b_check_holds := F_check_holds.binds (ps := ["holds", "forms"]) fun _ _ _ _ _ _ us hl => match us, hl with | [_, _], _ => rfl
  obtain ⟨fd_checked_points, F0_checked_points⟩ := c.t.d.def_ 27 (d := dd_checked_points) rfl
  have F_checked_points : Fun K "checked_points" "checked_points" s_checked_points (He.ga K "checked_points") fd_checked_points := fun_of F0_checked_points
  have k_checked_points := F_checked_points.kp
  have a_checked_points : PySem.W.nsIn K mainGlobals "checked_points" = some (some (.ref (He.ga K "checked_points"))) := He.eqO_ok (c.t.d.fact 27 (f := .glo "checked_points") rfl)
  have b_checked_points := F_checked_points.binds (ps := ["rows", "given"]) fun _ _ _ _ _ _ us hl => match us, hl with | [_, _], _ => rfl
  obtain ⟨fd_check_links, F0_check_links⟩ := c.t.d.def_ 28 (d := dd_check_links) rfl
  have F_check_links : Fun K "check_links" "check_links" s_check_links (He.ga K "check_links") fd_check_links := fun_of F0_check_links
  have k_check_links := F_check_links.kp
  have a_check_links : PySem.W.nsIn K mainGlobals "check_links" = some (some (.ref (He.ga K "check_links"))) := He.eqO_ok (c.t.d.fact 28 (f := .glo "check_links") rfl)
  have b_check_links := F_check_links.binds (ps := ["holds", "rows"]) fun _ _ _ _ _ _ us hl => match us, hl with | [_, _], _ => rfl
  obtain ⟨fd_enter_form, F0_enter_form⟩ := c.t.d.def_ 29 (d := dd_enter_form) rfl
  have F_enter_form : Fun K "enter_form" "enter_form" s_enter_form (He.ga K "enter_form") fd_enter_form := fun_of F0_enter_form
  have k_enter_form := F_enter_form.kp
  have a_enter_form : PySem.W.nsIn K mainGlobals "enter_form" = some (some (.ref (He.ga K "enter_form"))) := He.eqO_ok (c.t.d.fact 29 (f := .glo "enter_form") rfl)
  have b_enter_form := F_enter_form.binds (ps := ["net"]) fun _ _ _ _ _ _ us hl => match us, hl with | [_], _ => rfl
  obtain ⟨fd_swept, F0_swept⟩ := c.t.d.def_ 30 (d := dd_swept) rfl
  have F_swept : Fun K "swept" "swept" s_swept (He.ga K "swept") fd_swept := fun_of F0_swept
  have k_swept := F_swept.kp
  have a_swept : PySem.W.nsIn K mainGlobals "swept" = some (some (.ref (He.ga K "swept"))) := He.eqO_ok (c.t.d.fact 30 (f := .glo "swept") rfl)
  have b_swept := F_swept.binds (ps := ["net", "heard", "held", "rule"]) fun _ _ _ _ _ _ us hl => match us, hl with | [_, _, _, _], _ => rfl
  obtain ⟨fd_is_numbers, F0_is_numbers⟩ := c.t.d.def_ 31 (d := dd_is_numbers) rfl
  have F_is_numbers : Fun K "is_numbers" "is_numbers" s_is_numbers (He.ga K "is_numbers") fd_is_numbers := fun_of F0_is_numbers
  have k_is_numbers := F_is_numbers.kp
  have a_is_numbers : PySem.W.nsIn K mainGlobals "is_numbers" = some (some (.ref (He.ga K "is_numbers"))) := He.eqO_ok (c.t.d.fact 31 (f := .glo "is_numbers") rfl)
  have b_is_numbers := F_is_numbers.binds (ps := ["thing", "least", "most"]) fun _ _ _ _ _ _ us hl => match us, hl with | [_, _, _], _ => rfl
  obtain ⟨fd_dot, F0_dot⟩ := c.t.d.def_ 32 (d := dd_dot) rfl
  have F_dot : Fun K "dot" "dot" s_dot (He.ga K "dot") fd_dot := fun_of F0_dot
  have k_dot := F_dot.kp
  have a_dot : PySem.W.nsIn K mainGlobals "dot" = some (some (.ref (He.ga K "dot"))) := He.eqO_ok (c.t.d.fact 32 (f := .glo "dot") rfl)
  have b_dot := F_dot.binds (ps := ["numbers", "others"]) fun _ _ _ _ _ _ us hl => match us, hl with | [_, _], _ => rfl
  obtain ⟨fd_check_taps, F0_check_taps⟩ := c.t.d.def_ 33 (d := dd_check_taps) rfl
  have F_check_taps : Fun K "check_taps" "check_taps" s_check_taps (He.ga K "check_taps") fd_check_taps := fun_of F0_check_taps
  have k_check_taps := F_check_taps.kp
  have a_check_taps : PySem.W.nsIn K mainGlobals "check_taps" = some (some (.ref (He.ga K "check_taps"))) := He.eqO_ok (c.t.d.fact 33 (f := .glo "check_taps") rfl)
  have b_check_taps := F_check_taps.binds (ps := ["taps"]) fun _ _ _ _ _ _ us hl => match us, hl with | [_], _ => rfl
  obtain ⟨fd_extremes, F0_extremes⟩ := c.t.d.def_ 34 (d := dd_extremes) rfl
  have F_extremes : Fun K "extremes" "extremes" s_extremes (He.ga K "extremes") fd_extremes := fun_of F0_extremes
  have k_extremes := F_extremes.kp
  have a_extremes : PySem.W.nsIn K mainGlobals "extremes" = some (some (.ref (He.ga K "extremes"))) := He.eqO_ok (c.t.d.fact 34 (f := .glo "extremes") rfl)
  have b_extremes := F_extremes.binds (ps := ["taps", "low", "high"]) fun _ _ _ _ _ _ us hl => match us, hl with | [_, _, _], _ => rfl
  obtain ⟨fd_width_for, F0_width_for⟩ := c.t.d.def_ 35 (d := dd_width_for) rfl
  have F_width_for : Fun K "width_for" "width_for" s_width_for (He.ga K "width_for") fd_width_for := fun_of F0_width_for
  have k_width_for := F_width_for.kp
  have a_width_for : PySem.W.nsIn K mainGlobals "width_for" = some (some (.ref (He.ga K "width_for"))) := He.eqO_ok (c.t.d.fact 35 (f := .glo "width_for") rfl)
  have b_width_for := F_width_for.binds (ps := ["number"]) fun _ _ _ _ _ _ us hl => match us, hl with | [_], _ => rfl
  obtain ⟨fd_guard, F0_guard⟩ := c.t.d.def_ 36 (d := dd_guard) rfl
  have F_guard : Fun K "guard" "guard" s_guard (He.ga K "guard") fd_guard := fun_of F0_guard
  have k_guard := F_guard.kp
  have a_guard : PySem.W.nsIn K mainGlobals "guard" = some (some (.ref (He.ga K "guard"))) := He.eqO_ok (c.t.d.fact 36 (f := .glo "guard") rfl)
  have b_guard := F_guard.binds (ps := ["taps", "form"]) fun _ _ _ _ _ _ us hl => match us, hl with | [_, _], _ => rfl
  obtain ⟨fd_is_state, F0_is_state⟩ := c.t.d.def_ 37 (d := dd_is_state) rfl
  have F_is_state : Fun K "is_state" "is_state" s_is_state (He.ga K "is_state") fd_is_state := fun_of F0_is_state
  have k_is_state := F_is_state.kp
  have a_is_state : PySem.W.nsIn K mainGlobals "is_state" = some (some (.ref (He.ga K "is_state"))) := He.eqO_ok (c.t.d.fact 37 (f := .glo "is_state") rfl)
  have b_is_state := F_is_state.binds (ps := ["net", "thing"]) fun _ _ _ _ _ _ us hl => match us, hl with | [_, _], _ => rfl
  obtain ⟨fd_check_state, F0_check_state⟩ := c.t.d.def_ 38 (d := dd_check_state) rfl
  have F_check_state : Fun K "check_state" "check_state" s_check_state (He.ga K "check_state") fd_check_state := fun_of F0_check_state
  have k_check_state := F_check_state.kp
  have a_check_state : PySem.W.nsIn K mainGlobals "check_state" = some (some (.ref (He.ga K "check_state"))) := He.eqO_ok (c.t.d.fact 38 (f := .glo "check_state") rfl)
  have b_check_state := F_check_state.binds (ps := ["net", "state"]) fun _ _ _ _ _ _ us hl => match us, hl with | [_, _], _ => rfl
  obtain ⟨fd_check_word, F0_check_word⟩ := c.t.d.def_ 39 (d := dd_check_word) rfl
  have F_check_word : Fun K "check_word" "check_word" s_check_word (He.ga K "check_word") fd_check_word := fun_of F0_check_word
  have k_check_word := F_check_word.kp
  have a_check_word : PySem.W.nsIn K mainGlobals "check_word" = some (some (.ref (He.ga K "check_word"))) := He.eqO_ok (c.t.d.fact 39 (f := .glo "check_word") rfl)
  have b_check_word := F_check_word.binds (ps := ["net", "word"]) fun _ _ _ _ _ _ us hl => match us, hl with | [_, _], _ => rfl
  obtain ⟨fd_first_state, F0_first_state⟩ := c.t.d.def_ 40 (d := dd_first_state) rfl
  have F_first_state : Fun K "first_state" "first_state" s_first_state (He.ga K "first_state") fd_first_state := fun_of F0_first_state
  have k_first_state := F_first_state.kp
  have a_first_state : PySem.W.nsIn K mainGlobals "first_state" = some (some (.ref (He.ga K "first_state"))) := He.eqO_ok (c.t.d.fact 40 (f := .glo "first_state") rfl)
  have b_first_state := F_first_state.binds (ps := ["net", "state"]) fun _ _ _ _ _ _ us hl => match us, hl with | [_, _], _ => rfl
  obtain ⟨fd_sum_number, F0_sum_number⟩ := c.t.d.def_ 41 (d := dd_sum_number) rfl
  have F_sum_number : Fun K "sum_number" "sum_number" s_sum_number (He.ga K "sum_number") fd_sum_number := fun_of F0_sum_number
  have k_sum_number := F_sum_number.kp
  have a_sum_number : PySem.W.nsIn K mainGlobals "sum_number" = some (some (.ref (He.ga K "sum_number"))) := He.eqO_ok (c.t.d.fact 41 (f := .glo "sum_number") rfl)
  have b_sum_number := F_sum_number.binds (ps := ["row", "numbers", "points"]) fun _ _ _ _ _ _ us hl => match us, hl with | [_, _, _], _ => rfl
  obtain ⟨fd_number_of_row, F0_number_of_row⟩ := c.t.d.def_ 42 (d := dd_number_of_row) rfl
  have F_number_of_row : Fun K "number_of_row" "number_of_row" s_number_of_row (He.ga K "number_of_row") fd_number_of_row := fun_of F0_number_of_row
  have k_number_of_row := F_number_of_row.kp
  have a_number_of_row : PySem.W.nsIn K mainGlobals "number_of_row" = some (some (.ref (He.ga K "number_of_row"))) := He.eqO_ok (c.t.d.fact 42 (f := .glo "number_of_row") rfl)
  have b_number_of_row := F_number_of_row.binds (ps := ["row", "numbers", "forms", "points"]) fun _ _ _ _ _ _ us hl => match us, hl with | [_, _, _, _], _ => rfl
  obtain ⟨fd_state_behind, F0_state_behind⟩ := c.t.d.def_ 43 (d := dd_state_behind) rfl
  have F_state_behind : Fun K "state_behind" "state_behind" s_state_behind (He.ga K "state_behind") fd_state_behind := fun_of F0_state_behind
  have k_state_behind := F_state_behind.kp
  have a_state_behind : PySem.W.nsIn K mainGlobals "state_behind" = some (some (.ref (He.ga K "state_behind"))) := He.eqO_ok (c.t.d.fact 43 (f := .glo "state_behind") rfl)
  have b_state_behind := F_state_behind.binds (ps := ["net", "numbers"]) fun _ _ _ _ _ _ us hl => match us, hl with | [_, _], _ => rfl
  obtain ⟨fd_turn_of, F0_turn_of⟩ := c.t.d.def_ 44 (d := dd_turn_of) rfl
  have F_turn_of : Fun K "turn_of" "turn_of" s_turn_of (He.ga K "turn_of") fd_turn_of := fun_of F0_turn_of
  have k_turn_of := F_turn_of.kp
  have a_turn_of : PySem.W.nsIn K mainGlobals "turn_of" = some (some (.ref (He.ga K "turn_of"))) := He.eqO_ok (c.t.d.fact 44 (f := .glo "turn_of") rfl)
  have b_turn_of := F_turn_of.binds (ps := ["net", "state", "word"]) fun _ _ _ _ _ _ us hl => match us, hl with | [_, _, _], _ => rfl
  obtain ⟨fd_went_over, F0_went_over⟩ := c.t.d.def_ 45 (d := dd_went_over) rfl
  have F_went_over : Fun K "went_over" "went_over" s_went_over (He.ga K "went_over") fd_went_over := fun_of F0_went_over
  have k_went_over := F_went_over.kp
  have a_went_over : PySem.W.nsIn K mainGlobals "went_over" = some (some (.ref (He.ga K "went_over"))) := He.eqO_ok (c.t.d.fact 45 (f := .glo "went_over") rfl)
  have b_went_over := F_went_over.binds (ps := ["net", "row", "numbers"]) fun _ _ _ _ _ _ us hl => match us, hl with | [_, _, _], _ => rfl
  obtain ⟨fd_overs, F0_overs⟩ := c.t.d.def_ 46 (d := dd_overs) rfl
  have F_overs : Fun K "overs" "overs" s_overs (He.ga K "overs") fd_overs := fun_of F0_overs
  have k_overs := F_overs.kp
  have a_overs : PySem.W.nsIn K mainGlobals "overs" = some (some (.ref (He.ga K "overs"))) := He.eqO_ok (c.t.d.fact 46 (f := .glo "overs") rfl)
  have b_overs := F_overs.binds (ps := ["net", "numbers"]) fun _ _ _ _ _ _ us hl => match us, hl with | [_, _], _ => rfl
  obtain ⟨fd__law_cell_at, F0__law_cell_at⟩ := c.t.d.def_ 47 (d := dd__law_cell_at) rfl
  have F__law_cell_at : Fun K "_law_cell_at" "_law_cell_at" s__law_cell_at (He.ga K "_law_cell_at") fd__law_cell_at := fun_of F0__law_cell_at
  have k__law_cell_at := F__law_cell_at.kp
  have a__law_cell_at : PySem.W.nsIn K mainGlobals "_law_cell_at" = some (some (.ref (He.ga K "_law_cell_at"))) := He.eqO_ok (c.t.d.fact 47 (f := .glo "_law_cell_at") rfl)
  have b__law_cell_at := F__law_cell_at.binds (ps := ["_law_script", "_law_k"]) fun _ _ _ _ _ _ us hl => match us, hl with | [_, _], _ => rfl
  obtain ⟨fd__law_well, F0__law_well⟩ := c.t.d.def_ 48 (d := dd__law_well) rfl
  have F__law_well : Fun K "_law_well" "_law_well" s__law_well (He.ga K "_law_well") fd__law_well := fun_of F0__law_well
  have k__law_well := F__law_well.kp
  have a__law_well : PySem.W.nsIn K mainGlobals "_law_well" = some (some (.ref (He.ga K "_law_well"))) := He.eqO_ok (c.t.d.fact 48 (f := .glo "_law_well") rfl)
  have b__law_well := F__law_well.binds (ps := ["_law_cell"]) fun _ _ _ _ _ _ us hl => match us, hl with | [_], _ => rfl
  obtain ⟨fd__law_draw, F0__law_draw⟩ := c.t.d.def_ 49 (d := dd__law_draw) rfl
  have F__law_draw : Fun K "_law_draw" "_law_draw" s__law_draw (He.ga K "_law_draw") fd__law_draw := fun_of F0__law_draw
  have k__law_draw := F__law_draw.kp
  have a__law_draw : PySem.W.nsIn K mainGlobals "_law_draw" = some (some (.ref (He.ga K "_law_draw"))) := He.eqO_ok (c.t.d.fact 49 (f := .glo "_law_draw") rfl)
  have b__law_draw := F__law_draw.binds (ps := ["_law_well_here", "_law_many"]) fun _ _ _ _ _ _ us hl => match us, hl with | [_, _], _ => rfl
  obtain ⟨fd__law_net, F0__law_net⟩ := c.t.d.def_ 50 (d := dd__law_net) rfl
  have F__law_net : Fun K "_law_net" "_law_net" s__law_net (He.ga K "_law_net") fd__law_net := fun_of F0__law_net
  have k__law_net := F__law_net.kp
  have a__law_net : PySem.W.nsIn K mainGlobals "_law_net" = some (some (.ref (He.ga K "_law_net"))) := He.eqO_ok (c.t.d.fact 50 (f := .glo "_law_net") rfl)
  have b__law_net := F__law_net.binds (ps := ["_law_taps", "_law_width", "_law_form"]) fun _ _ _ _ _ _ us hl => match us, hl with | [_, _, _], _ => rfl
  obtain ⟨fd__law_word, F0__law_word⟩ := c.t.d.def_ 51 (d := dd__law_word) rfl
  have F__law_word : Fun K "_law_word" "_law_word" s__law_word (He.ga K "_law_word") fd__law_word := fun_of F0__law_word
  have k__law_word := F__law_word.kp
  have a__law_word : PySem.W.nsIn K mainGlobals "_law_word" = some (some (.ref (He.ga K "_law_word"))) := He.eqO_ok (c.t.d.fact 51 (f := .glo "_law_word") rfl)
  have b__law_word := F__law_word.binds (ps := ["_law_well_here", "_law_low", "_law_high"]) fun _ _ _ _ _ _ us hl => match us, hl with | [_, _, _], _ => rfl
  obtain ⟨fd_law, F0_law⟩ := c.t.d.def_ 52 (d := dd_law) rfl
  have F_law : Fun K "law" "law" s_law (He.ga K "law") fd_law := fun_of F0_law
  have k_law := F_law.kp
  have a_law : PySem.W.nsIn K mainGlobals "law" = some (some (.ref (He.ga K "law"))) := He.eqO_ok (c.t.d.fact 52 (f := .glo "law") rfl)
  have b_law := F_law.binds (ps := ["_law_script"]) fun _ _ _ _ _ _ us hl => match us, hl with | [_], _ => rfl
  have aC_C : PySem.W.nsIn K mainGlobals "Form" = some (some (.ref C)) := by
    rw [← e_C]
    exact He.eqO_ok (c.t.d.fact 53 (f := .glo "Form") rfl)
  have cl_C : Cls K C := by
    rw [← e_C]
    exact He.cls_ok (c.t.d.fact 54 (f := .cls "Form") rfl)
  have pg_C := cl_C.1
  have hd_C := cl_C.2
  have po_C := cl_C.3
  have sa_C := cl_C.4
  have mk0_C : Mk K C (He.ma K (He.ga K "Form") "__init__") := by
    rw [← e_C]
    exact He.mkr_ok (c.t.d.fact 55 (f := .mkr "Form") rfl)
  have mk_C := mk0_C.1
  have kc_C := mk0_C.4
  have n_C_width : NoAttr K C "width" := by
    rw [← e_C]
    exact He.noat_ok (c.t.d.fact 56 (f := .noat "Form" "width") rfl)
  have n_C_point : NoAttr K C "point" := by
    rw [← e_C]
    exact He.noat_ok (c.t.d.fact 57 (f := .noat "Form" "point") rfl)
  have n_C_manner : NoAttr K C "manner" := by
    rw [← e_C]
    exact He.noat_ok (c.t.d.fact 58 (f := .noat "Form" "manner") rfl)
  have n_C_ends : NoAttr K C "ends" := by
    rw [← e_C]
    exact He.noat_ok (c.t.d.fact 59 (f := .noat "Form" "ends") rfl)
  have aC_CN : PySem.W.nsIn K mainGlobals "Net" = some (some (.ref CN)) := by
    rw [← e_CN]
    exact He.eqO_ok (c.t.d.fact 60 (f := .glo "Net") rfl)
  have cl_CN : Cls K CN := by
    rw [← e_CN]
    exact He.cls_ok (c.t.d.fact 61 (f := .cls "Net") rfl)
  have pg_CN := cl_CN.1
  have hd_CN := cl_CN.2
  have po_CN := cl_CN.3
  have sa_CN := cl_CN.4
  have mk0_CN : Mk K CN (He.ma K (He.ga K "Net") "__init__") := by
    rw [← e_CN]
    exact He.mkr_ok (c.t.d.fact 62 (f := .mkr "Net") rfl)
  have mk_CN := mk0_CN.1
  have kc_CN := mk0_CN.4
  have n_CN_form_list : NoAttr K CN "form_list" := by
    rw [← e_CN]
    exact He.noat_ok (c.t.d.fact 63 (f := .noat "Net" "form_list") rfl)
  have n_CN_enters_at : NoAttr K CN "enters_at" := by
    rw [← e_CN]
    exact He.noat_ok (c.t.d.fact 64 (f := .noat "Net" "enters_at") rfl)
  have n_CN_row_list : NoAttr K CN "row_list" := by
    rw [← e_CN]
    exact He.noat_ok (c.t.d.fact 65 (f := .noat "Net" "row_list") rfl)
  have n_CN_hold_list : NoAttr K CN "hold_list" := by
    rw [← e_CN]
    exact He.noat_ok (c.t.d.fact 66 (f := .noat "Net" "hold_list") rfl)
  have n_CN_out_at : NoAttr K CN "out_at" := by
    rw [← e_CN]
    exact He.noat_ok (c.t.d.fact 67 (f := .noat "Net" "out_at") rfl)
  have n_CN_point_list : NoAttr K CN "point_list" := by
    rw [← e_CN]
    exact He.noat_ok (c.t.d.fact 68 (f := .noat "Net" "point_list") rfl)
  obtain ⟨fd_Form_least, F0_Form_least⟩ := c.t.d.def_ 53 (d := dd_Form_least) rfl
  have F_Form_least : Fun K "least" "Form.least" s_Form_least (He.ma K (He.ga K "Form") "least") fd_Form_least := fun_of F0_Form_least
  have k_Form_least := F_Form_least.kp
  have m0_Form_least : Meth K C "least" (He.ma K (He.ga K "Form") "least") := by
    rw [← e_C]
    exact He.meth_ok (c.t.d.fact 69 (f := .meth "Form" "least") rfl)
  have a_Form_least := m0_Form_least.1
  have i_Form_least := m0_Form_least.2
  have b_Form_least := F_Form_least.binds (ps := ["self"]) fun _ _ _ _ _ _ us hl => match us, hl with | [_], _ => rfl
  obtain ⟨fd_Form_greatest, F0_Form_greatest⟩ := c.t.d.def_ 54 (d := dd_Form_greatest) rfl
  have F_Form_greatest : Fun K "greatest" "Form.greatest" s_Form_greatest (He.ma K (He.ga K "Form") "greatest") fd_Form_greatest := fun_of F0_Form_greatest
  have k_Form_greatest := F_Form_greatest.kp
  have m0_Form_greatest : Meth K C "greatest" (He.ma K (He.ga K "Form") "greatest") := by
    rw [← e_C]
    exact He.meth_ok (c.t.d.fact 70 (f := .meth "Form" "greatest") rfl)
  have a_Form_greatest := m0_Form_greatest.1
  have i_Form_greatest := m0_Form_greatest.2
  have b_Form_greatest := F_Form_greatest.binds (ps := ["self"]) fun _ _ _ _ _ _ us hl => match us, hl with | [_], _ => rfl
  obtain ⟨fd_Form_has, F0_Form_has⟩ := c.t.d.def_ 55 (d := dd_Form_has) rfl
  have F_Form_has : Fun K "has" "Form.has" s_Form_has (He.ma K (He.ga K "Form") "has") fd_Form_has := fun_of F0_Form_has
  have k_Form_has := F_Form_has.kp
  have m0_Form_has : Meth K C "has" (He.ma K (He.ga K "Form") "has") := by
    rw [← e_C]
    exact He.meth_ok (c.t.d.fact 71 (f := .meth "Form" "has") rfl)
  have a_Form_has := m0_Form_has.1
  have i_Form_has := m0_Form_has.2
  have b_Form_has := F_Form_has.binds (ps := ["self", "thing"]) fun _ _ _ _ _ _ us hl => match us, hl with | [_, _], _ => rfl
  obtain ⟨fd_Form_word_for, F0_Form_word_for⟩ := c.t.d.def_ 56 (d := dd_Form_word_for) rfl
  have F_Form_word_for : Fun K "word_for" "Form.word_for" s_Form_word_for (He.ma K (He.ga K "Form") "word_for") fd_Form_word_for := fun_of F0_Form_word_for
  have k_Form_word_for := F_Form_word_for.kp
  have m0_Form_word_for : Meth K C "word_for" (He.ma K (He.ga K "Form") "word_for") := by
    rw [← e_C]
    exact He.meth_ok (c.t.d.fact 72 (f := .meth "Form" "word_for") rfl)
  have a_Form_word_for := m0_Form_word_for.1
  have i_Form_word_for := m0_Form_word_for.2
  have b_Form_word_for := F_Form_word_for.binds (ps := ["self", "number"]) fun _ _ _ _ _ _ us hl => match us, hl with | [_, _], _ => rfl
  obtain ⟨fd_Form_ended, F0_Form_ended⟩ := c.t.d.def_ 57 (d := dd_Form_ended) rfl
  have F_Form_ended : Fun K "ended" "Form.ended" s_Form_ended (He.ma K (He.ga K "Form") "ended") fd_Form_ended := fun_of F0_Form_ended
  have k_Form_ended := F_Form_ended.kp
  have m0_Form_ended : Meth K C "ended" (He.ma K (He.ga K "Form") "ended") := by
    rw [← e_C]
    exact He.meth_ok (c.t.d.fact 73 (f := .meth "Form" "ended") rfl)
  have a_Form_ended := m0_Form_ended.1
  have i_Form_ended := m0_Form_ended.2
  have b_Form_ended := F_Form_ended.binds (ps := ["self", "number"]) fun _ _ _ _ _ _ us hl => match us, hl with | [_, _], _ => rfl
  obtain ⟨fd_Form_kept_at, F0_Form_kept_at⟩ := c.t.d.def_ 58 (d := dd_Form_kept_at) rfl
  have F_Form_kept_at : Fun K "kept_at" "Form.kept_at" s_Form_kept_at (He.ma K (He.ga K "Form") "kept_at") fd_Form_kept_at := fun_of F0_Form_kept_at
  have k_Form_kept_at := F_Form_kept_at.kp
  have m0_Form_kept_at : Meth K C "kept_at" (He.ma K (He.ga K "Form") "kept_at") := by
    rw [← e_C]
    exact He.meth_ok (c.t.d.fact 74 (f := .meth "Form" "kept_at") rfl)
  have a_Form_kept_at := m0_Form_kept_at.1
  have i_Form_kept_at := m0_Form_kept_at.2
  have b_Form_kept_at := F_Form_kept_at.binds (ps := ["self", "number", "point"]) fun _ _ _ _ _ _ us hl => match us, hl with | [_, _, _], _ => rfl
  obtain ⟨fd_Net_forms, F0_Net_forms⟩ := c.t.d.def_ 59 (d := dd_Net_forms) rfl
  have F_Net_forms : Fun K "forms" "Net.forms" s_Net_forms (He.ma K (He.ga K "Net") "forms") fd_Net_forms := fun_of F0_Net_forms
  have k_Net_forms := F_Net_forms.kp
  have m0_Net_forms : Meth K CN "forms" (He.ma K (He.ga K "Net") "forms") := by
    rw [← e_CN]
    exact He.meth_ok (c.t.d.fact 75 (f := .meth "Net" "forms") rfl)
  have a_Net_forms := m0_Net_forms.1
  have i_Net_forms := m0_Net_forms.2
  have b_Net_forms := F_Net_forms.binds (ps := ["self"]) fun _ _ _ _ _ _ us hl => match us, hl with | [_], _ => rfl
  obtain ⟨fd_Net_rows, F0_Net_rows⟩ := c.t.d.def_ 60 (d := dd_Net_rows) rfl
  have F_Net_rows : Fun K "rows" "Net.rows" s_Net_rows (He.ma K (He.ga K "Net") "rows") fd_Net_rows := fun_of F0_Net_rows
  have k_Net_rows := F_Net_rows.kp
  have m0_Net_rows : Meth K CN "rows" (He.ma K (He.ga K "Net") "rows") := by
    rw [← e_CN]
    exact He.meth_ok (c.t.d.fact 76 (f := .meth "Net" "rows") rfl)
  have a_Net_rows := m0_Net_rows.1
  have i_Net_rows := m0_Net_rows.2
  have b_Net_rows := F_Net_rows.binds (ps := ["self"]) fun _ _ _ _ _ _ us hl => match us, hl with | [_], _ => rfl
  obtain ⟨fd_Net_holds, F0_Net_holds⟩ := c.t.d.def_ 61 (d := dd_Net_holds) rfl
  have F_Net_holds : Fun K "holds" "Net.holds" s_Net_holds (He.ma K (He.ga K "Net") "holds") fd_Net_holds := fun_of F0_Net_holds
  have k_Net_holds := F_Net_holds.kp
  have m0_Net_holds : Meth K CN "holds" (He.ma K (He.ga K "Net") "holds") := by
    rw [← e_CN]
    exact He.meth_ok (c.t.d.fact 77 (f := .meth "Net" "holds") rfl)
  have a_Net_holds := m0_Net_holds.1
  have i_Net_holds := m0_Net_holds.2
  have b_Net_holds := F_Net_holds.binds (ps := ["self"]) fun _ _ _ _ _ _ us hl => match us, hl with | [_], _ => rfl
  obtain ⟨fd_Net_points, F0_Net_points⟩ := c.t.d.def_ 62 (d := dd_Net_points) rfl
  have F_Net_points : Fun K "points" "Net.points" s_Net_points (He.ma K (He.ga K "Net") "points") fd_Net_points := fun_of F0_Net_points
  have k_Net_points := F_Net_points.kp
  have m0_Net_points : Meth K CN "points" (He.ma K (He.ga K "Net") "points") := by
    rw [← e_CN]
    exact He.meth_ok (c.t.d.fact 78 (f := .meth "Net" "points") rfl)
  have a_Net_points := m0_Net_points.1
  have i_Net_points := m0_Net_points.2
  have b_Net_points := F_Net_points.binds (ps := ["self"]) fun _ _ _ _ _ _ us hl => match us, hl with | [_], _ => rfl
  obtain ⟨fd_Net_enters, F0_Net_enters⟩ := c.t.d.def_ 63 (d := dd_Net_enters) rfl
  have F_Net_enters : Fun K "enters" "Net.enters" s_Net_enters (He.ma K (He.ga K "Net") "enters") fd_Net_enters := fun_of F0_Net_enters
  have k_Net_enters := F_Net_enters.kp
  have m0_Net_enters : Meth K CN "enters" (He.ma K (He.ga K "Net") "enters") := by
    rw [← e_CN]
    exact He.meth_ok (c.t.d.fact 79 (f := .meth "Net" "enters") rfl)
  have a_Net_enters := m0_Net_enters.1
  have i_Net_enters := m0_Net_enters.2
  have b_Net_enters := F_Net_enters.binds (ps := ["self"]) fun _ _ _ _ _ _ us hl => match us, hl with | [_], _ => rfl
  obtain ⟨fd_Net_keeps, F0_Net_keeps⟩ := c.t.d.def_ 64 (d := dd_Net_keeps) rfl
  have F_Net_keeps : Fun K "keeps" "Net.keeps" s_Net_keeps (He.ma K (He.ga K "Net") "keeps") fd_Net_keeps := fun_of F0_Net_keeps
  have k_Net_keeps := F_Net_keeps.kp
  have m0_Net_keeps : Meth K CN "keeps" (He.ma K (He.ga K "Net") "keeps") := by
    rw [← e_CN]
    exact He.meth_ok (c.t.d.fact 80 (f := .meth "Net" "keeps") rfl)
  have a_Net_keeps := m0_Net_keeps.1
  have i_Net_keeps := m0_Net_keeps.2
  have b_Net_keeps := F_Net_keeps.binds (ps := ["self"]) fun _ _ _ _ _ _ us hl => match us, hl with | [_], _ => rfl
  obtain ⟨fd_Net_start, F0_Net_start⟩ := c.t.d.def_ 65 (d := dd_Net_start) rfl
  have F_Net_start : Fun K "start" "Net.start" s_Net_start (He.ma K (He.ga K "Net") "start") fd_Net_start := fun_of F0_Net_start
  have k_Net_start := F_Net_start.kp
  have m0_Net_start : Meth K CN "start" (He.ma K (He.ga K "Net") "start") := by
    rw [← e_CN]
    exact He.meth_ok (c.t.d.fact 81 (f := .meth "Net" "start") rfl)
  have a_Net_start := m0_Net_start.1
  have i_Net_start := m0_Net_start.2
  have b_Net_start := F_Net_start.binds (ps := ["self"]) fun _ _ _ _ _ _ us hl => match us, hl with | [_], _ => rfl
  obtain ⟨fd_Net_out, F0_Net_out⟩ := c.t.d.def_ 66 (d := dd_Net_out) rfl
  have F_Net_out : Fun K "out" "Net.out" s_Net_out (He.ma K (He.ga K "Net") "out") fd_Net_out := fun_of F0_Net_out
  have k_Net_out := F_Net_out.kp
  have m0_Net_out : Meth K CN "out" (He.ma K (He.ga K "Net") "out") := by
    rw [← e_CN]
    exact He.meth_ok (c.t.d.fact 82 (f := .meth "Net" "out") rfl)
  have a_Net_out := m0_Net_out.1
  have i_Net_out := m0_Net_out.2
  have b_Net_out := F_Net_out.binds (ps := ["self"]) fun _ _ _ _ _ _ us hl => match us, hl with | [_], _ => rfl
  obtain ⟨fd_Net___init__, F0_Net___init__⟩ := c.t.d.def_ 67 (d := dd_Net___init__) rfl
  have F_Net___init__ : Fun K "__init__" "Net.__init__" s_Net___init__ (He.ma K (He.ga K "Net") "__init__") fd_Net___init__ := fun_of F0_Net___init__
  have k_Net___init__ := F_Net___init__.kp
  have m0_Net___init__ : Meth K CN "__init__" (He.ma K (He.ga K "Net") "__init__") := by
    rw [← e_CN]
    exact He.meth_ok (c.t.d.fact 83 (f := .meth "Net" "__init__") rfl)
  have a_Net___init__ := m0_Net___init__.1
  have i_Net___init__ := m0_Net___init__.2
  have b_Net___init__ := F_Net___init__.binds (ps := ["self", "forms", "enters", "rows", "holds", "out"]) fun _ _ _ _ _ _ us hl => match us, hl with | [_, _, _, _, _, _], _ => rfl
  have aC_CM : PySem.W.nsIn K mainGlobals "Machine" = some (some (.ref CM)) := by
    rw [← e_CM]
    exact He.eqO_ok (c.t.d.fact 84 (f := .glo "Machine") rfl)
  have cl_CM : Cls K CM := by
    rw [← e_CM]
    exact He.cls_ok (c.t.d.fact 85 (f := .cls "Machine") rfl)
  have pg_CM := cl_CM.1
  have hd_CM := cl_CM.2
  have po_CM := cl_CM.3
  have sa_CM := cl_CM.4
  have mk0_CM : Mk K CM (He.ma K (He.ga K "Machine") "__init__") := by
    rw [← e_CM]
    exact He.mkr_ok (c.t.d.fact 86 (f := .mkr "Machine") rfl)
  have mk_CM := mk0_CM.1
  have kc_CM := mk0_CM.4
  have n_CM_first : NoAttr K CM "first" := by
    rw [← e_CM]
    exact He.noat_ok (c.t.d.fact 87 (f := .noat "Machine" "first") rfl)
  have n_CM_net : NoAttr K CM "net" := by
    rw [← e_CM]
    exact He.noat_ok (c.t.d.fact 88 (f := .noat "Machine" "net") rfl)
  have n_CM_past : NoAttr K CM "past" := by
    rw [← e_CM]
    exact He.noat_ok (c.t.d.fact 89 (f := .noat "Machine" "past") rfl)
  obtain ⟨fd_Machine_turn, F0_Machine_turn⟩ := c.t.d.def_ 68 (d := dd_Machine_turn) rfl
  have F_Machine_turn : Fun K "turn" "Machine.turn" s_Machine_turn (He.ma K (He.ga K "Machine") "turn") fd_Machine_turn := fun_of F0_Machine_turn
  have k_Machine_turn := F_Machine_turn.kp
  have m0_Machine_turn : Meth K CM "turn" (He.ma K (He.ga K "Machine") "turn") := by
    rw [← e_CM]
    exact He.meth_ok (c.t.d.fact 90 (f := .meth "Machine" "turn") rfl)
  have a_Machine_turn := m0_Machine_turn.1
  have i_Machine_turn := m0_Machine_turn.2
  have b_Machine_turn := F_Machine_turn.binds (ps := ["self", "word"]) fun _ _ _ _ _ _ us hl => match us, hl with | [_, _], _ => rfl
  obtain ⟨fd_Machine_turns, F0_Machine_turns⟩ := c.t.d.def_ 69 (d := dd_Machine_turns) rfl
  have F_Machine_turns : Fun K "turns" "Machine.turns" s_Machine_turns (He.ma K (He.ga K "Machine") "turns") fd_Machine_turns := fun_of F0_Machine_turns
  have k_Machine_turns := F_Machine_turns.kp
  have m0_Machine_turns : Meth K CM "turns" (He.ma K (He.ga K "Machine") "turns") := by
    rw [← e_CM]
    exact He.meth_ok (c.t.d.fact 91 (f := .meth "Machine" "turns") rfl)
  have a_Machine_turns := m0_Machine_turns.1
  have i_Machine_turns := m0_Machine_turns.2
  have b_Machine_turns := F_Machine_turns.binds (ps := ["self"]) fun _ _ _ _ _ _ us hl => match us, hl with | [_], _ => rfl
  obtain ⟨fd_Machine_state, F0_Machine_state⟩ := c.t.d.def_ 70 (d := dd_Machine_state) rfl
  have F_Machine_state : Fun K "state" "Machine.state" s_Machine_state (He.ma K (He.ga K "Machine") "state") fd_Machine_state := fun_of F0_Machine_state
  have k_Machine_state := F_Machine_state.kp
  have m0_Machine_state : Meth K CM "state" (He.ma K (He.ga K "Machine") "state") := by
    rw [← e_CM]
    exact He.meth_ok (c.t.d.fact 92 (f := .meth "Machine" "state") rfl)
  have a_Machine_state := m0_Machine_state.1
  have i_Machine_state := m0_Machine_state.2
  have b_Machine_state := F_Machine_state.binds (ps := ["self"]) fun _ _ _ _ _ _ us hl => match us, hl with | [_], _ => rfl
  obtain ⟨fd_Machine_went, F0_Machine_went⟩ := c.t.d.def_ 71 (d := dd_Machine_went) rfl
  have F_Machine_went : Fun K "went" "Machine.went" s_Machine_went (He.ma K (He.ga K "Machine") "went") fd_Machine_went := fun_of F0_Machine_went
  have k_Machine_went := F_Machine_went.kp
  have m0_Machine_went : Meth K CM "went" (He.ma K (He.ga K "Machine") "went") := by
    rw [← e_CM]
    exact He.meth_ok (c.t.d.fact 93 (f := .meth "Machine" "went") rfl)
  have a_Machine_went := m0_Machine_went.1
  have i_Machine_went := m0_Machine_went.2
  have b_Machine_went := F_Machine_went.binds (ps := ["self"]) fun _ _ _ _ _ _ us hl => match us, hl with | [_], _ => rfl
  obtain ⟨fd_Machine_overs, F0_Machine_overs⟩ := c.t.d.def_ 72 (d := dd_Machine_overs) rfl
  have F_Machine_overs : Fun K "overs" "Machine.overs" s_Machine_overs (He.ma K (He.ga K "Machine") "overs") fd_Machine_overs := fun_of F0_Machine_overs
  have k_Machine_overs := F_Machine_overs.kp
  have m0_Machine_overs : Meth K CM "overs" (He.ma K (He.ga K "Machine") "overs") := by
    rw [← e_CM]
    exact He.meth_ok (c.t.d.fact 94 (f := .meth "Machine" "overs") rfl)
  have a_Machine_overs := m0_Machine_overs.1
  have i_Machine_overs := m0_Machine_overs.2
  have b_Machine_overs := F_Machine_overs.binds (ps := ["self"]) fun _ _ _ _ _ _ us hl => match us, hl with | [_], _ => rfl
  obtain ⟨fd_Machine___init__, F0_Machine___init__⟩ := c.t.d.def_ 73 (d := dd_Machine___init__) rfl
  have F_Machine___init__ : FunD K "__init__" "Machine.__init__" (defArgs s_Machine___init__) (defBody s_Machine___init__) (defScope s_Machine___init__) [V.non] [] (He.ma K (He.ga K "Machine") "__init__") fd_Machine___init__ := F0_Machine___init__
  have k_Machine___init__ := F_Machine___init__.kp
  have m0_Machine___init__ : Meth K CM "__init__" (He.ma K (He.ga K "Machine") "__init__") := by
    rw [← e_CM]
    exact He.meth_ok (c.t.d.fact 95 (f := .meth "Machine" "__init__") rfl)
  have a_Machine___init__ := m0_Machine___init__.1
  have i_Machine___init__ := m0_Machine___init__.2
  obtain ⟨ds_Mach2, dv_Mach2, b_Mach2⟩ := F_Machine___init__.binds1 (ps := ["self", "net", "state"]) 2 0 (by simp) rfl fun _ _ _ _ _ _ _ us its h1 h2 => match us, its, h1, h2 with | [_, _], [_], _, _ => ⟨_, rfl, rfl⟩
  have a_overs_machines : PySem.W.nsIn K mainGlobals "overs_machines" = some (some (.ref (He.ga K "overs"))) := of_decide_eq_true (ex_at c.more (i := 0) (b := decide (PySem.W.nsIn K mainGlobals "overs_machines" = some (some (.ref (He.ga K "overs"))))) rfl)
  obtain ⟨fd_Form___init__, F0_Form___init__⟩ := c.t.d.def_ 74 (d := dd_Form___init__) rfl
  have F_Form___init__ : FunD K "__init__" "Form.__init__" (defArgs s_Form___init__) (defBody s_Form___init__) (defScope s_Form___init__) [V.non, V.int 0, V.str "half", V.str "wrap"] [] (He.ma K (He.ga K "Form") "__init__") fd_Form___init__ := F0_Form___init__
  have k_Form___init__ := F_Form___init__.kp
  have m0_Form___init__ : Meth K C "__init__" (He.ma K (He.ga K "Form") "__init__") := by
    rw [← e_C]
    exact He.meth_ok (c.t.d.fact 96 (f := .meth "Form" "__init__") rfl)
  have a_Form___init__ := m0_Form___init__.1
  have i_Form___init__ := m0_Form___init__.2
  obtain ⟨ds_Form4, dv_Form4, b_Form4⟩ := F_Form___init__.binds1 (ps := ["self", "width", "point", "manner", "ends"]) 5 4 (by simp) rfl fun _ _ _ _ _ _ _ us its h1 h2 => match us, its, h1, h2 with | [_, _, _, _, _], [_, _, _, _], _, _ => ⟨_, rfl, rfl⟩
  cases dv_Form4
  obtain ⟨tk_LEAST_WIDTH_forms, gm_LEAST_WIDTH_forms⟩ := He.int_ok X G (c.t.d.fact 97 (f := .int "LEAST_WIDTH_forms" 2) rfl)
  obtain ⟨tk_LEAST_WIDTH_taps, gm_LEAST_WIDTH_taps⟩ := He.int_ok X G (c.t.d.fact 98 (f := .int "LEAST_WIDTH_taps" 2) rfl)
  obtain ⟨tk_MOST_TAPS, gm_MOST_TAPS⟩ := He.int_ok X G (c.t.d.fact 99 (f := .int "MOST_TAPS" 40) rfl)
  obtain ⟨tk_NUMBER_END, gm_NUMBER_END⟩ := He.int_ok X G (c.t.d.fact 100 (f := .int "NUMBER_END" 1000000000000000000) rfl)
  obtain ⟨tk_GREATEST_WIDTH, gm_GREATEST_WIDTH⟩ := He.int_ok X G (c.t.d.fact 101 (f := .int "GREATEST_WIDTH" 64) rfl)
  obtain ⟨tk_GREATEST_POINT, gm_GREATEST_POINT⟩ := He.int_ok X G (c.t.d.fact 102 (f := .int "GREATEST_POINT" 64) rfl)
  obtain ⟨tk_MOST_FORMS, gm_MOST_FORMS⟩ := He.int_ok X G (c.t.d.fact 103 (f := .int "MOST_FORMS" 12) rfl)
  obtain ⟨tk_MOST_ROWS, gm_MOST_ROWS⟩ := He.int_ok X G (c.t.d.fact 104 (f := .int "MOST_ROWS" 60) rfl)
  obtain ⟨tk_MOST_HOLDS, gm_MOST_HOLDS⟩ := He.int_ok X G (c.t.d.fact 105 (f := .int "MOST_HOLDS" 6) rfl)
  obtain ⟨tk_FACTOR_END, gm_FACTOR_END⟩ := He.int_ok X G (c.t.d.fact 106 (f := .int "FACTOR_END" 9223372036854775808) rfl)
  obtain ⟨tk_GREATEST_SHIFT, gm_GREATEST_SHIFT⟩ := He.int_ok X G (c.t.d.fact 107 (f := .int "GREATEST_SHIFT" 64) rfl)
  obtain ⟨tk_GREATEST_ROW_POINT, gm_GREATEST_ROW_POINT⟩ := He.int_ok X G (c.t.d.fact 108 (f := .int "GREATEST_ROW_POINT" 200) rfl)
  have gm_ENDS : mg "ENDS" = some (.ref A_ENDS) := by
    rw [← e_A_ENDS]
    exact He.glo_ok X G (c.t.d.fact 109 (f := .glo "ENDS") rfl)
  have T_ENDS : ∀ H, SqT K H A_ENDS [V.str "wrap", V.str "stop"] := by
    rw [← e_A_ENDS]
    exact fun H => He.tupB_ok (ex_at c.more (i := 1) (b := He.tupB K "ENDS" [.str "wrap", .str "stop"]) rfl) H
  have gm_MANNERS : mg "MANNERS" = some (.ref A_MANNERS) := by
    rw [← e_A_MANNERS]
    exact He.glo_ok X G (c.t.d.fact 110 (f := .glo "MANNERS") rfl)
  obtain ⟨es_MANNERS, dn_MANNERS, KD_MANNERS⟩ := c.t.tab 0 (t := (fun K => He.ga K "MANNERS", ["down", "up", "in", "out", "half", "even", "far"])) rfl
  replace KD_MANNERS : KDict K w A_MANNERS es_MANNERS dn_MANNERS := by
    rw [← e_A_MANNERS]
    exact KD_MANNERS
  have d_MANNERS_down : PySem.W.nsIn K (He.ga K "MANNERS") "down" = some (some (.ref (He.ga K "downward"))) := of_decide_eq_true (ex_at c.more (i := 2) (b := decide (PySem.W.nsIn K (He.ga K "MANNERS") "down" = some (some (.ref (He.ga K "downward"))))) rfl)
  rw [e_A_MANNERS] at d_MANNERS_down
  have d_MANNERS_up : PySem.W.nsIn K (He.ga K "MANNERS") "up" = some (some (.ref (He.ga K "upward"))) := of_decide_eq_true (ex_at c.more (i := 3) (b := decide (PySem.W.nsIn K (He.ga K "MANNERS") "up" = some (some (.ref (He.ga K "upward"))))) rfl)
  rw [e_A_MANNERS] at d_MANNERS_up
  have d_MANNERS_in : PySem.W.nsIn K (He.ga K "MANNERS") "in" = some (some (.ref (He.ga K "inward"))) := of_decide_eq_true (ex_at c.more (i := 4) (b := decide (PySem.W.nsIn K (He.ga K "MANNERS") "in" = some (some (.ref (He.ga K "inward"))))) rfl)
  rw [e_A_MANNERS] at d_MANNERS_in
  have d_MANNERS_out : PySem.W.nsIn K (He.ga K "MANNERS") "out" = some (some (.ref (He.ga K "outward"))) := of_decide_eq_true (ex_at c.more (i := 5) (b := decide (PySem.W.nsIn K (He.ga K "MANNERS") "out" = some (some (.ref (He.ga K "outward"))))) rfl)
  rw [e_A_MANNERS] at d_MANNERS_out
  have d_MANNERS_half : PySem.W.nsIn K (He.ga K "MANNERS") "half" = some (some (.ref (He.ga K "nearest_greater"))) := of_decide_eq_true (ex_at c.more (i := 6) (b := decide (PySem.W.nsIn K (He.ga K "MANNERS") "half" = some (some (.ref (He.ga K "nearest_greater"))))) rfl)
  rw [e_A_MANNERS] at d_MANNERS_half
  have d_MANNERS_even : PySem.W.nsIn K (He.ga K "MANNERS") "even" = some (some (.ref (He.ga K "nearest_even"))) := of_decide_eq_true (ex_at c.more (i := 7) (b := decide (PySem.W.nsIn K (He.ga K "MANNERS") "even" = some (some (.ref (He.ga K "nearest_even"))))) rfl)
  rw [e_A_MANNERS] at d_MANNERS_even
  have d_MANNERS_far : PySem.W.nsIn K (He.ga K "MANNERS") "far" = some (some (.ref (He.ga K "nearest_far"))) := of_decide_eq_true (ex_at c.more (i := 8) (b := decide (PySem.W.nsIn K (He.ga K "MANNERS") "far" = some (some (.ref (He.ga K "nearest_far"))))) rfl)
  rw [e_A_MANNERS] at d_MANNERS_far
  have gm_POINT_RULES : mg "POINT_RULES" = some (.ref A_POINT_RULES) := by
    rw [← e_A_POINT_RULES]
    exact He.glo_ok X G (c.t.d.fact 111 (f := .glo "POINT_RULES") rfl)
  obtain ⟨es_POINT_RULES, dn_POINT_RULES, KD_POINT_RULES⟩ := c.t.tab 1 (t := (fun K => He.ga K "POINT_RULES", ["in", "old", "times", "plus", "less", "move", "keep"])) rfl
  replace KD_POINT_RULES : KDict K w A_POINT_RULES es_POINT_RULES dn_POINT_RULES := by
    rw [← e_A_POINT_RULES]
    exact KD_POINT_RULES
  have d_POINT_RULES_in : PySem.W.nsIn K (He.ga K "POINT_RULES") "in" = some (some (.ref (He.ga K "in_point"))) := of_decide_eq_true (ex_at c.more (i := 9) (b := decide (PySem.W.nsIn K (He.ga K "POINT_RULES") "in" = some (some (.ref (He.ga K "in_point"))))) rfl)
  rw [e_A_POINT_RULES] at d_POINT_RULES_in
  have d_POINT_RULES_old : PySem.W.nsIn K (He.ga K "POINT_RULES") "old" = some (some (.ref (He.ga K "old_point"))) := of_decide_eq_true (ex_at c.more (i := 10) (b := decide (PySem.W.nsIn K (He.ga K "POINT_RULES") "old" = some (some (.ref (He.ga K "old_point"))))) rfl)
  rw [e_A_POINT_RULES] at d_POINT_RULES_old
  have d_POINT_RULES_times : PySem.W.nsIn K (He.ga K "POINT_RULES") "times" = some (some (.ref (He.ga K "times_point"))) := of_decide_eq_true (ex_at c.more (i := 11) (b := decide (PySem.W.nsIn K (He.ga K "POINT_RULES") "times" = some (some (.ref (He.ga K "times_point"))))) rfl)
  rw [e_A_POINT_RULES] at d_POINT_RULES_times
  have d_POINT_RULES_plus : PySem.W.nsIn K (He.ga K "POINT_RULES") "plus" = some (some (.ref (He.ga K "sum_point"))) := of_decide_eq_true (ex_at c.more (i := 12) (b := decide (PySem.W.nsIn K (He.ga K "POINT_RULES") "plus" = some (some (.ref (He.ga K "sum_point"))))) rfl)
  rw [e_A_POINT_RULES] at d_POINT_RULES_plus
  have d_POINT_RULES_less : PySem.W.nsIn K (He.ga K "POINT_RULES") "less" = some (some (.ref (He.ga K "sum_point"))) := of_decide_eq_true (ex_at c.more (i := 13) (b := decide (PySem.W.nsIn K (He.ga K "POINT_RULES") "less" = some (some (.ref (He.ga K "sum_point"))))) rfl)
  rw [e_A_POINT_RULES] at d_POINT_RULES_less
  have d_POINT_RULES_move : PySem.W.nsIn K (He.ga K "POINT_RULES") "move" = some (some (.ref (He.ga K "move_point"))) := of_decide_eq_true (ex_at c.more (i := 14) (b := decide (PySem.W.nsIn K (He.ga K "POINT_RULES") "move" = some (some (.ref (He.ga K "move_point"))))) rfl)
  rw [e_A_POINT_RULES] at d_POINT_RULES_move
  have d_POINT_RULES_keep : PySem.W.nsIn K (He.ga K "POINT_RULES") "keep" = some (some (.ref (He.ga K "keep_point"))) := of_decide_eq_true (ex_at c.more (i := 15) (b := decide (PySem.W.nsIn K (He.ga K "POINT_RULES") "keep" = some (some (.ref (He.ga K "keep_point"))))) rfl)
  rw [e_A_POINT_RULES] at d_POINT_RULES_keep
  have gm_ROW_LENGTHS : mg "ROW_LENGTHS" = some (.ref A_ROW_LENGTHS) := by
    rw [← e_A_ROW_LENGTHS]
    exact He.glo_ok X G (c.t.d.fact 112 (f := .glo "ROW_LENGTHS") rfl)
  obtain ⟨es_ROW_LENGTHS, dn_ROW_LENGTHS, KD_ROW_LENGTHS⟩ := c.t.tab 2 (t := (fun K => He.ga K "ROW_LENGTHS", ["in", "old", "times", "plus", "less", "move", "keep"])) rfl
  replace KD_ROW_LENGTHS : KDict K w A_ROW_LENGTHS es_ROW_LENGTHS dn_ROW_LENGTHS := by
    rw [← e_A_ROW_LENGTHS]
    exact KD_ROW_LENGTHS
  obtain ⟨tk_ROW_LENGTHS_in, d_ROW_LENGTHS_in⟩ : ∃ t, PySem.W.nsIn K A_ROW_LENGTHS "in" = some (some (.int 1 t)) := by
    rw [← e_A_ROW_LENGTHS]
    exact val_int (i := 0) (ex_at c.more (i := 16) (b := He.valsB K (He.ga K "ROW_LENGTHS") [("in", .int 1), ("old", .int 2), ("times", .int 4), ("plus", .int 3), ("less", .int 3), ("move", .int 3), ("keep", .int 3)]) rfl) rfl
  obtain ⟨tk_ROW_LENGTHS_old, d_ROW_LENGTHS_old⟩ : ∃ t, PySem.W.nsIn K A_ROW_LENGTHS "old" = some (some (.int 2 t)) := by
    rw [← e_A_ROW_LENGTHS]
    exact val_int (i := 1) (ex_at c.more (i := 16) (b := He.valsB K (He.ga K "ROW_LENGTHS") [("in", .int 1), ("old", .int 2), ("times", .int 4), ("plus", .int 3), ("less", .int 3), ("move", .int 3), ("keep", .int 3)]) rfl) rfl
  obtain ⟨tk_ROW_LENGTHS_times, d_ROW_LENGTHS_times⟩ : ∃ t, PySem.W.nsIn K A_ROW_LENGTHS "times" = some (some (.int 4 t)) := by
    rw [← e_A_ROW_LENGTHS]
    exact val_int (i := 2) (ex_at c.more (i := 16) (b := He.valsB K (He.ga K "ROW_LENGTHS") [("in", .int 1), ("old", .int 2), ("times", .int 4), ("plus", .int 3), ("less", .int 3), ("move", .int 3), ("keep", .int 3)]) rfl) rfl
  obtain ⟨tk_ROW_LENGTHS_plus, d_ROW_LENGTHS_plus⟩ : ∃ t, PySem.W.nsIn K A_ROW_LENGTHS "plus" = some (some (.int 3 t)) := by
    rw [← e_A_ROW_LENGTHS]
    exact val_int (i := 3) (ex_at c.more (i := 16) (b := He.valsB K (He.ga K "ROW_LENGTHS") [("in", .int 1), ("old", .int 2), ("times", .int 4), ("plus", .int 3), ("less", .int 3), ("move", .int 3), ("keep", .int 3)]) rfl) rfl
  obtain ⟨tk_ROW_LENGTHS_less, d_ROW_LENGTHS_less⟩ : ∃ t, PySem.W.nsIn K A_ROW_LENGTHS "less" = some (some (.int 3 t)) := by
    rw [← e_A_ROW_LENGTHS]
    exact val_int (i := 4) (ex_at c.more (i := 16) (b := He.valsB K (He.ga K "ROW_LENGTHS") [("in", .int 1), ("old", .int 2), ("times", .int 4), ("plus", .int 3), ("less", .int 3), ("move", .int 3), ("keep", .int 3)]) rfl) rfl
  obtain ⟨tk_ROW_LENGTHS_move, d_ROW_LENGTHS_move⟩ : ∃ t, PySem.W.nsIn K A_ROW_LENGTHS "move" = some (some (.int 3 t)) := by
    rw [← e_A_ROW_LENGTHS]
    exact val_int (i := 5) (ex_at c.more (i := 16) (b := He.valsB K (He.ga K "ROW_LENGTHS") [("in", .int 1), ("old", .int 2), ("times", .int 4), ("plus", .int 3), ("less", .int 3), ("move", .int 3), ("keep", .int 3)]) rfl) rfl
  obtain ⟨tk_ROW_LENGTHS_keep, d_ROW_LENGTHS_keep⟩ : ∃ t, PySem.W.nsIn K A_ROW_LENGTHS "keep" = some (some (.int 3 t)) := by
    rw [← e_A_ROW_LENGTHS]
    exact val_int (i := 6) (ex_at c.more (i := 16) (b := He.valsB K (He.ga K "ROW_LENGTHS") [("in", .int 1), ("old", .int 2), ("times", .int 4), ("plus", .int 3), ("less", .int 3), ("move", .int 3), ("keep", .int 3)]) rfl) rfl
  have fx_ha : PySem.W.findIn K (.ref (He.ga K "Form")) "__class__" = some (some (.builtin "object.__class__")) := of_decide_eq_true (ex_at c.more (i := 17) (b := decide (PySem.W.findIn K (.ref (He.ga K "Form")) "__class__" = some (some (.builtin "object.__class__")))) rfl)
  rw [e_C] at fx_ha
  have fx_hn : PySem.W.specialIn K (.builtin "object.__class__") "__get__" = some (some (.builtin "getset_descriptor.__get__")) := of_decide_eq_true (ex_at c.more (i := 18) (b := decide (PySem.W.specialIn K (.builtin "object.__class__") "__get__" = some (some (.builtin "getset_descriptor.__get__")))) rfl)
  have fx_ht : PySem.W.takesIn K (.builtin "object.__class__") = some true := of_decide_eq_true (ex_at c.more (i := 19) (b := decide (PySem.W.takesIn K (.builtin "object.__class__") = some true)) rfl)
  have fx_hm : PySem.W.mroIn K (He.ga K "Form") (.type "object") = some true := of_decide_eq_true (ex_at c.more (i := 20) (b := decide (PySem.W.mroIn K (He.ga K "Form") (.type "object") = some true)) rfl)
  rw [e_C] at fx_hm
  have fx_kC : PySem.W.kitOne K (.ref (He.ga K "Form")) (.ref (He.ga K "Form")) = some true := of_decide_eq_true (ex_at c.more (i := 21) (b := decide (PySem.W.kitOne K (.ref (He.ga K "Form")) (.ref (He.ga K "Form")) = some true)) rfl)
  rw [e_C] at fx_kC
  have zf_isinstance : mg "isinstance" = none := He.free_ok X G (c.t.d.fact 113 (f := .free "isinstance") rfl)
  have zf_int : mg "int" = none := He.free_ok X G (c.t.d.fact 114 (f := .free "int") rfl)
  have zf_bool : mg "bool" = none := He.free_ok X G (c.t.d.fact 115 (f := .free "bool") rfl)
  have zf_abs : mg "abs" = none := He.free_ok X G (c.t.d.fact 116 (f := .free "abs") rfl)
  have zf_str : mg "str" = none := He.free_ok X G (c.t.d.fact 117 (f := .free "str") rfl)
  have zf_len : mg "len" = none := He.free_ok X G (c.t.d.fact 118 (f := .free "len") rfl)
  have zf_max : mg "max" = none := He.free_ok X G (c.t.d.fact 119 (f := .free "max") rfl)
  have zf_tuple : mg "tuple" = none := He.free_ok X G (c.t.d.fact 120 (f := .free "tuple") rfl)
  have zf_list : mg "list" = none := He.free_ok X G (c.t.d.fact 121 (f := .free "list") rfl)
  have zf_enumerate : mg "enumerate" = none := He.free_ok X G (c.t.d.fact 122 (f := .free "enumerate") rfl)
  have zf_all : mg "all" = none := He.free_ok X G (c.t.d.fact 123 (f := .free "all") rfl)
  have zf_sum : mg "sum" = none := He.free_ok X G (c.t.d.fact 124 (f := .free "sum") rfl)
  have zf_zip : mg "zip" = none := He.free_ok X G (c.t.d.fact 125 (f := .free "zip") rfl)
  have zf_range : mg "range" = none := He.free_ok X G (c.t.d.fact 126 (f := .free "range") rfl)

  have z : Zs mg := ⟨zf_isinstance, zf_int, zf_bool, zf_abs, zf_str, zf_len, zf_max, zf_tuple, zf_list, zf_enumerate, zf_all, zf_sum, zf_zip, zf_range⟩
  have e := hfa.symm.trans (PySem.W.mg_of X G a_law)
  cases e
  have FL_law : FunD K "law" "law" (defArgs s_law) (defBody s_law) (defScope s_law) [] [] (He.ga K "law") fd_law := F0_law
  have bl := FunD.bindsA (ps := ["_law_script"]) FL_law fun _ _ _ _ _ _ us hl => match us, hl with | [_], _ => rfl
  refine ⟨_, fun s v => bl s [v] rfl, fun base _ _ => ?_⟩
  have c_is_whole : Cal l.prog w K mg base 1 "is_whole" ["thing"] _ := ⟨_, _, PySem.W.mg_of X G a_is_whole, k_is_whole, b_is_whole, ok_is_whole (k := 0) F_is_whole z⟩
  have c_downward : Cal l.prog w K mg base 1 "downward" ["top", "bottom"] _ := ⟨_, _, PySem.W.mg_of X G a_downward, k_downward, b_downward, ok_downward (k := 0) F_downward⟩
  have c_upward : Cal l.prog w K mg base 1 "upward" ["top", "bottom"] _ := ⟨_, _, PySem.W.mg_of X G a_upward, k_upward, b_upward, ok_upward (k := 0) F_upward⟩
  have c_nearest_greater : Cal l.prog w K mg base 1 "nearest_greater" ["top", "bottom"] _ := ⟨_, _, PySem.W.mg_of X G a_nearest_greater, k_nearest_greater, b_nearest_greater, ok_nearest_greater (k := 0) F_nearest_greater⟩
  have MM : Mans l.prog w K mg base A_MANNERS es_MANNERS dn_MANNERS := ⟨gm_MANNERS, KD_MANNERS, fun m => match m with
    | .down => ⟨_, _, d_MANNERS_down, k_downward, b_downward, ok_downward (k := 1) F_downward⟩
    | .up => ⟨_, _, d_MANNERS_up, k_upward, b_upward, ok_upward (k := 1) F_upward⟩
    | .inn => ⟨_, _, d_MANNERS_in, k_inward, b_inward, ok_inward F_inward c_downward c_upward⟩
    | .out => ⟨_, _, d_MANNERS_out, k_outward, b_outward, ok_outward F_outward c_downward c_upward⟩
    | .half => ⟨_, _, d_MANNERS_half, k_nearest_greater, b_nearest_greater, ok_nearest_greater (k := 1) F_nearest_greater⟩
    | .even => ⟨_, _, d_MANNERS_even, k_nearest_even, b_nearest_even, ok_nearest_even F_nearest_even c_nearest_greater⟩
    | .far => ⟨_, _, d_MANNERS_far, k_nearest_far, b_nearest_far, ok_nearest_far F_nearest_far c_nearest_greater⟩⟩
  have c_is_manner : Cal l.prog w K mg base 1 "is_manner" ["thing"] _ := ⟨_, _, PySem.W.mg_of X G a_is_manner, k_is_manner, b_is_manner, ok_is_manner (k := 0) MM F_is_manner z⟩
  have c_rounded : Cal l.prog w K mg base 3 "rounded" ["value", "manner"] _ := ⟨_, _, PySem.W.mg_of X G a_rounded, k_rounded, b_rounded, ok_rounded MM F_rounded c_is_manner⟩
  have Z : FCst K mg A_ENDS := ⟨⟨_, gm_LEAST_WIDTH_forms⟩, ⟨_, gm_GREATEST_WIDTH⟩, ⟨_, gm_GREATEST_POINT⟩, gm_ENDS, T_ENDS⟩
  have NC : NCst mg := ⟨⟨_, gm_FACTOR_END⟩, ⟨_, gm_GREATEST_SHIFT⟩, ⟨_, gm_GREATEST_ROW_POINT⟩, ⟨_, gm_MOST_FORMS⟩, ⟨_, gm_MOST_ROWS⟩, ⟨_, gm_MOST_HOLDS⟩⟩
  have c_is_width : Cal l.prog w K mg base 2 "is_width" ["thing"] _ := ⟨_, _, PySem.W.mg_of X G a_is_width, k_is_width, b_is_width, ok_is_width Z F_is_width c_is_whole⟩
  have c_is_point : Cal l.prog w K mg base 2 "is_point" ["thing"] _ := ⟨_, _, PySem.W.mg_of X G a_is_point, k_is_point, b_is_point, ok_is_point Z F_is_point z c_is_whole⟩
  have c_is_ends : Cal l.prog w K mg base 1 "is_ends" ["thing"] _ := ⟨_, _, PySem.W.mg_of X G a_is_ends, k_is_ends, b_is_ends, ok_is_ends (k := 0) Z F_is_ends z⟩
  have T : FTxt K mg C := ⟨⟨pg_C, hd_C, po_C, sa_C⟩, n_C_width, n_C_point, n_C_manner, n_C_ends⟩
  have TN : NTxt K mg CN := ⟨⟨pg_CN, hd_CN, po_CN, sa_CN⟩, n_CN_form_list, n_CN_enters_at, n_CN_row_list, n_CN_hold_list, n_CN_out_at, n_CN_point_list⟩
  have FC : FX K mg C := ⟨PySem.W.mg_of X G aC_C, fx_ha, fx_hn, fx_ht, fx_hm, fx_kC⟩
  have IC : IsC K mg C := ⟨PySem.W.mg_of X G aC_C, fx_ha, fx_hn, fx_ht, fx_hm, fx_kC⟩
  have c_Form_4 : CalC l.prog w K mg base 3 "Form" C ["self", "width", "point", "manner", "ends"] [] _ := ⟨_, _, _, ⟨mk_C, a_Form___init__, i_Form___init__, kc_C⟩, PySem.W.mg_of X G aC_C, .nil, b_Form4, ok_Form___init__ T F_Form___init__ c_is_width c_is_point c_is_manner c_is_ends⟩
  have m_least : CalM l.prog w K mg base 1 C "least" ["self"] _ := ⟨_, _, ⟨a_Form_least, i_Form_least, k_Form_least⟩, b_Form_least, ok_Form_least (k := 0) T F_Form_least⟩
  have m_greatest : CalM l.prog w K mg base 1 C "greatest" ["self"] _ := ⟨_, _, ⟨a_Form_greatest, i_Form_greatest, k_Form_greatest⟩, b_Form_greatest, ok_Form_greatest (k := 0) T F_Form_greatest⟩
  have m_has : CalM l.prog w K mg base 2 C "has" ["self", "thing"] _ := ⟨_, _, ⟨a_Form_has, i_Form_has, k_Form_has⟩, b_Form_has, ok_Form_has T F_Form_has c_is_whole m_least m_greatest⟩
  have m_word_for : CalM l.prog w K mg base 3 C "word_for" ["self", "number"] _ := ⟨_, _, ⟨a_Form_word_for, i_Form_word_for, k_Form_word_for⟩, b_Form_word_for, ok_Form_word_for T F_Form_word_for m_has m_least m_greatest⟩
  have m_ended : CalM l.prog w K mg base 4 C "ended" ["self", "number"] _ := ⟨_, _, ⟨a_Form_ended, i_Form_ended, k_Form_ended⟩, b_Form_ended, ok_Form_ended T F_Form_ended m_word_for⟩
  have m_kept_at : CalM l.prog w K mg base 5 C "kept_at" ["self", "number", "point"] _ := ⟨_, _, ⟨a_Form_kept_at, i_Form_kept_at, k_Form_kept_at⟩, b_Form_kept_at, ok_Form_kept_at T F_Form_kept_at c_rounded m_ended⟩
  have c_is_place : Cal l.prog w K mg base 2 "is_place" ["thing", "many"] _ := ⟨_, _, PySem.W.mg_of X G a_is_place, k_is_place, b_is_place, ok_is_place F_is_place c_is_whole⟩
  have c_is_factor : Cal l.prog w K mg base 2 "is_factor" ["thing"] _ := ⟨_, _, PySem.W.mg_of X G a_is_factor, k_is_factor, b_is_factor, ok_is_factor NC F_is_factor z c_is_whole⟩
  have RU : Ruls l.prog w K mg base A_POINT_RULES es_POINT_RULES dn_POINT_RULES := ⟨gm_POINT_RULES, KD_POINT_RULES, fun k => match k with
    | .inn => ⟨_, _, d_POINT_RULES_in, k_in_point, b_in_point, ok_in_point F_in_point⟩
    | .old => ⟨_, _, d_POINT_RULES_old, k_old_point, b_old_point, ok_old_point z c_is_place F_old_point⟩
    | .times => ⟨_, _, d_POINT_RULES_times, k_times_point, b_times_point, ok_times_point NC z c_is_factor c_is_place F_times_point⟩
    | .plus => ⟨_, _, d_POINT_RULES_plus, k_sum_point, b_sum_point, ok_sum_point_plus z c_is_place F_sum_point⟩
    | .less => ⟨_, _, d_POINT_RULES_less, k_sum_point, b_sum_point, ok_sum_point_less z c_is_place F_sum_point⟩
    | .move => ⟨_, _, d_POINT_RULES_move, k_move_point, b_move_point, ok_move_point NC z c_is_whole c_is_place F_move_point⟩
    | .keep => ⟨_, _, d_POINT_RULES_keep, k_keep_point, b_keep_point, ok_keep_point z c_is_place F_keep_point⟩⟩
  have LE : Lens w K mg A_ROW_LENGTHS es_ROW_LENGTHS dn_ROW_LENGTHS := ⟨gm_ROW_LENGTHS, KD_ROW_LENGTHS, fun k => match k with
    | .inn => ⟨_, d_ROW_LENGTHS_in⟩
    | .old => ⟨_, d_ROW_LENGTHS_old⟩
    | .times => ⟨_, d_ROW_LENGTHS_times⟩
    | .plus => ⟨_, d_ROW_LENGTHS_plus⟩
    | .less => ⟨_, d_ROW_LENGTHS_less⟩
    | .move => ⟨_, d_ROW_LENGTHS_move⟩
    | .keep => ⟨_, d_ROW_LENGTHS_keep⟩⟩
  have c_is_written_as_row : Cal l.prog w K mg base 1 "is_written_as_row" ["thing"] _ := ⟨_, _, PySem.W.mg_of X G a_is_written_as_row, k_is_written_as_row, b_is_written_as_row, ok_is_written_as_row (k := 0) LE F_is_written_as_row z⟩
  have c_row_point : Cal l.prog w K mg base 4 "row_point" ["row", "points", "given"] _ := ⟨_, _, PySem.W.mg_of X G a_row_point, k_row_point, b_row_point, ok_row_point RU NC F_row_point z c_is_written_as_row⟩
  have c_check_length : Cal l.prog w K mg base 1 "check_length" ["thing", "part", "least", "most"] _ := ⟨_, _, PySem.W.mg_of X G a_check_length, k_check_length, b_check_length, ok_check_length (k := 0) F_check_length z⟩
  have c_check_forms : Cal l.prog w K mg base 2 "check_forms" ["forms"] _ := ⟨_, _, PySem.W.mg_of X G a_check_forms, k_check_forms, b_check_forms, ok_check_forms T IC NC F_check_forms z c_check_length⟩
  have c_is_hold : Cal l.prog w K mg base 3 "is_hold" ["thing", "forms"] _ := ⟨_, _, PySem.W.mg_of X G a_is_hold, k_is_hold, b_is_hold, ok_is_hold T F_is_hold z c_is_place m_has⟩
  have c_check_holds : Cal l.prog w K mg base 4 "check_holds" ["holds", "forms"] _ := ⟨_, _, PySem.W.mg_of X G a_check_holds, k_check_holds, b_check_holds, ok_check_holds NC F_check_holds z c_check_length c_is_hold⟩
  have c_checked_points : Cal l.prog w K mg base 5 "checked_points" ["rows", "given"] _ := ⟨_, _, PySem.W.mg_of X G a_checked_points, k_checked_points, b_checked_points, ok_checked_points NC F_checked_points z c_check_length c_row_point⟩
  have c_check_links : Cal l.prog w K mg base 3 "check_links" ["holds", "rows"] _ := ⟨_, _, PySem.W.mg_of X G a_check_links, k_check_links, b_check_links, ok_check_links F_check_links z c_is_place⟩
  have c_Net_5 : CalC l.prog w K mg base 6 "Net" CN ["self", "forms", "enters", "rows", "holds", "out"] [] _ := ⟨_, _, _, ⟨mk_CN, a_Net___init__, i_Net___init__, kc_CN⟩, PySem.W.mg_of X G aC_CN, .nil, b_Net___init__, ok_Net___init__ T TN F_Net___init__ z c_check_forms c_is_place c_check_holds c_checked_points c_check_links⟩
  have n_forms : CalM l.prog w K mg base 1 CN "forms" ["self"] _ := ⟨_, _, ⟨a_Net_forms, i_Net_forms, k_Net_forms⟩, b_Net_forms, ok_Net_forms (C := C) (k := 0) TN F_Net_forms z⟩
  have n_rows : CalM l.prog w K mg base 1 CN "rows" ["self"] _ := ⟨_, _, ⟨a_Net_rows, i_Net_rows, k_Net_rows⟩, b_Net_rows, ok_Net_rows (C := C) (k := 0) TN F_Net_rows z⟩
  have n_holds : CalM l.prog w K mg base 1 CN "holds" ["self"] _ := ⟨_, _, ⟨a_Net_holds, i_Net_holds, k_Net_holds⟩, b_Net_holds, ok_Net_holds (C := C) (k := 0) TN F_Net_holds z⟩
  have n_points : CalM l.prog w K mg base 1 CN "points" ["self"] _ := ⟨_, _, ⟨a_Net_points, i_Net_points, k_Net_points⟩, b_Net_points, ok_Net_points (C := C) (k := 0) TN F_Net_points z⟩
  have n_enters : CalM l.prog w K mg base 1 CN "enters" ["self"] _ := ⟨_, _, ⟨a_Net_enters, i_Net_enters, k_Net_enters⟩, b_Net_enters, ok_Net_enters (C := C) (k := 0) TN F_Net_enters⟩
  have c_enter_form : Cal l.prog w K mg base 2 "enter_form" ["net"] _ := ⟨_, _, PySem.W.mg_of X G a_enter_form, k_enter_form, b_enter_form, ok_enter_form TN F_enter_form n_forms n_enters⟩
  have c_sum_number : Cal l.prog w K mg base 1 "sum_number" ["row", "numbers", "points"] _ := ⟨_, _, PySem.W.mg_of X G a_sum_number, k_sum_number, b_sum_number, ok_sum_number (k := 0) F_sum_number z⟩
  have okR := ok_number_of_row (base := base) (P := l.prog) (w := w) T F_number_of_row m_kept_at c_sum_number
  have c_swept : Cal l.prog w K mg base 7 "swept" ["net", "heard", "held", "rule"] _ := ⟨_, _, PySem.W.mg_of X G a_swept, k_swept, b_swept, ok_swept okR k_number_of_row b_number_of_row TN F_swept n_forms n_points n_rows⟩
  have c_is_state : Cal l.prog w K mg base 3 "is_state" ["net", "thing"] _ := ⟨_, _, PySem.W.mg_of X G a_is_state, k_is_state, b_is_state, ok_is_state T TN F_is_state z n_forms n_holds m_has⟩
  have c_check_state : Cal l.prog w K mg base 4 "check_state" ["net", "state"] _ := ⟨_, _, PySem.W.mg_of X G a_check_state, k_check_state, b_check_state, ok_check_state F_check_state c_is_state⟩
  have c_check_word : Cal l.prog w K mg base 3 "check_word" ["net", "word"] _ := ⟨_, _, PySem.W.mg_of X G a_check_word, k_check_word, b_check_word, ok_check_word T F_check_word c_enter_form m_has⟩
  have c_state_behind : Cal l.prog w K mg base 2 "state_behind" ["net", "numbers"] _ := ⟨_, _, PySem.W.mg_of X G a_state_behind, k_state_behind, b_state_behind, ok_state_behind TN F_state_behind z n_holds⟩
  have c_turn_of : Cal l.prog w K mg base 8 "turn_of" ["net", "state", "word"] _ := ⟨_, _, PySem.W.mg_of X G a_turn_of, k_turn_of, b_turn_of, ok_turn_of (PySem.W.mg_of X G a_number_of_row) F_turn_of c_swept c_state_behind⟩
  have n_start : CalM l.prog w K mg base 1 CN "start" ["self"] _ := ⟨_, _, ⟨a_Net_start, i_Net_start, k_Net_start⟩, b_Net_start, ok_Net_start (C := C) (k := 0) TN F_Net_start z⟩
  have n_out : CalM l.prog w K mg base 1 CN "out" ["self"] _ := ⟨_, _, ⟨a_Net_out, i_Net_out, k_Net_out⟩, b_Net_out, ok_Net_out (C := C) (k := 0) TN F_Net_out⟩
  have c_first_state : Cal l.prog w K mg base 5 "first_state" ["net", "state"] _ := ⟨_, _, PySem.W.mg_of X G a_first_state, k_first_state, b_first_state, ok_first_state TN F_first_state n_start c_check_state⟩
  have n_keeps : CalM l.prog w K mg base 1 CN "keeps" ["self"] _ := ⟨_, _, ⟨a_Net_keeps, i_Net_keeps, k_Net_keeps⟩, b_Net_keeps, ok_Net_keeps (C := C) (k := 0) TN F_Net_keeps z⟩
  have c_went_over : Cal l.prog w K mg base 6 "went_over" ["net", "row", "numbers"] _ := ⟨_, _, PySem.W.mg_of X G a_went_over, k_went_over, b_went_over, ok_went_over T TN F_went_over n_forms n_rows n_points m_kept_at⟩
  have c_overs_machines : Cal l.prog w K mg base 7 "overs_machines" ["net", "numbers"] _ := ⟨_, _, PySem.W.mg_of X G a_overs_machines, k_overs, b_overs, ok_overs TN F_overs n_keeps c_went_over⟩
  have TM : MTxt K mg CM := ⟨⟨pg_CM, hd_CM, po_CM, sa_CM⟩, n_CM_first, n_CM_net, n_CM_past⟩
  have x_turns : CalM l.prog w K mg base 1 CM "turns" ["self"] _ := ⟨_, _, ⟨a_Machine_turns, i_Machine_turns, k_Machine_turns⟩, b_Machine_turns, ok_Machine_turns (C := C) (CN := CN) (k := 0) TM F_Machine_turns z⟩
  have x_went : CalM l.prog w K mg base 1 CM "went" ["self"] _ := ⟨_, _, ⟨a_Machine_went, i_Machine_went, k_Machine_went⟩, b_Machine_went, ok_Machine_went (C := C) (CN := CN) (k := 0) TM F_Machine_went z⟩
  have x_overs : CalM l.prog w K mg base 1 CM "overs" ["self"] _ := ⟨_, _, ⟨a_Machine_overs, i_Machine_overs, k_Machine_overs⟩, b_Machine_overs, ok_Machine_overs (C := C) (CN := CN) (k := 0) TM F_Machine_overs z⟩
  have x_state : CalM l.prog w K mg base 1 CM "state" ["self"] _ := ⟨_, _, ⟨a_Machine_state, i_Machine_state, k_Machine_state⟩, b_Machine_state, ok_Machine_state (C := C) (CN := CN) (k := 0) TM F_Machine_state⟩
  have x_turn : CalM l.prog w K mg base 9 CM "turn" ["self", "word"] _ := ⟨_, _, ⟨a_Machine_turn, i_Machine_turn, k_Machine_turn⟩, b_Machine_turn, ok_Machine_turn TN TM F_Machine_turn n_out x_state c_check_word c_turn_of c_overs_machines⟩
  have c_Machine_1 : CalC l.prog w K mg base 6 "Machine" CM ["self", "net", "state"] [V.non] _ := ⟨_, _, _, ⟨mk_CM, a_Machine___init__, i_Machine___init__, kc_CM⟩, PySem.W.mg_of X G aC_CM, dv_Mach2, b_Mach2, ok_Machine___init__ TM F_Machine___init__ c_first_state⟩
  have c__law_cell_at : Cal l.prog w K mg base 1 "_law_cell_at" ["_law_script", "_law_k"] _ := ⟨_, _, PySem.W.mg_of X G a__law_cell_at, k__law_cell_at, b__law_cell_at, ok_cell (k := 0) F__law_cell_at z.len⟩
  have c__law_well : Cal l.prog w K mg base 1 "_law_well" ["_law_cell"] _ := ⟨_, _, PySem.W.mg_of X G a__law_well, k__law_well, b__law_well, ok_well (k := 0) F__law_well z.int⟩
  have c__law_draw : Cal l.prog w K mg base 1 "_law_draw" ["_law_well_here", "_law_many"] _ := ⟨_, _, PySem.W.mg_of X G a__law_draw, k__law_draw, b__law_draw, ok_draw (k := 0) F__law_draw⟩
  have c_is_numbers : Cal l.prog w K mg base 2 "is_numbers" ["thing", "least", "most"] _ := ⟨_, _, PySem.W.mg_of X G a_is_numbers, k_is_numbers, b_is_numbers, ok_is_numbers F_is_numbers z _ gm_NUMBER_END c_is_whole⟩
  have c_dot : Cal l.prog w K mg base 1 "dot" ["numbers", "others"] _ := ⟨_, _, PySem.W.mg_of X G a_dot, k_dot, b_dot, ok_dot (k := 0) F_dot z⟩
  have c_check_taps : Cal l.prog w K mg base 3 "check_taps" ["taps"] _ := ⟨_, _, PySem.W.mg_of X G a_check_taps, k_check_taps, b_check_taps, ok_check_taps F_check_taps _ gm_MOST_TAPS c_is_numbers⟩
  have c_extremes : Cal l.prog w K mg base 4 "extremes" ["taps", "low", "high"] _ := ⟨_, _, PySem.W.mg_of X G a_extremes, k_extremes, b_extremes, ok_extremes F_extremes z c_is_whole c_check_taps c_dot⟩
  have c_width_for : Cal l.prog w K mg base 1 "width_for" ["number"] _ := ⟨_, _, PySem.W.mg_of X G a_width_for, k_width_for, b_width_for, ok_width_for (k := 0) F_width_for z _ gm_LEAST_WIDTH_taps⟩
  have c_guard : Cal l.prog w K mg base 5 "guard" ["taps", "form"] _ := ⟨_, _, PySem.W.mg_of X G a_guard, k_guard, b_guard, ok_guard T FC F_guard z _ gm_LEAST_WIDTH_taps c_check_taps c_extremes c_width_for m_least m_greatest⟩
  have c__law_word : Cal l.prog w K mg base 2 "_law_word" ["_law_well_here", "_law_low", "_law_high"] _ := ⟨_, _, PySem.W.mg_of X G a__law_word, k__law_word, b__law_word, ok__law_word F__law_word c__law_draw⟩
  have c__law_net : Cal l.prog w K mg base 8 "_law_net" ["_law_taps", "_law_width", "_law_form"] _ := ⟨_, _, PySem.W.mg_of X G a__law_net, k__law_net, b__law_net, ok__law_net F__law_net z c_Form_4 c_Net_5⟩
  exact ok_law T TN TM F_law z c__law_cell_at c__law_well c__law_draw c__law_word c__law_net c_guard c_Form_4 c_Machine_1 m_least m_greatest x_turns x_went x_overs x_turn

end E1

namespace HX
open PySem PySem.W PySem.Calls PyProof.Rows
abbrev RR : OpenRow := OpenLaw.row PySem.Challenge.rw_echobound_k83_whole_no_sum_goes_over
abbrev qv : Program := view RR.prog [96]
def names_0 : List PySem.Str := [("_wall" : PySem.Str), ("__name__" : PySem.Str), ("EchoError" : PySem.Str), ("NoFraction" : PySem.Str), ("BadState" : PySem.Str), ("NoChoice" : PySem.Str), ("BadForm" : PySem.Str), ("Unfit" : PySem.Str), ("BadNet" : PySem.Str), ("GREATEST_POWER" : PySem.Str), ("is_whole" : PySem.Str), ("shared_divisor" : PySem.Str), ("lowest" : PySem.Str), ("times" : PySem.Str), ("divided" : PySem.Str), ("two_to" : PySem.Str), ("downward" : PySem.Str), ("upward" : PySem.Str), ("inward" : PySem.Str), ("outward" : PySem.Str)]
def names_1 : List PySem.Str := [("nearest_greater" : PySem.Str), ("nearest_even" : PySem.Str), ("nearest_far" : PySem.Str), ("MANNERS" : PySem.Str), ("is_manner" : PySem.Str), ("rounded" : PySem.Str), ("LEAST_WIDTH_forms" : PySem.Str), ("GREATEST_WIDTH" : PySem.Str), ("GREATEST_POINT" : PySem.Str), ("ENDS" : PySem.Str), ("is_width" : PySem.Str), ("is_point" : PySem.Str), ("is_ends" : PySem.Str), ("Form" : PySem.Str), ("MOST_FORMS" : PySem.Str), ("MOST_ROWS" : PySem.Str), ("MOST_HOLDS" : PySem.Str), ("FACTOR_END" : PySem.Str), ("GREATEST_SHIFT" : PySem.Str), ("GREATEST_ROW_POINT" : PySem.Str)]
def names_2 : List PySem.Str := [("ROW_LENGTHS" : PySem.Str), ("is_place" : PySem.Str), ("is_factor" : PySem.Str), ("in_point" : PySem.Str), ("old_point" : PySem.Str), ("times_point" : PySem.Str), ("sum_point" : PySem.Str), ("move_point" : PySem.Str), ("keep_point" : PySem.Str), ("POINT_RULES" : PySem.Str), ("is_written_as_row" : PySem.Str), ("row_point" : PySem.Str), ("check_length" : PySem.Str), ("check_forms" : PySem.Str), ("is_hold" : PySem.Str), ("check_holds" : PySem.Str), ("checked_points" : PySem.Str), ("check_links" : PySem.Str), ("Net" : PySem.Str), ("enter_form" : PySem.Str)]
def names_3 : List PySem.Str := [("swept" : PySem.Str), ("NUMBER_END" : PySem.Str), ("is_numbers" : PySem.Str), ("dot" : PySem.Str), ("MOST_TAPS" : PySem.Str), ("LEAST_WIDTH_taps" : PySem.Str), ("check_taps" : PySem.Str), ("extremes" : PySem.Str), ("width_for" : PySem.Str), ("guard" : PySem.Str), ("is_state" : PySem.Str), ("check_state" : PySem.Str), ("check_word" : PySem.Str), ("first_state" : PySem.Str), ("sum_number" : PySem.Str), ("number_of_row" : PySem.Str), ("state_behind" : PySem.Str), ("turn_of" : PySem.Str), ("went_over" : PySem.Str), ("overs" : PySem.Str)]
def names_4 : List PySem.Str := [("overs_machines" : PySem.Str), ("Machine" : PySem.Str), ("_law_cell_at" : PySem.Str), ("_law_well" : PySem.Str), ("_law_draw" : PySem.Str), ("_law_net" : PySem.Str), ("_law_word" : PySem.Str)]
def names : List PySem.Str := names_0 ++ (names_1 ++ (names_2 ++ (names_3 ++ (names_4))))
def AS_0 : List Addr := [3, 6, 4, 21, 31, 44, 56, 68, 89, 111, 133, 142, 149, 156, 163, 170, 177, 184, 191, 198, 205, 212, 219, 226, 227, 234, 242, 243, 250, 257]
def AS_1 : List Addr := [264, 401, 406, 413, 420, 427, 434, 441, 448, 455, 462, 463, 470, 477, 484, 491, 498, 505, 512, 519, 614, 625, 632, 637, 642, 649, 654, 661, 668, 673]
def AS_2 : List Addr := [680, 687, 694, 701, 708, 713, 720, 727, 732, 805, 816, 823, 830, 835, 842, 847, 0, 20, 30, 43, 55, 67, 88, 110, 132, 141, 148, 155, 162, 169]
def AS_3 : List Addr := [176, 183, 190, 197, 204, 211, 218, 225, 233, 241, 235, 249, 256, 263, 400, 412, 419, 426, 433, 440, 447, 454, 461, 469, 476, 483, 490, 497, 504, 511]
def AS_4 : List Addr := [518, 613, 624, 631, 636, 641, 648, 653, 660, 667, 672, 679, 686, 693, 700, 707, 712, 719, 726, 731, 804, 815, 822, 829, 834, 841, 846, 19, 86, 108]
def AS_5 : List Addr := [130, 140, 147, 154, 161, 168, 175, 182, 189, 196, 203, 210, 217, 224, 232, 240, 248, 255, 262, 279, 286, 293, 300, 307, 314, 321, 328, 335, 342, 349]
def AS_6 : List Addr := [356, 363, 370, 377, 384, 391, 398, 411, 418, 425, 432, 439, 446, 453, 460, 468, 475, 482, 489, 496, 503, 510, 517, 531, 538, 545, 552, 559, 566, 573]
def AS_7 : List Addr := [578, 583, 590, 597, 604, 611, 623, 630, 635, 640, 647, 652, 659, 666, 671, 678, 685, 692, 699, 706, 711, 718, 725, 730, 747, 754, 761, 768, 775, 782]
def AS_8 : List Addr := [787, 795, 802, 814, 821, 828, 833, 840, 845, 85, 107, 100, 129, 122, 278, 272, 285, 292, 299, 306, 313, 320, 327, 334, 341, 348, 355, 362, 369, 376]
def AS_9 : List Addr := [383, 390, 397, 530, 537, 544, 551, 558, 565, 572, 577, 582, 589, 596, 603, 610, 746, 740, 753, 760, 767, 774, 781, 786, 794, 788, 801, 84, 106, 128]
def AS_10 : List Addr := [277, 284, 291, 298, 305, 312, 319, 326, 333, 340, 347, 354, 361, 368, 375, 382, 389, 396, 529, 536, 543, 550, 557, 564, 571, 576, 581, 588, 595, 602]
def AS_11 : List Addr := [609, 745, 752, 759, 766, 773, 780, 785, 793, 800]
def AS : List Addr := AS_0 ++ (AS_1 ++ (AS_2 ++ (AS_3 ++ (AS_4 ++ (AS_5 ++ (AS_6 ++ (AS_7 ++ (AS_8 ++ (AS_9 ++ (AS_10 ++ (AS_11)))))))))))
abbrev hk : PySem.W.Hook := E1.hookY AS E1.FA E1.FN E1.TS E1.EXB
def ob (s : PySem.W.SharedT) : E1.AlY := E1.obsY AS E1.FA E1.FN E1.TS E1.EXB (HandSHeadRun.getT s)
theorem ob_eq (s : PySem.W.SharedT) : ob s = hk.obs s.abs := E1.obsY_eq (HandSHeadRun.getT_eq s)
set_option maxRecDepth 100000 in
set_option maxHeartbeats 0 in
theorem run_f (w : World) : HandSHeadRun.RunEq RR qv hk ob 5938 names (w.withFollow "special-get-raises" false) := fun os => by kernel_rfl
set_option maxRecDepth 100000 in
set_option maxHeartbeats 0 in
theorem run_t (w : World) : HandSHeadRun.RunEq RR qv hk ob 5938 names (w.withFollow "special-get-raises" true) := fun os => by kernel_rfl
theorem run (w : World) : HandSHeadRun.RunEq RR qv hk ob 5938 names w :=
  byRow2 "special-get-raises" (P := fun w => HandSHeadRun.RunEq RR qv hk ob 5938 names w) run_f run_t w
end HX
open PySem PySem.W PySem.Calls PyProof.Rows
set_option maxRecDepth 100000 in
set_option maxHeartbeats 0 in
theorem PySem.Challenge.cw_echobound_k83_whole_no_sum_goes_over_holds : PySem.Challenge.rw_echobound_k83_whole_no_sum_goes_over.Holds := by
  w_on; o_law
  refine HandSHeadRun.head_any (r := OpenLaw.row PySem.Challenge.rw_echobound_k83_whole_no_sum_goes_over) (q := HX.qv) (H := HX.hk) (ob := HX.ob) (M := 5938) (loose := HX.names) (d := HandSHeadRun.topDef (OpenLaw.row PySem.Challenge.rw_echobound_k83_whole_no_sum_goes_over).prog 96) (kwd := []) HX.ob_eq (by kernel_rfl) (fun s => by kernel_rfl) HX.run (by kernel_rfl) (by kernel_rfl) (by kernel_rfl) (by rfl) (by first | assumption | decide +kernel) (by decide +kernel) ⟨rfl, rfl, rfl, rfl, rfl, by decide +kernel⟩ ?hw ?hc
  case hw => w_witness2
  case hc =>
    refine L2.walk_ofE (l := PySem.Challenge.rw_echobound_k83_whole_no_sum_goes_over) (n := 63) (k := 10) (x := "_law_script") (CX := L2.CX0) rfl (by decide) (by kernel_rfl) ⟨rfl, by decide, by decide⟩ ?F (fun _ _ _ _ z => z)
    intro w mg fa h Y G hmg0
    obtain ⟨K, KX, c⟩ := Y
    have hmg : mg ("law" : PySem.Str) = some (.ref fa) := by
      have e : (HandSHeadRun.topDef (OpenLaw.row PySem.Challenge.rw_echobound_k83_whole_no_sum_goes_over).prog 96).name = ("law" : PySem.Str) := by kernel_rfl
      rw [← e]
      exact hmg0
    obtain ⟨fd, hb, hF⟩ := E1.all_mk (l := PySem.Challenge.rw_echobound_k83_whole_no_sum_goes_over) rfl rfl rfl rfl rfl rfl rfl KX G hmg c
    exact ⟨K, fd, E1.spLaw K, KX, hb, fun H a ns hl _ hS => ⟨a, ns, rfl, hS, hl, fun _ => rfl⟩, hF⟩
