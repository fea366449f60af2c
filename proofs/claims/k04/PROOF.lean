import PyProof.Rows.All
import Wide.All
import OpenK.AllK
import Wide.FinOn
import HandS.Codes
import HandS.ForMost
import HandS.Wide
import HandS.Zip
import HandS.IsInst
import HandS.Defaults
import HandS.Style
import HandS.ForExc
import HandS.Walk
import HandS.More
import HandS.CallLocal
import HandS.WideBits
import KE.BitLaws
import KE.KBits
import HandS.FStr
import PyProof.FitsInt
import HandS.MakeKw
import HandS.Small
import HandS.Text
import HandS.OwnEq
import KE.KCallOwn
import KE.KFmtOwn
import HandS.RaiseMore
import HandS.Conv
import HandS.NoneIn
import KE.RegKSuper
import KE.RegKIsAll
import PySem.Challenge.RW_echobound_k04_forms_made
set_option Elab.async false
set_option linter.all false
set_option maxRecDepth 100000
set_option maxHeartbeats 4000000
set_option pp.maxSteps 1500
namespace E1
open PySem PySem.Spec PyProof.Rows L2
/-! ### a def of the text that is called by its name -/
def Cal (P : Program) (w : World) (K : PySem.W.Frag) (mg : Str → Option Value) (base : Heap) (k : Nat) (x : Str) (ps : List Str) (sp : Sp) : Prop :=
  ∃ (f : Addr) (fd : FuncData), mg x = some (.ref f) ∧ PySem.W.keepIn K (.ref f) = true ∧ Binds K fd ps [] ∧ FnOk P w K mg base CX0 k f fd ps sp
theorem pe_cal {X : Cx} {k j : Nat} {x : Str} {ps : List Str} {sp : Sp} {e : Expr} {es : List Expr} {t : TA} {p pos : Pos} (c : Cal X.prog X.w X.K X.mg X.base k x ps sp) (hr : Room j X.A) (ha : PA X (e :: es) t) (hle : k ≤ j := by decide) (hg : Gl X x := by rfl)
    (hdb : (x == ("__debug__" : Str)) = false := by decide) (he : starEach (e :: es) X.env = (false, eval e X.env) :: starEach es X.env := by rfl) (hpl : (backTo pos (starEach es X.env)).any (·.1) = false := by rfl) :
    PE X (.Call (.Name x p) (e :: es) [] pos) (tCall sp [] E0 t) := by
  obtain ⟨f, fd, h1, h2, h3, h4⟩ := c
  exact pe_call h4 (hr.mono hle) hg h1 h2 h3 .nil pass0 ha hdb he hpl
/-! ### heaps -/
def SameBut (a : Addr) (H H' : Hp) : Prop := ∀ b o, b ≠ a → H b = some o → H' b = some o
theorem SameBut.refl (a : Addr) (H : Hp) : SameBut a H H := fun _ _ _ h => h
theorem SameBut.trans {a : Addr} {H H1 H2 : Hp} (x : SameBut a H H1) (y : SameBut a H1 H2) : SameBut a H H2 := fun b o n h => y b o n (x b o n h)
theorem SameBut.of {a : Addr} {H H' : Hp} (s : Same H H') : SameBut a H H' := fun b o _ h => s b o h
theorem SameBut.upd {a : Addr} {H : Hp} {o : HO} : SameBut a H (upd H a o) := fun b _ n h => by
  rw [upd_ne n]
  exact h
theorem same_new {H : Hp} {p : Addr} {o : HO} (h : H p = none) : Same H (upd H p o) := fun b x e => by
  rw [upd_ne (ne_of_none e h)]
  exact e
theorem Same.tup {K : PySem.W.Frag} {H H' : Hp} {a : Addr} {xs : List V} (e : Same H H') (h : SqT K H a xs) : SqT K H' a xs := by
  rcases h with (h | ⟨o, h⟩) | h
  · exact .inl (.inl (e _ _ h))
  · exact .inl (.inr ⟨o, e _ _ h⟩)
  · exact .inr h
theorem a0 {α : Type} {x : α} {l : List α} : atI (x :: l) 0 = some x := atI_nat (j := 0) rfl
theorem a1 {α : Type} {x y : α} {l : List α} : atI (x :: y :: l) 1 = some y := atI_nat (j := 1) rfl
theorem a2 {α : Type} {x y z : α} {l : List α} : atI (x :: y :: z :: l) 2 = some z := atI_nat (j := 2) rfl
theorem toB {p : Prop} [Decidable p] (h : decide p = true) : p := of_decide_eq_true h
theorem toNB {p : Prop} [Decidable p] (h : ¬ decide p = true) : ¬ p := fun z => h (decide_eq_true z)
/-- a well: the digits left, a number that is mixed, how many were mixed (at most c) -/
def WellAt (H : Hp) (a : Addr) (c : Int) : Prop := ∃ x y z : Int, H a = some (.lst [.int x, .int y, .int z]) ∧ 0 ≤ y ∧ y < 2147483647 ∧ 0 ≤ z ∧ z ≤ c
theorem WellAt.mono {H : Hp} {a : Addr} {c d : Int} (h : WellAt H a c) (l : c ≤ d) : WellAt H a d := by
  obtain ⟨x, y, z, e, h1, h2, h3, h4⟩ := h
  exact ⟨x, y, z, e, h1, h2, h3, by omega⟩
theorem WellAt.same {H H' : Hp} {a : Addr} {c : Int} (h : WellAt H a c) (s : Same H H') : WellAt H' a c := by
  obtain ⟨x, y, z, e, h1, h2, h3, h4⟩ := h
  exact ⟨x, y, z, s _ _ e, h1, h2, h3, h4⟩
theorem WellAt.but {H H' : Hp} {a b : Addr} {c : Int} (h : WellAt H a c) (s : SameBut b H H') (n : a ≠ b) : WellAt H' a c := by
  obtain ⟨x, y, z, e, h1, h2, h3, h4⟩ := h
  exact ⟨x, y, z, s _ _ n e, h1, h2, h3, h4⟩
/-! ### promises of the law's helpers -/
def spCell (K : PySem.W.Frag) : Sp := fun vs H Q _ => ∃ (a : Addr) (ns : List Int) (k : Nat), vs = [.ref a, .int k] ∧ SqL K H a (ns.map V.int) ∧ Q (.int (ns.getD k 0)) H
def spWell : Sp := fun vs H Q _ => ∃ c : Int, vs = [.int c] ∧ ∀ p : Addr, H p = none → ∀ H', Same H H' → WellAt H' p 0 → Q (.ref p) H'
/-- a number from 0 to below m; the well has at most one more -/
def spDraw : Sp := fun vs H Q _ => ∃ (a : Addr) (c m : Int), vs = [.ref a, .int m] ∧ WellAt H a c ∧ c ≤ 1000000000 ∧ 0 < m ∧ m.natAbs < 2 ^ 9000 ∧
  ∀ (r : Int) (H' : Hp), 0 ≤ r → r < m → SameBut a H H' → (∀ b, H b = none → H' b = none) → WellAt H' a (c + 1) → Q (.int r) H'
def topS (i : Nat) : Stmt := PySem.Challenge.pw_echobound_k04_forms_made.main.body.getD i (.Pass ⟨0, 0, 0, 0⟩)
abbrev s__wall : Stmt := topS 0
abbrev s_is_whole : Stmt := topS 7
abbrev s_two_to : Stmt := topS 8
abbrev s_downward : Stmt := topS 10
abbrev s_upward : Stmt := topS 11
abbrev s_inward : Stmt := topS 12
abbrev s_outward : Stmt := topS 13
abbrev s_nearest_greater : Stmt := topS 14
abbrev s_nearest_even : Stmt := topS 15
abbrev s_nearest_far : Stmt := topS 16
abbrev s_is_manner : Stmt := topS 18
abbrev s_is_width : Stmt := topS 25
abbrev s_is_point : Stmt := topS 26
abbrev s_is_ends : Stmt := topS 27
abbrev s__law_cell_at : Stmt := topS 30
abbrev s__law_well : Stmt := topS 31
abbrev s__law_draw : Stmt := topS 32
abbrev s__law_parts : Stmt := topS 33
abbrev s__law_other : Stmt := topS 34
abbrev s__law_two : Stmt := topS 35
abbrev s__law_room : Stmt := topS 36
abbrev s__law_whole : Stmt := topS 37
abbrev s__law_tells : Stmt := topS 38
abbrev s__law_words_right : Stmt := topS 39
abbrev s_law : Stmt := topS 40
section
variable {P : Program} {w : World} {K : PySem.W.Frag} {mg : Str → Option Value} {base : Heap}
theorem sc__law_cell_at : FnScope ["_law_script", "_law_k"] ["_law_script", "_law_k"] (defScope s__law_cell_at) := ⟨rfl, rfl, rfl, by decide +kernel, rfl, by decide +kernel, by decide +kernel⟩
theorem sc__law_well : FnScope ["_law_cell"] ["_law_cell"] (defScope s__law_well) := ⟨rfl, rfl, rfl, by decide +kernel, rfl, by decide +kernel, by decide +kernel⟩
theorem sc__law_draw : FnScope ["_law_well_here", "_law_many", "_law_found", "_law_number"] ["_law_well_here", "_law_many"] (defScope s__law_draw) := ⟨rfl, rfl, rfl, by decide +kernel, rfl, by decide +kernel, by decide +kernel⟩
theorem ok_cell {f : Addr} {fd : FuncData} {k : Nat} (F : Fun K "_law_cell_at" "_law_cell_at" s__law_cell_at f fd) (zl : mg "len" = none) : FnOk P w K mg base CX0 (k + 1) f fd ["_law_script", "_law_k"] (spCell K) := by
  refine F.ok sc__law_cell_at (fun vs H Q E h => ?_) (fun cdv A outer s H vs Q E hr h => ?_)
  · obtain ⟨a, ns, k, rfl, _⟩ := h
    rfl
  · obtain ⟨a, ns, k, rfl, hS, q⟩ := h
    refine ⟨_, (pss_cons (ps_if (pt_cmpR op_lt (pv 1) (pe_callB call_len_seq (by rfl) zl PySem.boot_len (pa_cons (pv 0) pa_nil)) (nomark _)) (pss_one (ps_ret (pe_ix ix_list (pv 0) (pv 1) (fun _ _ => rfl)))) pss_nil)
      (pss_one (ps_ret pe_int))), ?_⟩
    refine ⟨_, rfl, _, rfl, a, _, rfl, .inl hS, _, _, rfl, rfl, _, rfl, ite2 (fun c => ?_) (fun c => ?_)⟩
    · have hk : k < ns.length := by
        have := toB c
        rw [List.length_map] at this
        omega
      refine ⟨_, rfl, _, rfl, a, _, k, .int (ns.getD k 0), rfl, rfl, hS, atI_nat ?_, q⟩
      rw [List.getElem?_map, List.getElem?_eq_getElem hk, List.getD_eq_getElem?_getD, List.getElem?_eq_getElem hk]
      rfl
    · have hk : ¬ k < ns.length := fun z => by
        have := toNB c
        rw [List.length_map] at this
        omega
      have e : ns.getD k 0 = 0 := by
        rw [List.getD_eq_getElem?_getD, List.getElem?_eq_none (by omega)]
        rfl
      rw [e] at q
      exact q
theorem ok_well {f : Addr} {fd : FuncData} {k : Nat} (F : Fun K "_law_well" "_law_well" s__law_well f fd) (zi : mg "int" = none) : FnOk P w K mg base CX0 (k + 1) f fd ["_law_cell"] spWell := by
  refine F.ok sc__law_well (fun vs H Q E h => ?_) (fun cdv A outer s H vs Q E hr h => ?_)
  · obtain ⟨c, rfl, _⟩ := h
    rfl
  · obtain ⟨c, rfl, q⟩ := h
    refine ⟨_, (pss_one (ps_ret (pe_lst (pa_cons (pe_op op_mul (pv 0) (pe_callTy call_int1 (by rfl) zi (by decide +kernel) (pa_cons (pe_cmpR op_ge (pv 0) (pe_op op_pow pe_int pe_int) (nomark _)) pa_nil))) (pa_cons (pe_op op_mod (pv 0) pe_int) (pa_cons pe_int pa_nil)))))), ?_⟩
    refine ⟨_, rfl, _, rfl, _, _, rfl, rfl, ⟨by decide, by decide, by decide⟩, _, _, rfl, rfl, .inr ⟨_, rfl, _, _, rfl, rfl, .inr ?_, ?_⟩⟩
    · split <;> decide
    · refine ⟨_, rfl, _, _, rfl, rfl, (by show (0 : Int) < 2147483647; decide), (by show 3 ≤ sizeLine; decide), fun p hp => ?_⟩
      exact q p hp _ (same_new hp) ⟨_, _, _, upd_same, Int.emod_nonneg _ (by decide), Int.emod_lt_of_pos _ (by decide), Int.le_refl _, Int.le_refl _⟩
theorem ok_draw {f : Addr} {fd : FuncData} {k : Nat} (F : Fun K "_law_draw" "_law_draw" s__law_draw f fd) : FnOk P w K mg base CX0 (k + 1) f fd ["_law_well_here", "_law_many"] spDraw := by
  refine F.ok sc__law_draw (fun vs H Q E h => ?_) (fun cdv A outer s H vs Q E hr h => ?_)
  · obtain ⟨a, c, m, rfl, _⟩ := h
    rfl
  · obtain ⟨a, c, m, rfl, ⟨x, y, z, hw, y0, y1, z0, z1⟩, hc, m0, m1, q⟩ := h
    have fr : ∀ o b, H b = none → (upd H a o) b = none := fun o b hb => by
      rw [upd_ne (fun e => by rw [e, hw] at hb; cases hb)]
      exact hb
    refine ⟨_, (pss_cons (ps_if (pt_cmpR op_gt (pe_ix ix_list (pv 0) pe_int (fun _ _ => rfl)) pe_int (nomark _)) (pss_cons (ps_set (i := 2) sc__law_draw.nd rfl (.inl rfl) (pe_op op_mod (pe_ix ix_list (pv 0) pe_int (fun _ _ => rfl)) (pv 1)))
      (pss_cons (ps_asg (pe_op op_fdivW (pe_ix ix_list (pv 0) pe_int (fun _ _ => rfl)) (pv 1)) (pg_sub (pv 0) pe_int set_list))
      (pss_one (ps_ret (pv 2))))) pss_nil)
      (pss_cons (ps_asg (pe_op op_add (pe_ix ix_list (pv 0) pe_int (fun _ _ => rfl)) pe_int) (pg_sub (pv 0) pe_int set_list))
      (pss_cons (ps_set (i := 3) sc__law_draw.nd rfl (.inl rfl) (pe_op op_mod (pe_op op_pow (pe_op op_add (pe_op op_add (pe_ix ix_list (pv 0) pe_int (fun _ _ => rfl)) (pe_op op_mul pe_int (pe_ix ix_list (pv 0) pe_int (fun _ _ => rfl)))) pe_int) pe_int) pe_int))
      (pss_cons (ps_set (i := 3) sc__law_draw.nd rfl (.inl rfl) (pe_op op_mod (pe_op op_mul (pv 3) (pe_op op_add (pe_op op_fdiv (pv 3) pe_int) pe_int)) pe_int))
      (pss_one (ps_ret (pe_op op_mod (pe_op op_mod (pe_op op_mul (pv 3) (pe_op op_add (pe_op op_fdiv (pv 3) pe_int) pe_int)) pe_int) (pv 1)))))))), ?_⟩
    refine ⟨_, rfl, a, _, 0, .int x, rfl, rfl, SqL.of hw, a0, x, 0, rfl, rfl, _, rfl, ite2 (fun c => ?_) (fun c => ?_)⟩
    · refine ⟨_, rfl, a, _, 0, .int x, rfl, rfl, SqL.of hw, a0, _, rfl, x, m, rfl, rfl, m0, ?_⟩
      refine ⟨_, rfl, a, _, 0, .int x, rfl, rfl, SqL.of hw, a0, _, rfl, x, m, rfl, rfl, wide_div m0 m1 (by decide) (Nat.le_refl _), _, rfl, a, _, 0, 0, rfl, rfl, hw, rfl, ?_⟩
      refine ⟨_, rfl, q _ _ (Int.emod_nonneg _ (by omega)) (Int.emod_lt_of_pos _ m0) SameBut.upd (fr _) ⟨_, _, _, upd_same, y0, y1, z0, by omega⟩⟩
    · refine ⟨_, rfl, a, _, 2, .int z, rfl, rfl, SqL.of hw, a2, z, 1, rfl, rfl, _, rfl, a, _, 2, 2, rfl, rfl, hw, rfl, ?_⟩
      have hw2 : (upd H a (.lst [V.int x, V.int y, V.int (z + 1)])) a = some (.lst [V.int x, V.int y, V.int (z + 1)]) := upd_same
      have n5 : 0 ≤ y + 7919 * (z + 1) + 1 ∧ y + 7919 * (z + 1) + 1 < 18446744073709551616 := by omega
      refine ⟨_, rfl, a, _, 1, .int y, rfl, rfl, SqL.of hw2, a1, _, rfl, a, _, 2, .int (z + 1), rfl, rfl, SqL.of hw2, a2, _, _, rfl, rfl, .inl ⟨by decide, by decide⟩, _, _, rfl, rfl, _, _, rfl, rfl, _, _, rfl, rfl, ⟨by decide, by decide, ?_⟩, _, _, rfl, rfl, (by show (0 : Int) < 2147483647; decide), ?_⟩
      · show (y + 7919 * (z + 1) + 1).natAbs < 18446744073709551616
        omega
      · generalize hn : (y + 7919 * (z + 1) + 1) ^ (5 : Int).toNat % 2147483647 = n
        have n0 : 0 ≤ n := by rw [← hn]; exact Int.emod_nonneg _ (by decide)
        have n1 : n < 2147483647 := by rw [← hn]; exact Int.emod_lt_of_pos _ (by decide)
        refine ⟨_, rfl, _, rfl, _, _, rfl, rfl, ⟨by decide, by decide⟩, _, _, rfl, rfl, _, _, rfl, rfl, .inl ⟨by omega, by omega⟩, _, _, rfl, rfl, (by show (0 : Int) < 2147483629; decide), ?_⟩
        generalize hm : n * (n / 1009 + 69621) % 2147483629 = u
        have u0 : 0 ≤ u := by rw [← hm]; exact Int.emod_nonneg _ (by decide)
        have u1 : u < 2147483629 := by rw [← hm]; exact Int.emod_lt_of_pos _ (by decide)
        refine ⟨_, rfl, _, rfl, _, _, rfl, rfl, ⟨by decide, by decide⟩, _, _, rfl, rfl, _, _, rfl, rfl, .inl ⟨by omega, by omega⟩, _, _, rfl, rfl, (by show (0 : Int) < 2147483587; decide), _, rfl, _, _, rfl, rfl, m0, ?_⟩
        exact q _ _ (Int.emod_nonneg _ (by omega)) (Int.emod_lt_of_pos _ m0) SameBut.upd (fr _) ⟨_, _, _, upd_same, y0, y1, by omega, by omega⟩
end
end E1

namespace E1
open PySem PySem.Spec PyProof.Rows L2

def CalD (P : Program) (w : World) (K : PySem.W.Frag) (mg : Str → Option Value) (base : Heap) (k : Nat) (x : Str) (ps : List Str) (dvs : List V) (sp : Sp) : Prop :=
  ∃ (f : Addr) (fd : FuncData) (ds : List Value), mg x = some (.ref f) ∧ PySem.W.keepIn K (.ref f) = true ∧ Vals dvs ds ∧ Binds K fd ps ds ∧ FnOk P w K mg base CX0 k f fd ps sp
theorem pe_cald {X : Cx} {k j : Nat} {x : Str} {ps : List Str} {dvs : List V} {sp : Sp} {e : Expr} {es : List Expr} {t : TA} {p pos : Pos} (c : CalD X.prog X.w X.K X.mg X.base k x ps dvs sp) (hr : Room j X.A) (ha : PA X (e :: es) t) (hle : k ≤ j := by decide) (hg : Gl X x := by rfl)
    (hdb : (x == ("__debug__" : Str)) = false := by decide) (he : starEach (e :: es) X.env = (false, eval e X.env) :: starEach es X.env := by rfl) (hpl : (backTo pos (starEach es X.env)).any (·.1) = false := by rfl) :
    PE X (.Call (.Name x p) (e :: es) [] pos) (tCall sp dvs E0 t) := by
  obtain ⟨f, fd, ds, h1, h2, hd, h3, h4⟩ := c
  exact pe_call h4 (hr.mono hle) hg h1 h2 h3 hd pass0 ha hdb he hpl
def CalK (P : Program) (w : World) (K : PySem.W.Frag) (mg : Str → Option Value) (base : Heap) (k : Nat) (x : Str) (ps : List Str) (n : Nat) (ks : List Str) (gV : List V → List V → List V) (sp : Sp) : Prop :=
  ∃ (f : Addr) (fd : FuncData) (g : List Value → List Value → List Value), mg x = some (.ref f) ∧ PySem.W.keepIn K (.ref f) = true ∧ KBn K fd ps n ks g gV ∧ FnOk P w K mg base CX0 k f fd ps sp
theorem pe_calk {X : Cx} {k j n : Nat} {x : Str} {ps ks : List Str} {gV : List V → List V → List V} {sp : Sp} {e : Expr} {es : List Expr} {kws : List Keyword} {t tk : TA} {p pos : Pos} (c : CalK X.prog X.w X.K X.mg X.base k x ps n ks gV sp) (hr : Room j X.A)
    (ha : PA X (e :: es) t) (hkw : PK X kws tk) (hle : k ≤ j := by decide) (hg : Gl X x := by rfl) (hall : (backToKw pos (keywordEach kws X.env)).all (·.1.isSome) = true := by rfl) (hks : (backToKw pos (keywordEach kws X.env)).filterMap (·.1) = ks := by rfl)
    (hdb : (x == ("__debug__" : Str)) = false := by decide) (he : starEach (e :: es) X.env = (false, eval e X.env) :: starEach es X.env := by rfl)
    (hpl : ((backTo pos (starEach (e :: es) X.env)).any (·.1) || (backToKw pos (keywordEach kws X.env)).any (·.1.isNone)) = false := by rfl) :
    PE X (.Call (.Name x p) (e :: es) kws pos) (tCallN n ks.length sp gV E0 t tk) := by
  obtain ⟨f, fd, g, h1, h2, h3, h4⟩ := c
  exact pe_callN h4 (hr.mono hle) hg h1 h2 h3 pass0 ha hkw hall hks hdb he hpl
theorem pe_calk0 {X : Cx} {k j : Nat} {x : Str} {ps ks : List Str} {gV : List V → List V → List V} {sp : Sp} {kws : List Keyword} {tk : TA} {p pos : Pos} (c : CalK X.prog X.w X.K X.mg X.base k x ps 0 ks gV sp) (hr : Room j X.A)
    (hkw : PK X kws tk) (hle : k ≤ j := by decide) (hg : Gl X x := by rfl) (hall : (backToKw pos (keywordEach kws X.env)).all (·.1.isSome) = true := by rfl) (hks : (backToKw pos (keywordEach kws X.env)).filterMap (·.1) = ks := by rfl)
    (hdb : (x == ("__debug__" : Str)) = false := by decide)
    (hpl : ((backTo pos (starEach [] X.env)).any (·.1) || (backToKw pos (keywordEach kws X.env)).any (·.1.isNone)) = false := by rfl) :
    PE X (.Call (.Name x p) [] kws pos) (tCallN 0 ks.length sp gV E0 tNil tk) := by
  obtain ⟨f, fd, g, h1, h2, h3, h4⟩ := c
  refine ⟨fun pins s σ H Q I h => ?_⟩
  refine wpAny_Call_Name_kw (ld_glob I hg h1 ?_ hdb)
  refine PySem.W.callWith_KW0 (h₀ := X.base) I.ok.mod.kin h2 hall (thn (hkw.run pos pins s σ H _ I h) fun ws s2 ⟨zs, H2, I2, rz, l1, l2, q2⟩ => ⟨I2.kIn, ?_⟩) hpl
  rw [hks]
  exact run_fnN (vs := []) (us := []) h4 (hr.mono hle) h3 pass0 I2 .nil rz l1 l2 q2
/-- a class handed to isinstance -/
theorem isiB {K : PySem.W.Frag} {H : Hp} {x : V} {a b : String} {r : Bool} {Q : VK} (ty : TyX K H x (.type a)) (k : kitB a b = some r) (q : Q (.bl r) H) : rIsi K [x, .ty b] H Q :=
  ⟨x, .ty b, .type a, .type b, r, rfl, .ty _, ty, kit_ty k, q⟩
/-- whether a thing is a whole number -/
def WholeIs (K : PySem.W.Frag) (H : Hp) (x : V) (b : Bool) : Prop := (∃ i, x = .int i ∧ b = true) ∨ (∃ c, x = .bl c ∧ b = false) ∨ (b = false ∧ ∃ t : String, TyX K H x (.type t) ∧ kitB t "int" = some false) ∨ (b = false ∧ ∃ C : Addr, TyX K H x (.ref C) ∧ PySem.W.kitOne K (.ref C) (.type "int") = some false)
theorem WholeIs.int {K : PySem.W.Frag} {H : Hp} (i : Int) : WholeIs K H (.int i) true := .inl ⟨i, rfl, rfl⟩
def spWhole (K : PySem.W.Frag) : Sp := fun vs H Q _ => ∃ (x : V) (b : Bool), vs = [x] ∧ WholeIs K H x b ∧ Q (.bl b) H
/-! ### the mathematics of fractions in lowest terms -/
def gI (t b : Int) : Int := (Int.gcd t b : Nat)
def lowT (t b : Int) : Int := (if b < 0 then -t else t) / gI t b
def lowB (t b : Int) : Int := (if b < 0 then -b else b) / gI t b
theorem gI_neg (t b : Int) : gI (-t) (-b) = gI t b := by
  unfold gI
  rw [Int.neg_gcd, Int.gcd_neg]
theorem gI_pos {t b : Int} (h : b ≠ 0) : 0 < gI t b := by
  have : 0 < Int.gcd t b := Int.gcd_pos_of_ne_zero_right t h
  unfold gI
  omega
theorem gI_le {t b : Int} (h : b ≠ 0) : (gI t b).natAbs ≤ b.natAbs := by
  have d : Int.gcd t b ∣ b.natAbs := Nat.gcd_dvd_right t.natAbs b.natAbs
  have := Nat.le_of_dvd (by omega) d
  unfold gI
  omega
def spShared : Sp := fun vs H Q _ => ∃ t b : Int, vs = [.int t, .int b] ∧ 0 ≤ b ∧ Q (.int (gI t b)) H
def spLow : Sp := fun vs H Q _ => ∃ t b : Int, vs = [.int t, .int b] ∧ b ≠ 0 ∧ b.natAbs < 2 ^ 4000 ∧ ∀ p, H p = none → Q (.ref p) (upd H p (.tup [.int (lowT t b), .int (lowB t b)]))
/-- two fractions at two places; the tops and bottoms told by f and d -/
def spTwo (K : PySem.W.Frag) (pre : Int → Int → Int → Int → Prop) (f d : Int → Int → Int → Int → Int) : Sp := fun vs H Q _ => ∃ (a c : Addr) (t u v x : Int), vs = [.ref a, .ref c] ∧ SqT K H a [.int t, .int u] ∧ SqT K H c [.int v, .int x] ∧
  pre t u v x ∧ 0 < u ∧ 0 < x ∧ t.natAbs < 2 ^ 1900 ∧ u.natAbs < 2 ^ 1900 ∧ v.natAbs < 2 ^ 1900 ∧ x.natAbs < 2 ^ 1900 ∧ ∀ p, H p = none → Q (.ref p) (upd H p (.tup [.int (lowT (f t u v x) (d t u v x)), .int (lowB (f t u v x) (d t u v x))]))
def spUnder (K : PySem.W.Frag) : Sp := fun vs H Q _ => ∃ (a c : Addr) (t u v x : Int), vs = [.ref a, .ref c] ∧ SqT K H a [.int t, .int u] ∧ SqT K H c [.int v, .int x] ∧
  t.natAbs < 2 ^ 1900 ∧ u.natAbs < 2 ^ 1900 ∧ v.natAbs < 2 ^ 1900 ∧ x.natAbs < 2 ^ 1900 ∧ Q (.bl (decide (t * x < v * u))) H
def absI (t : Int) : Int := if t < 0 then -t else t
def spSize (K : PySem.W.Frag) : Sp := fun vs H Q _ => ∃ (a : Addr) (t u : Int), vs = [.ref a] ∧ SqT K H a [.int t, .int u] ∧ ∀ p, H p = none → Q (.ref p) (upd H p (.tup [.int (absI t), .int u]))
def twoT (m : Int) : Int := if m < 0 then 1 else 2 ^ m.toNat
def twoB (m : Int) : Int := if m < 0 then 2 ^ (-m).toNat else 1
def spTwoTo : Sp := fun vs H Q _ => ∃ m : Int, vs = [.int m] ∧ -400 ≤ m ∧ m ≤ 400 ∧ ∀ p, H p = none → Q (.ref p) (upd H p (.tup [.int (twoT m), .int (twoB m)]))
def spIsFrac : Sp := fun vs H Q _ => ∃ (a : Addr) (t u : Int), vs = [.ref a] ∧ H a = some (.tup [.int t, .int u]) ∧ 1 ≤ u ∧ Q (.bl (decide (gI t u = 1))) H
theorem up {x : Nat} {a b : Nat} (h : x < 2 ^ a) (l : a ≤ b) : x < 2 ^ b := Nat.lt_of_lt_of_le h (Nat.pow_le_pow_right (by decide) l)
theorem up2 {x y : Nat} {a b : Nat} (h : x ≤ y) (h2 : y < 2 ^ a) (l : a ≤ b) : x < 2 ^ b := Nat.lt_of_le_of_lt h (up h2 l)
theorem same_but {H H1 H2 : Hp} {p : Addr} (s : Same H H1) (b : SameBut p H1 H2) (hp : H p = none) : Same H H2 := fun a o e => b a o (ne_of_none e hp) (s a o e)
structure Zs (mg : Str → Option Value) : Prop where
  isinstance : mg "isinstance" = none
  int : mg "int" = none
  bool : mg "bool" = none
  abs : mg "abs" = none
  str : mg "str" = none
  len : mg "len" = none
  list : mg "list" = none
  range : mg "range" = none
  max : mg "max" = none
  tuple : mg "tuple" = none
  repr : mg "repr" = none
section
variable {P : Program} {w : World} {K : PySem.W.Frag} {mg : Str → Option Value} {base : Heap}
theorem sc_is_whole : FnScope ["thing"] ["thing"] (defScope s_is_whole) := ⟨rfl, rfl, rfl, by decide +kernel, rfl, by decide +kernel, by decide +kernel⟩
theorem ok_is_whole {f : Addr} {fd : FuncData} {k : Nat} (F : Fun K "is_whole" "is_whole" s_is_whole f fd) (z : Zs mg) : FnOk P w K mg base CX0 (k + 1) f fd ["thing"] (spWhole K) := by
  refine F.ok sc_is_whole (fun vs H Q E h => ?_) (fun cdv A outer s H vs Q E hr h => ?_)
  · obtain ⟨x, b, rfl, _⟩ := h
    rfl
  · obtain ⟨x, b, rfl, hw, q⟩ := h
    refine ⟨_, (pss_one (ps_ret (pe_and (pe_callB call_isi (by rfl) z.isinstance (by decide +kernel) (pa_cons (pv 0) (pa_cons (pe_bltn (v := .ty "int") (by rfl) z.int (by decide +kernel) rfl) pa_nil))) (pe_one (pe_not (pe_callB call_isi (by rfl) z.isinstance (by decide +kernel) (pa_cons (pv 0) (pa_cons (pe_bltn (v := .ty "bool") (by rfl) z.bool (by decide +kernel) rfl) pa_nil)))))))), ?_⟩
    rcases hw with ⟨i, rfl, rfl⟩ | ⟨c, rfl, rfl⟩ | ⟨rfl, t, ty, kt⟩ | ⟨rfl, C, ty, kt⟩
    · exact ⟨_, rfl, _, .ty "int", _, _, true, rfl, .ty _, .base (.int i), kit_ty (by decide +kernel), _, rfl, iteT ⟨_, rfl, _, .ty "bool", _, _, false, rfl, .ty _, .base (.int i), kit_ty (by decide +kernel), _, rfl, q⟩⟩
    · exact ⟨_, rfl, _, .ty "int", _, _, true, rfl, .ty _, .base (.bl c), kit_ty (by decide +kernel), _, rfl, iteT ⟨_, rfl, _, .ty "bool", _, _, true, rfl, .ty _, .base (.bl c), kit_ty (by decide +kernel), _, rfl, q⟩⟩
    · exact ⟨_, rfl, _, .ty "int", _, _, false, rfl, .ty _, ty, kit_ty kt, _, rfl, iteF q⟩
    · exact ⟨_, rfl, _, .ty "int", _, _, false, rfl, .ty _, ty, kt, _, rfl, iteF q⟩
theorem sc_two_to : FnScope ["many"] ["many"] (defScope s_two_to) := ⟨rfl, rfl, rfl, by decide +kernel, rfl, by decide +kernel, by decide +kernel⟩
theorem ok_two_to {f : Addr} {fd : FuncData} (F : Fun K "two_to" "two_to" s_two_to f fd) (z : Zs mg) (c_is_whole : Cal P w K mg base 1 "is_whole" ["thing"] (spWhole K)) (g_GREATEST_POWER : ∃ t, mg "GREATEST_POWER" = some (.int 400 t)) : FnOk P w K mg base CX0 2 f fd ["many"] spTwoTo := by
  refine F.ok sc_two_to (fun vs H Q E h => ?_) (fun cdv A outer s H vs Q E hr h => ?_)
  · obtain ⟨m, rfl, _⟩ := h
    rfl
  · obtain ⟨m, rfl, m0, m1, q⟩ := h
    obtain ⟨tok, gP⟩ := g_GREATEST_POWER
    refine ⟨_, (pss_cons (ps_if (PW.pt (pw_or (pt_not (pt_val (pe_cal c_is_whole hr (pa_cons (pv 0) pa_nil)))) (pw_or1 (pt_cmpR op_gt (pe_callB call_abs (by rfl) z.abs (by decide +kernel) (pa_cons (pv 0) pa_nil)) (pe_glob (v := .int 400) (by rfl) gP ⟨_, rfl⟩) (nomark _))))) (pss_one ps_never) pss_nil)
      (pss_cons (ps_if (pt_cmpR op_lt (pv 0) pe_int (nomark _)) (pss_one (ps_ret (pe_tup (pa_cons pe_int (pa_cons (pe_op op_shl pe_int (pe_un un_neg (pv 0))) pa_nil))))) pss_nil)
      (pss_one (ps_ret (pe_tup (pa_cons (pe_op op_shl pe_int (pv 0)) (pa_cons pe_int pa_nil))))))), ?_⟩
    refine ⟨_, rfl, _, _, rfl, .int m, _, rfl, iteF ⟨_, rfl, _, rfl, _, _, rfl, rfl, _, rfl, ite2 (fun c => ?_) (fun c => ?_)⟩⟩
    · have := toB c
      split at this <;> omega
    · refine ⟨_, rfl, _, _, rfl, rfl, _, rfl, ite2 (fun c2 => ?_) (fun c2 => ?_)⟩
      · have hm := toB c2
        refine ⟨_, rfl, _, rfl, _, _, rfl, rfl, ⟨by omega, by omega, by decide⟩, (by show 2 ≤ sizeLine; decide), fun p hp => ?_⟩
        have e := q p hp
        unfold twoT twoB at e
        rw [if_pos hm, if_pos hm] at e
        show Q (.ref p) (upd H p (.tup [.int 1, .int (1 * 2 ^ (-m).toNat)]))
        rw [Int.one_mul]
        exact e
      · have hm := toNB c2
        refine ⟨_, rfl, _, _, rfl, rfl, ⟨by omega, by omega, by decide⟩, (by show 2 ≤ sizeLine; decide), fun p hp => ?_⟩
        have e := q p hp
        unfold twoT twoB at e
        rw [if_neg hm, if_neg hm] at e
        show Q (.ref p) (upd H p (.tup [.int (1 * 2 ^ m.toNat), .int 1]))
        rw [Int.one_mul]
        exact e
end
end E1

namespace E1
open PySem PySem.Spec PyProof.Rows L2
/-! ### the seven manners -/
inductive Mn where
  | down | up | inn | out | half | even | far
def Mn.str : Mn → Str
  | .down => "down"
  | .up => "up"
  | .inn => "in"
  | .out => "out"
  | .half => "half"
  | .even => "even"
  | .far => "far"
def fDown (t b : Int) : Int := t / b
def fUp (t b : Int) : Int := -(-t / b)
def fHalf (t b : Int) : Int := (2 * t + b) / (2 * b)
def fEven (t b : Int) : Int := if 2 * (fHalf t b * b - t) = b ∧ fHalf t b % 2 ≠ 0 then fHalf t b - 1 else fHalf t b
def fFar (t b : Int) : Int := if t > 0 then fHalf t b else -(fHalf (-t) b)
def fIn (t b : Int) : Int := if t > 0 then fDown t b else fUp t b
def fOut (t b : Int) : Int := if t > 0 then fUp t b else fDown t b
def Mn.f : Mn → Int → Int → Int
  | .down => fDown
  | .up => fUp
  | .inn => fIn
  | .out => fOut
  | .half => fHalf
  | .even => fEven
  | .far => fFar
def lawR (m : Mn) (t b : Int) : Int :=
  match m with
  | .down => t / b
  | .up => if t % b = 0 then t / b else t / b + 1
  | .inn => if t % b = 0 then t / b else t / b + (if t < 0 then 1 else 0)
  | .out => if t % b = 0 then t / b else t / b + (if t > 0 then 1 else 0)
  | .half => if 2 * (t % b) < b then t / b else t / b + 1
  | .even => if 2 * (t % b) < b then t / b else if b < 2 * (t % b) then t / b + 1 else t / b + t / b % 2
  | .far => if 2 * (t % b) < b then t / b else if b < 2 * (t % b) then t / b + 1 else t / b + (if t > 0 then 1 else 0)
theorem div_is {t b q : Int} (hb : 0 < b) (h1 : q * b ≤ t) (h2 : t < q * b + b) : t / b = q := by
  have a1 : q ≤ t / b := Int.le_ediv_of_mul_le hb h1
  have a2 : t / b < q + 1 := Int.ediv_lt_of_lt_mul hb (by rw [Int.add_mul, Int.one_mul]; exact h2)
  omega
theorem dm (t : Int) {b : Int} (hb : 0 < b) : t = t / b * b + t % b ∧ 0 ≤ t % b ∧ t % b < b := by
  refine ⟨?_, Int.emod_nonneg _ (by omega), Int.emod_lt_of_pos _ hb⟩
  have := Int.mul_ediv_add_emod t b
  rw [Int.mul_comm] at this
  omega
theorem fUp_is {t b : Int} (hb : 0 < b) : fUp t b = if t % b = 0 then t / b else t / b + 1 := by
  obtain ⟨e, r0, r1⟩ := dm t hb
  unfold fUp
  generalize t / b = q at *
  generalize t % b = r at *
  split
  · rename_i h
    have := div_is (t := -t) (q := -q) hb (by rw [Int.neg_mul]; omega) (by rw [Int.neg_mul]; omega)
    rw [this]
    omega
  · rename_i h
    have := div_is (t := -t) (q := -q - 1) hb (by rw [Int.sub_mul, Int.neg_mul, Int.one_mul]; omega) (by rw [Int.sub_mul, Int.neg_mul, Int.one_mul]; omega)
    rw [this]
    omega
theorem fHalf_is {t b : Int} (hb : 0 < b) : fHalf t b = if 2 * (t % b) < b then t / b else t / b + 1 := by
  obtain ⟨e, r0, r1⟩ := dm t hb
  unfold fHalf
  generalize t / b = q at *
  generalize t % b = r at *
  have e2 : q * (2 * b) = 2 * (q * b) := Int.mul_left_comm q 2 b
  split
  · rename_i h
    exact div_is (by omega) (by rw [e2]; omega) (by rw [e2]; omega)
  · rename_i h
    exact div_is (by omega) (by rw [Int.add_mul, e2, Int.one_mul]; omega) (by rw [Int.add_mul, e2, Int.one_mul]; omega)
theorem fHalf_neg {t b : Int} (hb : 0 < b) : -(fHalf (-t) b) = if b < 2 * (t % b) then t / b + 1 else t / b := by
  obtain ⟨e, r0, r1⟩ := dm t hb
  unfold fHalf
  generalize t / b = q at *
  generalize t % b = r at *
  have e2 : q * (2 * b) = 2 * (q * b) := Int.mul_left_comm q 2 b
  split
  · rename_i h
    have := div_is (t := 2 * -t + b) (b := 2 * b) (q := -q - 1) (by omega) (by rw [Int.sub_mul, Int.neg_mul, e2, Int.one_mul]; omega) (by rw [Int.sub_mul, Int.neg_mul, e2, Int.one_mul]; omega)
    rw [this]
    omega
  · rename_i h
    have := div_is (t := 2 * -t + b) (b := 2 * b) (q := -q) (by omega) (by rw [Int.neg_mul, e2]; omega) (by rw [Int.neg_mul, e2]; omega)
    rw [this]
    omega
theorem fEven_is {t b : Int} (hb : 0 < b) : fEven t b = lawR .even t b := by
  obtain ⟨e, r0, r1⟩ := dm t hb
  unfold fEven
  rw [fHalf_is hb]
  show _ = if 2 * (t % b) < b then t / b else if b < 2 * (t % b) then t / b + 1 else t / b + t / b % 2
  generalize t / b = q at *
  generalize t % b = r at *
  by_cases h : 2 * r < b
  · rw [if_pos h, if_pos h, if_neg (by intro z; omega)]
  · rw [if_neg h, if_neg h, Int.add_mul, Int.one_mul]
    by_cases h2 : b < 2 * r
    · rw [if_pos h2, if_neg (by intro z; omega)]
    · rw [if_neg h2]
      by_cases h3 : (q + 1) % 2 ≠ 0
      · rw [if_pos ⟨by omega, h3⟩]
        omega
      · rw [if_neg (fun z => h3 z.2)]
        omega
theorem f_lawR (m : Mn) {t b : Int} (hb : 0 < b) : m.f t b = lawR m t b := by
  obtain ⟨e, r0, r1⟩ := dm t hb
  cases m with
  | down => rfl
  | up => exact fUp_is hb
  | inn =>
    show fIn t b = if t % b = 0 then t / b else t / b + (if t < 0 then 1 else 0)
    unfold fIn fDown
    rw [fUp_is hb]
    by_cases h : t > 0
    · rw [if_pos h, if_neg (show ¬ t < 0 by omega)]
      split <;> omega
    · rw [if_neg h]
      by_cases h2 : t < 0
      · rw [if_pos h2]
      · have h3 : t = 0 := by omega
        rw [if_neg h2, h3]
        simp
  | out =>
    show fOut t b = if t % b = 0 then t / b else t / b + (if t > 0 then 1 else 0)
    unfold fOut fDown
    rw [fUp_is hb]
    by_cases h : t > 0
    · rw [if_pos h, if_pos h]
    · rw [if_neg h, if_neg h]
      split <;> omega
  | half => exact fHalf_is hb
  | even => exact fEven_is hb
  | far =>
    show fFar t b = if 2 * (t % b) < b then t / b else if b < 2 * (t % b) then t / b + 1 else t / b + (if t > 0 then 1 else 0)
    unfold fFar
    rw [fHalf_is hb, fHalf_neg hb]
    by_cases h : t > 0
    · rw [if_pos h, if_pos h]
      split
      · rfl
      · split <;> rfl
    · rw [if_neg h, if_neg h]
      by_cases h2 : 2 * (t % b) < b
      · rw [if_pos h2, if_neg (show ¬ b < 2 * (t % b) by omega)]
      · rw [if_neg h2]
        split <;> omega
theorem lt_g {x y g : Int} (hg : 0 < g) : x * g < y * g ↔ x < y := ⟨fun h => Int.lt_of_mul_lt_mul_right h (Int.le_of_lt hg), fun h => Int.mul_lt_mul_of_pos_right h hg⟩
theorem lawR_mul (m : Mn) {t b g : Int} (hb : 0 < b) (hg : 0 < g) : lawR m (t * g) (b * g) = lawR m t b := by
  have e1 : t * g / (b * g) = t / b := Int.mul_ediv_mul_of_pos_left _ _ hg
  have e2 : t * g % (b * g) = t % b * g := by
    rw [Int.mul_comm t g, Int.mul_comm b g, Int.mul_emod_mul_of_pos _ _ hg, Int.mul_comm]
  have c0 : t % b * g = 0 ↔ t % b = 0 := by
    constructor
    · intro h
      rcases Int.mul_eq_zero.mp h with h | h
      · exact h
      · omega
    · intro h
      rw [h, Int.zero_mul]
  have c1 : t * g < 0 ↔ t < 0 := by
    have := lt_g (x := t) (y := 0) hg
    rw [Int.zero_mul] at this
    exact this
  have c2 : t * g > 0 ↔ t > 0 := by
    have := lt_g (x := 0) (y := t) hg
    rw [Int.zero_mul] at this
    exact this
  have c3 : 2 * (t % b * g) < b * g ↔ 2 * (t % b) < b := by
    rw [← Int.mul_assoc]
    exact lt_g hg
  have c4 : b * g < 2 * (t % b * g) ↔ b < 2 * (t % b) := by
    rw [← Int.mul_assoc]
    exact lt_g hg
  cases m <;> simp only [lawR, e1, e2, c0, c1, c2, c3, c4]
theorem lawR_eq (m : Mn) {t b x y : Int} (hb : 0 < b) (hy : 0 < y) (h : x * b = t * y) : lawR m x y = lawR m t b := by
  rw [← lawR_mul m hy hb, h, Int.mul_comm y b, lawR_mul m hb hy]
/-- how far off -/
theorem lawR_off (m : Mn) {t b : Int} (hb : 0 < b) : -b ≤ lawR m t b * b - t ∧ lawR m t b * b - t ≤ b := by
  obtain ⟨e, r0, r1⟩ := dm t hb
  have key : ∀ q' : Int, (q' = t / b ∨ q' = t / b + 1) → -b ≤ q' * b - t ∧ q' * b - t ≤ b := fun q' h => by
    generalize t / b = q at *
    generalize t % b = r at *
    rcases h with rfl | rfl
    · omega
    · rw [Int.add_mul, Int.one_mul]
      omega
  refine key _ ?_
  clear key
  cases m <;> simp only [lawR] <;> (generalize t / b = q at *) <;> (repeat' split) <;> (first | omega | exact .inl trivial)
theorem lawR_near {m : Mn} {t b : Int} (hb : 0 < b) (hm : m = .half ∨ m = .even ∨ m = .far) : -b ≤ 2 * (lawR m t b * b - t) ∧ 2 * (lawR m t b * b - t) ≤ b := by
  obtain ⟨e, r0, r1⟩ := dm t hb
  have key : ∀ q' : Int, ((q' = t / b ∧ 2 * (t % b) ≤ b) ∨ (q' = t / b + 1 ∧ b ≤ 2 * (t % b))) → -b ≤ 2 * (q' * b - t) ∧ 2 * (q' * b - t) ≤ b := fun q' h => by
    generalize t / b = q at *
    generalize t % b = r at *
    rcases h with ⟨rfl, h⟩ | ⟨rfl, h⟩
    · omega
    · rw [Int.add_mul, Int.one_mul]
      omega
  refine key _ ?_
  clear key
  rcases hm with rfl | rfl | rfl <;> simp only [lawR] <;> (generalize t / b = q at *) <;> (repeat' split) <;> omega

def spRnd (g : Int → Int → Int) : Sp := fun vs H Q _ => ∃ t b : Int, vs = [.int t, .int b] ∧ 0 < b ∧ t.natAbs < 2 ^ 4000 ∧ b.natAbs < 2 ^ 4000 ∧ Q (.int (g t b)) H
structure Mans (P : Program) (w : World) (K : PySem.W.Frag) (mg : Str → Option Value) (base : Heap) (dM : Addr) (es : Array DictEntry) (n : Nat) : Prop where
  gm : mg "MANNERS" = some (.ref dM)
  D : KDict K w dM es n
  at_ : ∀ m : Mn, ∃ (f : Addr) (fd : FuncData), PySem.W.nsIn K dM m.str = some (some (.ref f)) ∧ PySem.W.keepIn K (.ref f) = true ∧ Binds K fd ["top", "bottom"] [] ∧ FnOk P w K mg base CX0 2 f fd ["top", "bottom"] (spRnd m.f)
/-- whether a thing is a manner -/
def MannerIs (K : PySem.W.Frag) (H : Hp) (dM : Addr) (x : V) (b : Bool) : Prop := (∃ m : Mn, x = .str m.str ∧ b = true) ∨ (∃ z : Str, x = .str z ∧ PySem.W.nsIn K dM z = some none ∧ b = false) ∨ (b = false ∧ ∃ t : String, TyX K H x (.type t) ∧ kitB t "str" = some false)
def spManner (K : PySem.W.Frag) (dM : Addr) : Sp := fun vs H Q _ => ∃ (x : V) (b : Bool), vs = [x] ∧ MannerIs K H dM x b ∧ Q (.bl b) H
def spRounded (K : PySem.W.Frag) : Sp := fun vs H Q _ => ∃ (a : Addr) (m : Mn) (t b : Int), vs = [.ref a, .str m.str] ∧ SqT K H a [.int t, .int b] ∧ 0 < b ∧ t.natAbs < 2 ^ 4000 ∧ b.natAbs < 2 ^ 4000 ∧ Q (.int (m.f t b)) H
theorem two_b {b : Int} (h : b.natAbs < 2 ^ 4000) : (2 * b).natAbs < 2 ^ 4001 := by
  rw [Int.natAbs_mul, Nat.pow_succ, Nat.mul_comm]
  exact Nat.mul_lt_mul_of_pos_right h (by decide)
theorem half_le {t b : Int} (ht : t.natAbs < 2 ^ 4000) (hb : b.natAbs < 2 ^ 4000) : (fHalf t b).natAbs < 2 ^ 4003 := by
  unfold fHalf
  refine Nat.lt_of_le_of_lt (Int.natAbs_ediv_le_natAbs _ _) ?_
  have h1 : (2 * t + b).natAbs ≤ 2 * t.natAbs + b.natAbs := by omega
  have e : 2 ^ 4003 = 2 ^ 4000 * 8 := Nat.pow_add 2 4000 3
  rw [e]
  generalize 2 ^ 4000 = N at *
  omega
section
variable {P : Program} {w : World} {K : PySem.W.Frag} {mg : Str → Option Value} {base : Heap}
theorem sc_downward : FnScope ["top", "bottom"] ["top", "bottom"] (defScope s_downward) := ⟨rfl, rfl, rfl, by decide +kernel, rfl, by decide +kernel, by decide +kernel⟩
theorem ok_downward {f : Addr} {fd : FuncData} {k : Nat} (F : Fun K "downward" "downward" s_downward f fd) : FnOk P w K mg base CX0 (k + 1) f fd ["top", "bottom"] (spRnd fDown) := by
  refine F.ok sc_downward (fun vs H Q E h => ?_) (fun cdv A outer s H vs Q E hr h => ?_)
  · obtain ⟨t, b, rfl, _⟩ := h
    rfl
  · obtain ⟨t, b, rfl, hb, ht, hl, q⟩ := h
    refine ⟨_, (pss_one (ps_ret (pe_op op_fdivW (pv 0) (pv 1)))), ?_⟩
    exact ⟨_, rfl, _, rfl, _, _, rfl, rfl, wide_div hb hl (by decide) (by decide), q⟩
theorem sc_upward : FnScope ["top", "bottom"] ["top", "bottom"] (defScope s_upward) := ⟨rfl, rfl, rfl, by decide +kernel, rfl, by decide +kernel, by decide +kernel⟩
theorem ok_upward {f : Addr} {fd : FuncData} {k : Nat} (F : Fun K "upward" "upward" s_upward f fd) : FnOk P w K mg base CX0 (k + 1) f fd ["top", "bottom"] (spRnd fUp) := by
  refine F.ok sc_upward (fun vs H Q E h => ?_) (fun cdv A outer s H vs Q E hr h => ?_)
  · obtain ⟨t, b, rfl, _⟩ := h
    rfl
  · obtain ⟨t, b, rfl, hb, ht, hl, q⟩ := h
    refine ⟨_, (pss_one (ps_ret (pe_un un_neg (pe_op op_fdivW (pe_un un_neg (pv 0)) (pv 1))))), ?_⟩
    exact ⟨_, rfl, _, rfl, _, rfl, _, _, rfl, rfl, wide_div hb hl (by decide) (by decide), _, rfl, q⟩
theorem sc_inward : FnScope ["top", "bottom"] ["top", "bottom"] (defScope s_inward) := ⟨rfl, rfl, rfl, by decide +kernel, rfl, by decide +kernel, by decide +kernel⟩
theorem ok_inward {f : Addr} {fd : FuncData} (F : Fun K "inward" "inward" s_inward f fd) (c_downward : Cal P w K mg base 1 "downward" ["top", "bottom"] (spRnd fDown)) (c_upward : Cal P w K mg base 1 "upward" ["top", "bottom"] (spRnd fUp)) : FnOk P w K mg base CX0 2 f fd ["top", "bottom"] (spRnd fIn) := by
  refine F.ok sc_inward (fun vs H Q E h => ?_) (fun cdv A outer s H vs Q E hr h => ?_)
  · obtain ⟨t, b, rfl, _⟩ := h
    rfl
  · obtain ⟨t, b, rfl, hb, ht, hl, q⟩ := h
    refine ⟨_, (pss_one (ps_ret (pe_ifExp (pt_cmpR op_gt (pv 0) pe_int (nomark _)) (pe_cal c_downward hr (pa_cons (pv 0) (pa_cons (pv 1) pa_nil))) (pe_cal c_upward hr (pa_cons (pv 0) (pa_cons (pv 1) pa_nil)))))), ?_⟩
    refine ⟨_, rfl, _, _, rfl, rfl, _, rfl, ite2 (fun c => ?_) (fun c => ?_)⟩
    · refine ⟨_, rfl, _, rfl, t, b, rfl, hb, ht, hl, ?_⟩
      have hc : t > 0 := toB c
      unfold fIn at q
      rw [if_pos hc] at q
      exact q
    · refine ⟨_, rfl, _, rfl, t, b, rfl, hb, ht, hl, ?_⟩
      have hc : ¬ t > 0 := toNB c
      unfold fIn at q
      rw [if_neg hc] at q
      exact q
theorem sc_outward : FnScope ["top", "bottom"] ["top", "bottom"] (defScope s_outward) := ⟨rfl, rfl, rfl, by decide +kernel, rfl, by decide +kernel, by decide +kernel⟩
theorem ok_outward {f : Addr} {fd : FuncData} (F : Fun K "outward" "outward" s_outward f fd) (c_downward : Cal P w K mg base 1 "downward" ["top", "bottom"] (spRnd fDown)) (c_upward : Cal P w K mg base 1 "upward" ["top", "bottom"] (spRnd fUp)) : FnOk P w K mg base CX0 2 f fd ["top", "bottom"] (spRnd fOut) := by
  refine F.ok sc_outward (fun vs H Q E h => ?_) (fun cdv A outer s H vs Q E hr h => ?_)
  · obtain ⟨t, b, rfl, _⟩ := h
    rfl
  · obtain ⟨t, b, rfl, hb, ht, hl, q⟩ := h
    refine ⟨_, (pss_one (ps_ret (pe_ifExp (pt_cmpR op_gt (pv 0) pe_int (nomark _)) (pe_cal c_upward hr (pa_cons (pv 0) (pa_cons (pv 1) pa_nil))) (pe_cal c_downward hr (pa_cons (pv 0) (pa_cons (pv 1) pa_nil)))))), ?_⟩
    refine ⟨_, rfl, _, _, rfl, rfl, _, rfl, ite2 (fun c => ?_) (fun c => ?_)⟩
    · refine ⟨_, rfl, _, rfl, t, b, rfl, hb, ht, hl, ?_⟩
      have hc : t > 0 := toB c
      unfold fOut at q
      rw [if_pos hc] at q
      exact q
    · refine ⟨_, rfl, _, rfl, t, b, rfl, hb, ht, hl, ?_⟩
      have hc : ¬ t > 0 := toNB c
      unfold fOut at q
      rw [if_neg hc] at q
      exact q
theorem sc_nearest_greater : FnScope ["top", "bottom"] ["top", "bottom"] (defScope s_nearest_greater) := ⟨rfl, rfl, rfl, by decide +kernel, rfl, by decide +kernel, by decide +kernel⟩
theorem ok_nearest_greater {f : Addr} {fd : FuncData} {k : Nat} (F : Fun K "nearest_greater" "nearest_greater" s_nearest_greater f fd) : FnOk P w K mg base CX0 (k + 1) f fd ["top", "bottom"] (spRnd fHalf) := by
  refine F.ok sc_nearest_greater (fun vs H Q E h => ?_) (fun cdv A outer s H vs Q E hr h => ?_)
  · obtain ⟨t, b, rfl, _⟩ := h
    rfl
  · obtain ⟨t, b, rfl, hb, ht, hl, q⟩ := h
    refine ⟨_, (pss_one (ps_ret (pe_op op_fdivW (pe_op op_add (pe_op op_mul pe_int (pv 0)) (pv 1)) (pe_op op_mul pe_int (pv 1))))), ?_⟩
    exact ⟨_, rfl, _, _, rfl, rfl, .inl ⟨by decide, by decide⟩, _, rfl, _, _, rfl, rfl, _, rfl, _, _, rfl, rfl, .inl ⟨by decide, by decide⟩, _, _, rfl, rfl, wide_div (by omega) (two_b hl) (by decide) (by decide), q⟩
theorem sc_nearest_even : FnScope ["top", "bottom", "near", "halfway"] ["top", "bottom"] (defScope s_nearest_even) := ⟨rfl, rfl, rfl, by decide +kernel, rfl, by decide +kernel, by decide +kernel⟩
theorem ok_nearest_even {f : Addr} {fd : FuncData} (F : Fun K "nearest_even" "nearest_even" s_nearest_even f fd) (c_nearest_greater : Cal P w K mg base 1 "nearest_greater" ["top", "bottom"] (spRnd fHalf)) : FnOk P w K mg base CX0 2 f fd ["top", "bottom"] (spRnd fEven) := by
  refine F.ok sc_nearest_even (fun vs H Q E h => ?_) (fun cdv A outer s H vs Q E hr h => ?_)
  · obtain ⟨t, b, rfl, _⟩ := h
    rfl
  · obtain ⟨t, b, rfl, hb, ht, hl, q⟩ := h
    have hn := half_le ht hl
    refine ⟨_, (pss_cons (ps_set (i := 2) sc_nearest_even.nd rfl (.inl rfl) (pe_cal c_nearest_greater hr (pa_cons (pv 0) (pa_cons (pv 1) pa_nil))))
      (pss_cons (ps_set (i := 3) sc_nearest_even.nd rfl (.inl rfl) (pe_cmpR op_eq (pe_op op_mul pe_int (pe_op op_sub (pe_op op_mulW (pv 2) (pv 1)) (pv 0))) (pv 1) (nomark _)))
      (pss_one (ps_ret (pe_ifExp (PW.pt (pw_and (pt_val (pv 3)) (pw_and1 (pt_truth (pe_op op_and (pv 2) pe_int) (by intro _; rfl))))) (pe_op op_sub (pv 2) pe_int) (pv 2)))))), ?_⟩
    refine ⟨_, rfl, _, rfl, t, b, rfl, hb, ht, hl, ?_⟩
    unfold fEven at q
    generalize fHalf t b = n at *
    refine ⟨_, rfl, _, rfl, _, _, rfl, rfl, wide_mul hn hl (by decide) (by decide) (by decide), _, rfl, _, _, rfl, rfl, _, _, rfl, rfl, .inl ⟨by decide, by decide⟩, _, rfl, rfl, ?_⟩
    have eB : (decide (V.int (2 * (n * b - t)) = V.int b)) = decide (2 * (n * b - t) = b) := by
      by_cases h : 2 * (n * b - t) = b
      · rw [h, decide_eq_true rfl, decide_eq_true rfl]
      · rw [decide_eq_false h, decide_eq_false (fun z => h (V.int.inj z))]
    rw [eB]
    by_cases hc : 2 * (n * b - t) = b
    · rw [decide_eq_true hc]
      refine ⟨_, rfl, _, rfl, iteT ⟨_, rfl, _, _, rfl, rfl, _, rfl, ?_⟩⟩
      rw [PyProof.Rows.bitAnd_m1]
      by_cases h2 : n % 2 ≠ 0
      · have e : (n % 2 != 0) = true := by
          rw [bne_iff_ne]
          exact h2
        rw [e]
        rw [if_pos ⟨hc, h2⟩] at q
        exact iteT ⟨_, rfl, _, _, rfl, rfl, q⟩
      · have e : (n % 2 != 0) = false := by
          have : n % 2 = 0 := by omega
          rw [this]
          rfl
        rw [e]
        rw [if_neg (fun z => h2 z.2)] at q
        exact iteF ⟨_, rfl, q⟩
    · rw [decide_eq_false hc]
      rw [if_neg (fun z => hc z.1)] at q
      exact ⟨_, rfl, _, rfl, iteF (iteF ⟨_, rfl, q⟩)⟩
theorem sc_nearest_far : FnScope ["top", "bottom"] ["top", "bottom"] (defScope s_nearest_far) := ⟨rfl, rfl, rfl, by decide +kernel, rfl, by decide +kernel, by decide +kernel⟩
theorem ok_nearest_far {f : Addr} {fd : FuncData} (F : Fun K "nearest_far" "nearest_far" s_nearest_far f fd) (c_nearest_greater : Cal P w K mg base 1 "nearest_greater" ["top", "bottom"] (spRnd fHalf)) : FnOk P w K mg base CX0 2 f fd ["top", "bottom"] (spRnd fFar) := by
  refine F.ok sc_nearest_far (fun vs H Q E h => ?_) (fun cdv A outer s H vs Q E hr h => ?_)
  · obtain ⟨t, b, rfl, _⟩ := h
    rfl
  · obtain ⟨t, b, rfl, hb, ht, hl, q⟩ := h
    refine ⟨_, (pss_one (ps_ret (pe_ifExp (pt_cmpR op_gt (pv 0) pe_int (nomark _)) (pe_cal c_nearest_greater hr (pa_cons (pv 0) (pa_cons (pv 1) pa_nil))) (pe_un un_neg (pe_cal c_nearest_greater hr (pa_cons (pe_un un_neg (pv 0)) (pa_cons (pv 1) pa_nil))))))), ?_⟩
    refine ⟨_, rfl, _, _, rfl, rfl, _, rfl, ite2 (fun c => ?_) (fun c => ?_)⟩
    · refine ⟨_, rfl, _, rfl, t, b, rfl, hb, ht, hl, ?_⟩
      have hc : t > 0 := toB c
      unfold fFar at q
      rw [if_pos hc] at q
      exact q
    · refine ⟨_, rfl, _, rfl, _, rfl, -t, b, rfl, hb, by rw [Int.natAbs_neg]; exact ht, hl, _, rfl, ?_⟩
      have hc : ¬ t > 0 := toNB c
      unfold fFar at q
      rw [if_neg hc] at q
      exact q
theorem sc_is_manner : FnScope ["thing"] ["thing"] (defScope s_is_manner) := ⟨rfl, rfl, rfl, by decide +kernel, rfl, by decide +kernel, by decide +kernel⟩
theorem ok_is_manner {f : Addr} {fd : FuncData} {k : Nat} {dM : Addr} {es : Array DictEntry} {n : Nat} (M : Mans P w K mg base dM es n) (F : Fun K "is_manner" "is_manner" s_is_manner f fd) (z : Zs mg) : FnOk P w K mg base CX0 (k + 1) f fd ["thing"] (spManner K dM) := by
  refine F.ok sc_is_manner (fun vs H Q E h => ?_) (fun cdv A outer s H vs Q E hr h => ?_)
  · obtain ⟨x, b, rfl, _⟩ := h
    rfl
  · obtain ⟨x, b, rfl, hm, q⟩ := h
    refine ⟨_, (pss_one (ps_ret (pe_and (pe_callB call_isi (by rfl) z.isinstance (by decide +kernel) (pa_cons (pv 0) (pa_cons (pe_bltn (v := .ty "str") (by rfl) z.str (by decide +kernel) rfl) pa_nil))) (pe_one (pe_cmpR (op_in_kd M.D) (pv 0) (pe_glob (v := .ref dM) (by rfl) M.gm rfl) (by rfl)))))), ?_⟩
    rcases hm with ⟨m, rfl, rfl⟩ | ⟨y, rfl, ny, rfl⟩ | ⟨rfl, t, ty, kt⟩
    · obtain ⟨fm, fdm, h1, _⟩ := M.at_ m
      exact ⟨_, rfl, _, .ty "str", _, _, true, rfl, .ty _, .base (.str _), kit_ty (by decide +kernel), _, rfl, iteT ⟨_, rfl, _, _, rfl, rfl, h1, q⟩⟩
    · exact ⟨_, rfl, _, .ty "str", _, _, true, rfl, .ty _, .base (.str _), kit_ty (by decide +kernel), _, rfl, iteT ⟨_, rfl, _, _, rfl, rfl, ny, q⟩⟩
    · exact ⟨_, rfl, _, .ty "str", _, _, false, rfl, .ty _, ty, kit_ty kt, _, rfl, iteF q⟩
end
end E1

namespace E1
open PySem PySem.Spec PyProof.Rows L2
abbrev s_Form___init__ : Stmt := inClass (topS 28) 0
abbrev s_Form_least : Stmt := inClass (topS 28) 1
abbrev s_Form_greatest : Stmt := inClass (topS 28) 2
abbrev s_Form_has : Stmt := inClass (topS 28) 3
abbrev s_Form_step : Stmt := inClass (topS 28) 4
abbrev s_Form_slack : Stmt := inClass (topS 28) 5
abbrev s_Form_value : Stmt := inClass (topS 28) 6
abbrev s_Form_word_for : Stmt := inClass (topS 28) 7
abbrev s_Form_kept : Stmt := inClass (topS 28) 9
abbrev s_Form_bits : Stmt := inClass (topS 28) 11
abbrev s_Form_is_bits : Stmt := inClass (topS 28) 12
abbrev s_Form_word_of : Stmt := inClass (topS 28) 13
abbrev s_Form_added : Stmt := inClass (topS 28) 14
abbrev s_Form___eq__ : Stmt := inClass (topS 28) 15
abbrev s_Form___str__ : Stmt := inClass (topS 28) 16
abbrev s_Form___repr__ : Stmt := inClass (topS 28) 17

/-! ### objects: methods, making -/
def CalM (P : Program) (w : World) (K : PySem.W.Frag) (mg : Str → Option Value) (base : Heap) (k : Nat) (C : Addr) (m : Str) (ps : List Str) (sp : Sp) : Prop :=
  ∃ (f : Addr) (fd : FuncData), Meth K C m f ∧ Binds K fd ps [] ∧ FnOk P w K mg base CX0 k f fd ps sp
def CalMK (P : Program) (w : World) (K : PySem.W.Frag) (mg : Str → Option Value) (base : Heap) (k : Nat) (C : Addr) (m : Str) (ps ks : List Str) (gV : List V → List V → List V) (sp : Sp) : Prop :=
  ∃ (f : Addr) (fd : FuncData) (g : List Value → List Value → List Value), Meth K C m f ∧ KBn K fd ps 1 ks g gV ∧ FnOk P w K mg base CX0 k f fd ps sp
def CalC (P : Program) (w : World) (K : PySem.W.Frag) (mg : Str → Option Value) (base : Heap) (k : Nat) (x : Str) (C : Addr) (ps : List Str) (dvs : List V) (sp : Sp) : Prop :=
  ∃ (f : Addr) (fd : FuncData) (ds : List Value), Mk K C f ∧ mg x = some (.ref C) ∧ Vals dvs ds ∧ Binds K fd ps ds ∧ FnOk P w K mg base CX0 k f fd ps sp
section
variable {X : Cx} {k j : Nat} {C : Addr} {m x : Str} {ps ks : List Str} {dvs : List V} {sp : Sp} {o e : Expr} {es : List Expr} {ta : TE} {t tk : TA} {apos p pos : Pos} {gV : List V → List V → List V} {kws : List Keyword}
theorem pe_calm {pl : Sem Bool} (he : PE X o ta) (c : Cls X.K C) (h : CalM X.prog X.w X.K X.mg X.base k C m ps sp) (hr : Room j X.A) (ha : PA X (e :: es) t) (hle : k ≤ j := by decide)
    (hst : starEach (e :: es) X.env = (false, eval e X.env) :: starEach es X.env := by rfl) (hpl : (backTo pos (starEach es X.env)).any (·.1) = false := by rfl)
    (ht : eval (.Call (.Attribute o m apos) (e :: es) [] pos) X.env = (do
      let ov ← eval o X.env
      standAt apos.atName
      let (f, first) ← holding [ov] (getMethod ov m pl)
      callWith pos f first (backTo pos (starEach (e :: es) X.env)) (backToKw pos (keywordEach [] X.env))) := by rfl) :
    PE X (.Call (.Attribute o m apos) (e :: es) [] pos) (tMeth C m sp [] E0 ta t) := by
  obtain ⟨f, fd, h1, h2, h3⟩ := h
  exact pe_meth he c h1 h3 (hr.mono hle) h2 .nil pass0 ha hst hpl ht
theorem pe_calm0 {pl : Sem Bool} (he : PE X o ta) (c : Cls X.K C) (h : CalM X.prog X.w X.K X.mg X.base k C m ps sp) (hr : Room j X.A) (hle : k ≤ j := by decide)
    (ht : eval (.Call (.Attribute o m apos) [] [] pos) X.env = (do
      let ov ← eval o X.env
      standAt apos.atName
      let (f, first) ← holding [ov] (getMethod ov m pl)
      callWith pos f first (backTo pos (starEach [] X.env)) (backToKw pos (keywordEach [] X.env))) := by rfl) :
    PE X (.Call (.Attribute o m apos) [] [] pos) (tMeth C m sp [] E0 ta tNil) := by
  obtain ⟨f, fd, h1, h2, h3⟩ := h
  exact pe_meth0 he c h1 h3 (hr.mono hle) h2 .nil pass0 ht
def tMethK (C : Addr) (m : Str) (n : Nat) (sp : Sp) (gV : List V → List V → List V) (ta : TE) (tk : TA) : TE := fun σ H Q => ta σ H fun x H1 => ∃ a dx fs, x = .ref a ∧ H1 a = some (.ins C dx fs) ∧ fs.lookup m = none ∧
  tk σ H1 fun zs H2 => zs.length = n ∧ sp (gV [x] zs) H2 Q E0
theorem pe_calmk0 {pl : Sem Bool} (he : PE X o ta) (c : Cls X.K C) (h : CalMK X.prog X.w X.K X.mg X.base k C m ps ks gV sp) (hr : Room j X.A) (hkw : PK X kws tk) (hle : k ≤ j := by decide)
    (hall : (backToKw pos (keywordEach kws X.env)).all (·.1.isSome) = true := by rfl) (hks : (backToKw pos (keywordEach kws X.env)).filterMap (·.1) = ks := by rfl)
    (hpl : ((backTo pos (starEach [] X.env)).any (·.1) || (backToKw pos (keywordEach kws X.env)).any (·.1.isNone)) = false := by rfl)
    (ht : eval (.Call (.Attribute o m apos) [] kws pos) X.env = (do
      let ov ← eval o X.env
      standAt apos.atName
      let (f, first) ← holding [ov] (getMethod ov m pl)
      callWith pos f first (backTo pos (starEach [] X.env)) (backToKw pos (keywordEach kws X.env))) := by rfl) :
    PE X (.Call (.Attribute o m apos) [] kws pos) (tMethK C m ks.length sp gV ta tk) := by
  obtain ⟨f, fd, g, hm, hb, F⟩ := h
  refine ⟨fun pins s σ H Q I h => ?_⟩
  refine PySem.W.methodCall_KW (pl := pl) (thn (he.run pins s σ H _ I h) fun u s1 ⟨x, H1, I1, rx, a, dx, fs, ex, ea, l, q⟩ => ?_) ht
  subst ex
  obtain rfl : u = Value.ref a := rx
  refine getmeth_ok I1 ea c hm l ?_
  refine PySem.W.callWith_KW0 (first := [.ref a]) (h₀ := X.base) I.ok.mod.kin hm.kp hall (thn (hkw.run pos pins s1 σ H1 _ I1 q) fun ws s2 ⟨zs, H2, I2, rz, l2, q2⟩ => ⟨I2.kIn, ?_⟩) hpl
  rw [hks]
  exact run_fnN (vs := [.ref a]) (us := [.ref a]) F (hr.mono hle) hb pass0 I2 (.cons rfl .nil) rz rfl l2 q2
theorem pe_calc (h : CalC X.prog X.w X.K X.mg X.base k x C ps dvs sp) (hr : Room j X.A) (ha : PA X (e :: es) t) (hle : k + 1 ≤ j := by decide) (hg : Gl X x := by rfl)
    (hdb : (x == ("__debug__" : Str)) = false := by decide) (he : starEach (e :: es) X.env = (false, eval e X.env) :: starEach es X.env := by rfl) (hpl : (backTo pos (starEach es X.env)).any (·.1) = false := by rfl) :
    PE X (.Call (.Name x p) (e :: es) [] pos) (tMake C sp dvs E0 t) := by
  obtain ⟨f, fd, ds, h1, h2, h3, h4, h5⟩ := h
  exact pe_make h1 h5 (hr.mono hle) hg h2 h4 h3 pass0 ha hdb he hpl
end
/-! ### forms -/
def wV : Option Int → V
  | none => .non
  | some w => .int w
def endS : Bool → Str
  | true => "stop"
  | false => "wrap"
def flds (w : Option Int) (pt : Int) (m : Mn) (st : Bool) : List (Str × V) := [("width", wV w), ("point", .int pt), ("manner", .str m.str), ("ends", .str (endS st))]
def WOk (w : Option Int) : Prop := ∀ x, w = some x → 2 ≤ x ∧ x ≤ 64
structure FormAt (C : Addr) (H : Hp) (p : Addr) (w : Option Int) (pt : Int) (m : Mn) (st : Bool) : Prop where
  ob : ∃ dx, H p = some (.ins C dx (flds w pt m st))
  wo : WOk w
  p0 : -64 ≤ pt
  p1 : pt ≤ 64
theorem FormAt.same {C : Addr} {H H' : Hp} {p : Addr} {w : Option Int} {pt : Int} {m : Mn} {st : Bool} (f : FormAt C H p w pt m st) (s : Same H H') : FormAt C H' p w pt m st := by
  obtain ⟨⟨dx, h⟩, a, b, c⟩ := f
  exact ⟨⟨dx, s _ _ h⟩, a, b, c⟩
theorem nPW : (("point" : Str) == "width") = false := by decide +kernel
theorem nMW : (("manner" : Str) == "width") = false := by decide +kernel
theorem nMP : (("manner" : Str) == "point") = false := by decide +kernel
theorem nEW : (("ends" : Str) == "width") = false := by decide +kernel
theorem nEP : (("ends" : Str) == "point") = false := by decide +kernel
theorem nEM : (("ends" : Str) == "manner") = false := by decide +kernel
section
variable {w : Option Int} {pt : Int} {m : Mn} {st : Bool}
theorem fl_w : (flds w pt m st).lookup ("width" : Str) = some (wV w) := by
  unfold flds
  rw [List.lookup_cons, beq_self_eq_true]
theorem fl_p : (flds w pt m st).lookup ("point" : Str) = some (.int pt) := by
  unfold flds
  rw [List.lookup_cons, nPW, List.lookup_cons, beq_self_eq_true]
theorem fl_m : (flds w pt m st).lookup ("manner" : Str) = some (.str m.str) := by
  unfold flds
  rw [List.lookup_cons, nMW, List.lookup_cons, nMP, List.lookup_cons, beq_self_eq_true]
theorem fl_e : (flds w pt m st).lookup ("ends" : Str) = some (.str (endS st)) := by
  unfold flds
  rw [List.lookup_cons, nEW, List.lookup_cons, nEP, List.lookup_cons, nEM, List.lookup_cons, beq_self_eq_true]
theorem fl_no {x : Str} (h : [(x == "width"), (x == "point"), (x == "manner"), (x == "ends")] = [false, false, false, false]) : (flds w pt m st).lookup x = none := by
  have h1 : (x == "width") = false := (List.cons.inj h).1
  have h2 : (x == "point") = false := (List.cons.inj (List.cons.inj h).2).1
  have h3 : (x == "manner") = false := (List.cons.inj (List.cons.inj (List.cons.inj h).2).2).1
  have h4 : (x == "ends") = false := (List.cons.inj (List.cons.inj (List.cons.inj (List.cons.inj h).2).2).2).1
  unfold flds
  rw [List.lookup_cons, h1, List.lookup_cons, h2, List.lookup_cons, h3, List.lookup_cons, h4]
  rfl
theorem ne_of_beq {a b : Str} (h : (b == a) = false) : ¬ a = b := fun e => by
  rw [e, beq_self_eq_true] at h
  cases h
theorem fl_put {a b c d : V} : putF "ends" d (putF "manner" c (putF "point" b (putF "width" a []))) = [(("width" : Str), a), ("point", b), ("manner", c), ("ends", d)] := by
  simp only [putF, if_neg (ne_of_beq nPW), if_neg (ne_of_beq nMW), if_neg (ne_of_beq nMP), if_neg (ne_of_beq nEW), if_neg (ne_of_beq nEP), if_neg (ne_of_beq nEM)]
end
/-- what the walk asks of the class and of the module's constants -/
structure FTxt (K : PySem.W.Frag) (mg : Str → Option Value) (C : Addr) : Prop where
  cl : Cls K C
  nW : NoAttr K C "width"
  nP : NoAttr K C "point"
  nM : NoAttr K C "manner"
  nE : NoAttr K C "ends"
structure FCst (K : PySem.W.Frag) (mg : Str → Option Value) (aE aN : Addr) : Prop where
  lw : ∃ t, mg "LEAST_WIDTH" = some (.int 2 t)
  gw : ∃ t, mg "GREATEST_WIDTH" = some (.int 64 t)
  gp : ∃ t, mg "GREATEST_POINT" = some (.int 64 t)
  e : mg "ENDS" = some (.ref aE)
  eT : ∀ H, SqT K H aE [.str "wrap", .str "stop"]
  n : mg "NEAREST_MANNERS" = some (.ref aN)
  nT : ∀ H, SqT K H aN [.str "half", .str "even", .str "far"]
def two (n : Int) : Int := 2 ^ n.toNat
def lst (x : Int) : Int := -(two (x - 1))
def grt (x : Int) : Int := two (x - 1) - 1
def lstV : Option Int → V
  | none => .non
  | some x => .int (lst x)
def grtV : Option Int → V
  | none => .non
  | some x => .int (grt x)
def inR : Option Int → Int → Bool
  | none, _ => true
  | some x, n => decide (lst x ≤ n) && decide (n ≤ grt x)
def nearB : Mn → Bool
  | .half => true
  | .even => true
  | .far => true
  | _ => false
/-- the word as which a whole number of steps is kept -/
def wordF (w : Option Int) (st : Bool) (n : Int) : Int := match w with
  | none => n
  | some x => if inR (some x) n = true then n else if st = true then (if n < 0 then lst x else grt x) else (n - lst x) % two x + lst x
def spWidth : Sp := fun vs H Q _ => ∃ w : Option Int, vs = [wV w] ∧ WOk w ∧ Q (.bl true) H
def spPoint : Sp := fun vs H Q _ => ∃ p : Int, vs = [.int p] ∧ -64 ≤ p ∧ p ≤ 64 ∧ Q (.bl true) H
def spEnds : Sp := fun vs H Q _ => ∃ st : Bool, vs = [.str (endS st)] ∧ Q (.bl true) H
def spInit (C : Addr) : Sp := fun vs H Q _ => ∃ (p dx : Addr) (w : Option Int) (pt : Int) (m : Mn) (st : Bool), vs = [.ref p, wV w, .int pt, .str m.str, .str (endS st)] ∧ WOk w ∧ -64 ≤ pt ∧ pt ≤ 64 ∧ H p = some (.ins C dx []) ∧
  ∀ H', FormAt C H' p w pt m st → (∀ b o, b ≠ p → H b = some o → H' b = some o) → (∀ b, b ≠ p → H b = none → H' b = none) → Q .non H'
def spF (C : Addr) (r : Option Int → Int → Mn → Bool → Hp → VK → Prop) : Sp := fun vs H Q _ => ∃ (p : Addr) (w : Option Int) (pt : Int) (m : Mn) (st : Bool), vs = [.ref p] ∧ FormAt C H p w pt m st ∧ r w pt m st H Q
def spLeast (C : Addr) : Sp := spF C fun w _ _ _ H Q => Q (lstV w) H
def spGreatest (C : Addr) : Sp := spF C fun w _ _ _ H Q => Q (grtV w) H
def spStep (C : Addr) : Sp := spF C fun _ pt _ _ H Q => ∀ p, H p = none → Q (.ref p) (upd H p (.tup [.int (twoT (-pt)), .int (twoB (-pt))]))
def spSlack (C : Addr) : Sp := spF C fun _ _ m _ H Q => ∀ p, H p = none → Q (.ref p) (upd H p (.tup [.int 1, .int (if nearB m = true then 2 else 1)]))
def spHas (K : PySem.W.Frag) (C : Addr) : Sp := fun vs H Q _ => ∃ (p : Addr) (w : Option Int) (pt : Int) (m : Mn) (st : Bool) (x : V) (b : Bool), vs = [.ref p, x] ∧ FormAt C H p w pt m st ∧ ((∃ n, x = .int n ∧ b = inR w n) ∨ (WholeIs K H x false ∧ b = false)) ∧ Q (.bl b) H
def spWord (C : Addr) : Sp := fun vs H Q _ => ∃ (p : Addr) (w : Option Int) (pt : Int) (m : Mn) (st : Bool) (n : Int), vs = [.ref p, .int n] ∧ FormAt C H p w pt m st ∧ Q (.int (wordF w st n)) H
/-- how many steps a value is, rounded -/
def steps (pt : Int) (m : Mn) (t b : Int) : Int := m.f (lowT (t * twoB (-pt)) (b * twoT (-pt))) (lowB (t * twoB (-pt)) (b * twoT (-pt)))
def spKept (K : PySem.W.Frag) (C : Addr) : Sp := fun vs H Q _ => ∃ (p : Addr) (w : Option Int) (pt : Int) (m : Mn) (st : Bool) (a : Addr) (t b : Int), vs = [.ref p, .ref a] ∧ FormAt C H p w pt m st ∧ SqT K H a [.int t, .int b] ∧ 0 < b ∧ t.natAbs < 2 ^ 1500 ∧ b.natAbs < 2 ^ 1500 ∧
  ∀ (r : Addr) (H' : Hp), H r = none → Same H H' → H' r = some (.tup [.int (wordF w st (steps pt m t b)), .int (steps pt m t b - wordF w st (steps pt m t b))]) → Q (.ref r) H'
theorem two_pos (n : Int) : 0 < two n := by
  unfold two
  exact Int.pow_pos (by decide)
theorem twoT_pos (n : Int) : 0 < twoT n := by
  unfold twoT
  split
  · decide
  · exact Int.pow_pos (by decide)
theorem twoB_pos (n : Int) : 0 < twoB n := by
  unfold twoB
  split
  · exact Int.pow_pos (by decide)
  · decide
theorem two_lt {n : Int} {k : Nat} (h : n.toNat < k) : (2 ^ n.toNat : Int).natAbs < 2 ^ k := by
  rw [Int.natAbs_pow]
  exact Nat.pow_lt_pow_right (by decide) h
theorem twoT_lt {n : Int} (h1 : n ≤ 64) : (twoT n).natAbs < 2 ^ 65 := by
  unfold twoT
  split
  · decide
  · exact two_lt (by omega)
theorem twoB_lt {n : Int} (h1 : -64 ≤ n) : (twoB n).natAbs < 2 ^ 65 := by
  unfold twoB
  split
  · exact two_lt (by omega)
  · decide
theorem low_pos' {t b : Int} (hb : b ≠ 0) : 0 < lowB t b := by
  have g0 := gI_pos (t := t) hb
  have g1 := gI_le (t := t) hb
  have : 1 ≤ lowB t b := by
    unfold lowB
    refine (Int.le_ediv_iff_mul_le g0).mpr ?_
    split <;> omega
  omega
theorem lowT_le {t b : Int} : (lowT t b).natAbs ≤ t.natAbs := by
  unfold lowT
  refine Nat.le_trans (Int.natAbs_ediv_le_natAbs _ _) ?_
  split <;> omega
theorem lowB_le {t b : Int} : (lowB t b).natAbs ≤ b.natAbs := by
  unfold lowB
  refine Nat.le_trans (Int.natAbs_ediv_le_natAbs _ _) ?_
  split <;> omega
section
variable {P : Program} {w : World} {K : PySem.W.Frag} {mg : Str → Option Value} {base : Heap}
theorem sc_is_width : FnScope ["thing"] ["thing"] (defScope s_is_width) := ⟨rfl, rfl, rfl, by decide +kernel, rfl, by decide +kernel, by decide +kernel⟩
theorem ok_is_width {f : Addr} {fd : FuncData} {aE aN : Addr} (Z : FCst K mg aE aN) (F : Fun K "is_width" "is_width" s_is_width f fd) (c_is_whole : Cal P w K mg base 1 "is_whole" ["thing"] (spWhole K)) : FnOk P w K mg base CX0 2 f fd ["thing"] spWidth := by
  refine F.ok sc_is_width (fun vs H Q E h => ?_) (fun cdv A outer s H vs Q E hr h => ?_)
  · obtain ⟨w, rfl, _⟩ := h
    rfl
  · obtain ⟨w, rfl, hw, q⟩ := h
    obtain ⟨_, gLW⟩ := Z.lw
    obtain ⟨_, gGW⟩ := Z.gw
    refine ⟨_, (pss_one (ps_ret (pe_or (pe_cmpR op_isN (pv 0) pe_non (nomark _)) (pe_one (pe_and (pe_cal c_is_whole hr (pa_cons (pv 0) pa_nil)) (pe_one (pe_chain op_le op_le (pe_glob (v := .int 2) (by rfl) gLW ⟨_, rfl⟩) (pv 0) (pe_glob (v := .int 64) (by rfl) gGW ⟨_, rfl⟩)))))))), ?_⟩
    cases w with
    | none => exact ⟨_, rfl, rfl, _, rfl, iteT q⟩
    | some x =>
      obtain ⟨h1, h2⟩ := hw x rfl
      refine ⟨_, rfl, rfl, _, rfl, iteF ⟨_, rfl, _, _, rfl, .int x, _, rfl, iteT ⟨_, rfl, _, _, rfl, rfl, _, rfl, ?_⟩⟩⟩
      rw [decide_eq_true h1]
      refine iteT ⟨_, _, rfl, rfl, ?_⟩
      show Q (.bl (decide (x ≤ 64))) H
      rw [decide_eq_true h2]
      exact q
theorem sc_is_point : FnScope ["thing"] ["thing"] (defScope s_is_point) := ⟨rfl, rfl, rfl, by decide +kernel, rfl, by decide +kernel, by decide +kernel⟩
theorem ok_is_point {f : Addr} {fd : FuncData} {aE aN : Addr} (Z : FCst K mg aE aN) (F : Fun K "is_point" "is_point" s_is_point f fd) (z : Zs mg) (c_is_whole : Cal P w K mg base 1 "is_whole" ["thing"] (spWhole K)) : FnOk P w K mg base CX0 2 f fd ["thing"] spPoint := by
  refine F.ok sc_is_point (fun vs H Q E h => ?_) (fun cdv A outer s H vs Q E hr h => ?_)
  · obtain ⟨x, rfl, _⟩ := h
    rfl
  · obtain ⟨x, rfl, h1, h2, q⟩ := h
    obtain ⟨_, gGP⟩ := Z.gp
    refine ⟨_, (pss_one (ps_ret (pe_and (pe_cal c_is_whole hr (pa_cons (pv 0) pa_nil)) (pe_one (pe_cmpR op_le (pe_callB call_abs (by rfl) z.abs (by decide +kernel) (pa_cons (pv 0) pa_nil)) (pe_glob (v := .int 64) (by rfl) gGP ⟨_, rfl⟩) (nomark _)))))), ?_⟩
    refine ⟨_, rfl, _, _, rfl, .int x, _, rfl, iteT ⟨_, rfl, _, rfl, _, _, rfl, rfl, ?_⟩⟩
    show Q (.bl (decide ((if x < 0 then -x else x) ≤ 64))) H
    rw [decide_eq_true (show (if x < 0 then -x else x) ≤ 64 by split <;> omega)]
    exact q
theorem sc_is_ends : FnScope ["thing"] ["thing"] (defScope s_is_ends) := ⟨rfl, rfl, rfl, by decide +kernel, rfl, by decide +kernel, by decide +kernel⟩
theorem ok_is_ends {f : Addr} {fd : FuncData} {k : Nat} {aE aN : Addr} (Z : FCst K mg aE aN) (F : Fun K "is_ends" "is_ends" s_is_ends f fd) (z : Zs mg) : FnOk P w K mg base CX0 (k + 1) f fd ["thing"] spEnds := by
  refine F.ok sc_is_ends (fun vs H Q E h => ?_) (fun cdv A outer s H vs Q E hr h => ?_)
  · obtain ⟨st, rfl, _⟩ := h
    rfl
  · obtain ⟨st, rfl, q⟩ := h
    refine ⟨_, (pss_one (ps_ret (pe_and (pe_callB call_isi (by rfl) z.isinstance (by decide +kernel) (pa_cons (pv 0) (pa_cons (pe_bltn (v := .ty "str") (by rfl) z.str (by decide +kernel) rfl) pa_nil))) (pe_one (pe_cmpR op_in_seq (pv 0) (pe_glob (v := .ref aE) (by rfl) Z.e rfl) (by rfl)))))), ?_⟩
    refine ⟨_, rfl, _, .ty "str", _, _, true, rfl, .ty _, .base (.str _), kit_ty (by decide +kernel), _, rfl, iteT ⟨_, rfl, aE, _, rfl, .inr (Z.eT _), rfl, rfl, ?_⟩⟩
    cases st with
    | true =>
      rw [show inV (V.str (endS true)) [V.str "wrap", V.str "stop"] = true by decide +kernel]
      exact q
    | false =>
      rw [show inV (V.str (endS false)) [V.str "wrap", V.str "stop"] = true by decide +kernel]
      exact q
theorem sc_Form___init__ : FnScope ["self", "width", "point", "manner", "ends"] ["self", "width", "point", "manner", "ends"] (defScope s_Form___init__) := ⟨rfl, rfl, rfl, by decide +kernel, rfl, by decide +kernel, by decide +kernel⟩
theorem ok_Form___init__ {f : Addr} {fd : FuncData} {dM : Addr} {dvs : List V} {C : Addr} (T : FTxt K mg C) (F : FunD K "__init__" "Form.__init__" (defArgs s_Form___init__) (defBody s_Form___init__) (defScope s_Form___init__) dvs [] f fd) (c_is_width : Cal P w K mg base 2 "is_width" ["thing"] spWidth) (c_is_point : Cal P w K mg base 2 "is_point" ["thing"] spPoint) (c_is_manner : Cal P w K mg base 1 "is_manner" ["thing"] (spManner K dM)) (c_is_ends : Cal P w K mg base 1 "is_ends" ["thing"] spEnds) : FnOk P w K mg base CX0 3 f fd ["self", "width", "point", "manner", "ends"] (spInit C) := by
  refine F.ok sc_Form___init__ (fun vs H Q E h => ?_) (fun cdv A outer s H vs Q E hr h => ?_)
  · obtain ⟨p, dx, w, pt, m, st, rfl, _⟩ := h
    rfl
  · obtain ⟨p, dx, w, pt, m, st, rfl, hw, h0, h1, hp, q⟩ := h
    refine ⟨_, PSs.nox (pss_cons (ps_if (pt_not (pt_val (pe_cal c_is_width hr (pa_cons (pv 1) pa_nil)))) (pss_one ps_never) pss_nil)
      (pss_cons (ps_if (pt_not (pt_val (pe_cal c_is_point hr (pa_cons (pv 2) pa_nil)))) (pss_one ps_never) pss_nil)
      (pss_cons (ps_if (pt_not (pt_val (pe_cal c_is_manner hr (pa_cons (pv 3) pa_nil)))) (pss_one ps_never) pss_nil)
      (pss_cons (ps_if (pt_not (pt_val (pe_cal c_is_ends hr (pa_cons (pv 4) pa_nil)))) (pss_one ps_never) pss_nil)
      (pss_cons (ps_fld (pv 0) (pv 1) rfl)
      (pss_cons (ps_fld (pv 0) (pv 2) rfl)
      (pss_cons (ps_fld (pv 0) (pv 3) rfl)
      (pss_one (ps_fld (pv 0) (pv 4) rfl))))))))), ?_⟩
    refine ⟨_, rfl, w, rfl, hw, _, rfl, iteF ?_⟩
    refine ⟨_, rfl, pt, rfl, h0, h1, _, rfl, iteF ?_⟩
    refine ⟨_, rfl, _, true, rfl, .inl ⟨m, rfl, rfl⟩, _, rfl, iteF ?_⟩
    refine ⟨_, rfl, st, rfl, _, rfl, iteF ?_⟩
    refine ⟨_, rfl, _, rfl, p, C, dx, [], rfl, hp, T.cl, T.nW, (by show 0 < 1000; decide), ?_⟩
    refine ⟨_, rfl, _, rfl, p, C, dx, _, rfl, upd_same, T.cl, T.nP, (by show 1 < 1000; decide), ?_⟩
    refine ⟨_, rfl, _, rfl, p, C, dx, _, rfl, upd_same, T.cl, T.nM, ?_, ?_⟩
    · simp only [putF, if_neg (ne_of_beq nPW)]
      show 2 < 1000
      decide
    refine ⟨_, rfl, _, rfl, p, C, dx, _, rfl, upd_same, T.cl, T.nE, ?_, ?_⟩
    · simp only [putF, if_neg (ne_of_beq nPW), if_neg (ne_of_beq nMW), if_neg (ne_of_beq nMP)]
      show 3 < 1000
      decide
    refine q _ ⟨⟨dx, ?_⟩, hw, h0, h1⟩ (fun b o hb e => ?_) (fun b hb e => ?_)
    · rw [upd_same]
      exact congrArg (fun l => some (HO.ins C dx l)) fl_put
    · rw [upd_ne hb, upd_ne hb, upd_ne hb, upd_ne hb]
      exact e
    · rw [upd_ne hb, upd_ne hb, upd_ne hb, upd_ne hb]
      exact e
theorem sc_Form_least : FnScope ["self"] ["self"] (defScope s_Form_least) := ⟨rfl, rfl, rfl, by decide +kernel, rfl, by decide +kernel, by decide +kernel⟩
theorem ok_Form_least {f : Addr} {fd : FuncData} {k : Nat} {C : Addr} (T : FTxt K mg C) (F : Fun K "least" "Form.least" s_Form_least f fd) : FnOk P w K mg base CX0 (k + 1) f fd ["self"] (spLeast C) := by
  refine F.ok sc_Form_least (fun vs H Q E h => ?_) (fun cdv A outer s H vs Q E hr h => ?_)
  · obtain ⟨p, w, pt, m, st, rfl, _⟩ := h
    rfl
  · obtain ⟨p, w, pt, m, st, rfl, ⟨⟨dx, ho⟩, hw, _, _⟩, q⟩ := h
    refine ⟨_, (pss_one (ps_ret (pe_ifExp (pt_cmpR op_isN (pe_fld (pv 0) rfl) pe_non (nomark _)) pe_non (pe_un un_neg (pe_op op_shl pe_int (pe_op op_sub (pe_fld (pv 0) rfl) pe_int)))))), ?_⟩
    refine ⟨_, rfl, p, C, dx, _, _, rfl, ho, T.cl, T.nW, fl_w, rfl, _, rfl, ?_⟩
    cases w with
    | none => exact iteT q
    | some x =>
      obtain ⟨h1, h2⟩ := hw x rfl
      refine iteF ⟨_, rfl, p, C, dx, _, _, rfl, ho, T.cl, T.nW, fl_w, _, _, rfl, rfl, _, _, rfl, rfl, ⟨by omega, by omega, by decide⟩, _, rfl, ?_⟩
      have e : (1 : Int) * 2 ^ (x - 1).toNat = two (x - 1) := Int.one_mul _
      rw [e]
      exact q
theorem sc_Form_greatest : FnScope ["self"] ["self"] (defScope s_Form_greatest) := ⟨rfl, rfl, rfl, by decide +kernel, rfl, by decide +kernel, by decide +kernel⟩
theorem ok_Form_greatest {f : Addr} {fd : FuncData} {k : Nat} {C : Addr} (T : FTxt K mg C) (F : Fun K "greatest" "Form.greatest" s_Form_greatest f fd) : FnOk P w K mg base CX0 (k + 1) f fd ["self"] (spGreatest C) := by
  refine F.ok sc_Form_greatest (fun vs H Q E h => ?_) (fun cdv A outer s H vs Q E hr h => ?_)
  · obtain ⟨p, w, pt, m, st, rfl, _⟩ := h
    rfl
  · obtain ⟨p, w, pt, m, st, rfl, ⟨⟨dx, ho⟩, hw, _, _⟩, q⟩ := h
    refine ⟨_, (pss_one (ps_ret (pe_ifExp (pt_cmpR op_isN (pe_fld (pv 0) rfl) pe_non (nomark _)) pe_non (pe_op op_sub (pe_op op_shl pe_int (pe_op op_sub (pe_fld (pv 0) rfl) pe_int)) pe_int)))), ?_⟩
    refine ⟨_, rfl, p, C, dx, _, _, rfl, ho, T.cl, T.nW, fl_w, rfl, _, rfl, ?_⟩
    cases w with
    | none => exact iteT q
    | some x =>
      obtain ⟨h1, h2⟩ := hw x rfl
      refine iteF ⟨_, rfl, p, C, dx, _, _, rfl, ho, T.cl, T.nW, fl_w, _, _, rfl, rfl, _, _, rfl, rfl, ⟨by omega, by omega, by decide⟩, _, _, rfl, rfl, ?_⟩
      have e : (1 : Int) * 2 ^ (x - 1).toNat = two (x - 1) := Int.one_mul _
      rw [e]
      exact q
theorem sc_Form_has : FnScope ["self", "thing"] ["self", "thing"] (defScope s_Form_has) := ⟨rfl, rfl, rfl, by decide +kernel, rfl, by decide +kernel, by decide +kernel⟩
theorem ok_Form_has {f : Addr} {fd : FuncData} {C : Addr} (T : FTxt K mg C) (F : Fun K "has" "Form.has" s_Form_has f fd) (c_is_whole : Cal P w K mg base 1 "is_whole" ["thing"] (spWhole K)) (m_least : CalM P w K mg base 1 C "least" ["self"] (spLeast C)) (m_greatest : CalM P w K mg base 1 C "greatest" ["self"] (spGreatest C)) : FnOk P w K mg base CX0 2 f fd ["self", "thing"] (spHas K C) := by
  refine F.ok sc_Form_has (fun vs H Q E h => ?_) (fun cdv A outer s H vs Q E hr h => ?_)
  · obtain ⟨p, w, pt, m, st, x, b, rfl, _⟩ := h
    rfl
  · obtain ⟨p, w, pt, m, st, x, b, rfl, hf, hx, q⟩ := h
    obtain ⟨⟨dx, ho⟩, hw, _, _⟩ := id hf
    refine ⟨_, (pss_cons (ps_if (pt_not (pt_val (pe_cal c_is_whole hr (pa_cons (pv 1) pa_nil)))) (pss_one (ps_ret pe_bl)) pss_nil)
      (pss_one (ps_ret (pe_or (pe_cmpR op_isN (pe_fld (pv 0) rfl) pe_non (nomark _)) (pe_one (pe_chain op_le op_le (pe_calm0 (pv 0) T.cl m_least hr) (pv 1) (pe_calm0 (pv 0) T.cl m_greatest hr))))))), ?_⟩
    rcases hx with ⟨n, rfl, rfl⟩ | ⟨hx, rfl⟩
    · refine ⟨_, rfl, _, true, rfl, .int n, _, rfl, iteF ?_⟩
      refine ⟨_, rfl, p, C, dx, _, _, rfl, ho, T.cl, T.nW, fl_w, rfl, _, rfl, ?_⟩
      cases w with
      | none => exact iteT q
      | some y =>
        refine iteF ⟨_, rfl, p, dx, _, rfl, ho, fl_no (by decide +kernel), p, some y, pt, m, st, rfl, hf, _, rfl, _, _, rfl, rfl, _, rfl, ?_⟩
        by_cases c : lst y ≤ n
        · rw [decide_eq_true c]
          refine iteT ⟨_, rfl, p, dx, _, rfl, ho, fl_no (by decide +kernel), p, some y, pt, m, st, rfl, hf, _, _, rfl, rfl, ?_⟩
          have q' : Q (.bl (decide (lst y ≤ n) && decide (n ≤ grt y))) H := q
          rw [decide_eq_true c, Bool.true_and] at q'
          exact q'
        · rw [decide_eq_false c]
          refine iteF ?_
          have q' : Q (.bl (decide (lst y ≤ n) && decide (n ≤ grt y))) H := q
          rw [decide_eq_false c, Bool.false_and] at q'
          exact q'
    · exact ⟨_, rfl, _, false, rfl, hx, _, rfl, iteT q⟩
theorem sc_Form_step : FnScope ["self"] ["self"] (defScope s_Form_step) := ⟨rfl, rfl, rfl, by decide +kernel, rfl, by decide +kernel, by decide +kernel⟩
theorem ok_Form_step {f : Addr} {fd : FuncData} {C : Addr} (T : FTxt K mg C) (F : Fun K "step" "Form.step" s_Form_step f fd) (c_two_to : Cal P w K mg base 2 "two_to" ["many"] spTwoTo) : FnOk P w K mg base CX0 3 f fd ["self"] (spStep C) := by
  refine F.ok sc_Form_step (fun vs H Q E h => ?_) (fun cdv A outer s H vs Q E hr h => ?_)
  · obtain ⟨p, w, pt, m, st, rfl, _⟩ := h
    rfl
  · obtain ⟨p, w, pt, m, st, rfl, ⟨⟨dx, ho⟩, hw, h0, h1⟩, q⟩ := h
    refine ⟨_, (pss_one (ps_ret (pe_cal c_two_to hr (pa_cons (pe_un un_neg (pe_fld (pv 0) rfl)) pa_nil)))), ?_⟩
    exact ⟨_, rfl, p, C, dx, _, _, rfl, ho, T.cl, T.nP, fl_p, _, rfl, -pt, rfl, by omega, by omega, q⟩
theorem sc_Form_slack : FnScope ["self"] ["self"] (defScope s_Form_slack) := ⟨rfl, rfl, rfl, by decide +kernel, rfl, by decide +kernel, by decide +kernel⟩
theorem ok_Form_slack {f : Addr} {fd : FuncData} {k : Nat} {aE aN : Addr} (Z : FCst K mg aE aN) {C : Addr} (T : FTxt K mg C) (F : Fun K "slack" "Form.slack" s_Form_slack f fd) : FnOk P w K mg base CX0 (k + 1) f fd ["self"] (spSlack C) := by
  refine F.ok sc_Form_slack (fun vs H Q E h => ?_) (fun cdv A outer s H vs Q E hr h => ?_)
  · obtain ⟨p, w, pt, m, st, rfl, _⟩ := h
    rfl
  · obtain ⟨p, w, pt, m, st, rfl, ⟨⟨dx, ho⟩, hw, h0, h1⟩, q⟩ := h
    refine ⟨_, (pss_one (ps_ret (pe_ifExp (pt_cmpR op_in_seq (pe_fld (pv 0) rfl) (pe_glob (v := .ref aN) (by rfl) Z.n rfl) (by rfl)) (pe_tup (pa_cons pe_int (pa_cons pe_int pa_nil))) (pe_tup (pa_cons pe_int (pa_cons pe_int pa_nil)))))), ?_⟩
    refine ⟨_, rfl, p, C, dx, _, _, rfl, ho, T.cl, T.nM, fl_m, aN, _, rfl, .inr (Z.nT _), rfl, rfl, _, rfl, ?_⟩
    have e : inV (V.str m.str) [V.str "half", V.str "even", V.str "far"] = nearB m := by
      cases m <;> decide +kernel
    show if inV (V.str m.str) [V.str "half", V.str "even", V.str "far"] = true then _ else _
    rw [e]
    cases hn : nearB m with
    | true =>
      refine iteT ⟨(by show 2 ≤ sizeLine; decide), fun a ha => ?_⟩
      have := q a ha
      rw [hn, if_pos rfl] at this
      exact this
    | false =>
      refine iteF ⟨(by show 2 ≤ sizeLine; decide), fun a ha => ?_⟩
      have := q a ha
      rw [hn, if_neg Bool.false_ne_true] at this
      exact this
end
end E1

namespace E1
open PySem PySem.Spec PyProof.Rows L2
/-! ### str, repr and == by own methods -/
section
variable {X : Cx} {k : Nat} {C f : Addr} {fd : FuncData} {ps : List Str} {sp : Sp}
theorem run_own {pins : List (Addr × Obj)} {σ : L2.St} {H : Hp} {s : Shared} {A' : Around} {Q : VK} {us : List Value} {vs : List V} (F : FnOk X.prog X.w X.K X.mg X.base CX0 k f fd ps sp) (rm : Room k A') (fr : A'.frames = X.A.frames) (hb : Binds X.K fd ps []) (I : Inv X pins σ H s) (r : Vals vs us) (h : sp vs H Q E0) :
    wpAny (model X.prog X.w) A' (call (.ref f) us) (EP X pins σ Q) X.xe s := by
  have e0 : Env0 X.prog X.w X.K X.mg X.base A' X.stack s H := { I.env0 with frames := by rw [fr]; exact I.env0.frames }
  have hl : us.length = ps.length := by rw [← r.length]; exact F.len _ _ _ _ h
  have bb := hb s us I.kIn (by rw [List.append_nil]; exact hl)
  rw [List.append_nil] at bb
  refine wpAny_call (codeAny_mono (F.run A' X.stack s H ⟨us, []⟩ us vs Q E0 rm e0 bb r h) fun r s' hq => ?_)
  match r, hq with
  | .error e, hq => exact (show False from hq).elim
  | .ok (.ret u), hq => exact I.after hq
  | .ok .next, hq => exact hq.elim
  | .ok .brk, hq => exact hq.elim
  | .ok .cont, hq => exact hq.elim
/-- what the written part says of an own method -/
structure OwnM (K : PySem.W.Frag) (C : Addr) (m : Str) (f : Addr) : Prop where
  find : PySem.W.findIn K (.ref C) m = some (some (.ref f))
  fn : PySem.W.isFn K (.ref f) = true
def rOwnS (C : Addr) (sp : Sp) : List V → Hp → VK → Prop := fun xs H Q => ∃ (a dx : Addr) (fs : List (Str × V)), xs = [.ref a] ∧ H a = some (.ins C dx fs) ∧ sp [.ref a] H (fun v H2 => ∃ y, v = .str y ∧ Q (.str y) H2) E0
theorem call_strO {j : Nat} (F : FnOk X.prog X.w X.K X.mg X.base CX0 k f fd ps sp) (hb : Binds X.K fd ps []) (M : OwnM X.K C "__str__" f) (hr : Room j X.A) (hle : k + 2 ≤ j := by decide) : CallR X (.type "str") (rOwnS C sp) := by
  intro pins s σ H xs us Q I r h
  obtain ⟨a, dx, fs, rfl, ha, q⟩ := h
  cases r with
  | cons ra rn =>
    cases rn
    cases ra
    obtain ⟨mA, J, _⟩ := ins_get I.hok ha
    obtain ⟨od, J, _⟩ := J.look
    have rm : Room k X.A.in1.in1 := (hr.mono hle).in1.in1
    refine PySem.W.kso_call rm.units0 I.kIn J M.find M.fn (wpAny_mono (run_own (vs := [.ref a]) F rm rfl hb I (.cons rfl .nil) q) (fun v s' hv => ?_) fun _ _ e => e)
    obtain ⟨x, H2, I2, rx, y, rfl, q2⟩ := hv
    obtain ⟨t, rfl⟩ := rx
    exact ⟨.str y, H2, I2, ⟨t, rfl⟩, q2⟩
theorem call_reprO {j : Nat} (F : FnOk X.prog X.w X.K X.mg X.base CX0 k f fd ps sp) (hb : Binds X.K fd ps []) (M : OwnM X.K C "__repr__" f) (hr : Room j X.A) (hle : k + 1 ≤ j := by decide) : CallR X (.builtin "repr") (rOwnS C sp) := by
  intro pins s σ H xs us Q I r h
  obtain ⟨a, dx, fs, rfl, ha, q⟩ := h
  cases r with
  | cons ra rn =>
    cases rn
    cases ra
    obtain ⟨mA, J, _⟩ := ins_get I.hok ha
    obtain ⟨od, J, _⟩ := J.look
    obtain ⟨m, hF⟩ := I.fr
    have rm : Room k X.A.in1 := (hr.mono hle).in1
    refine PySem.W.repr_K rm.units0 hF I.ok.mod.kin J M.find M.fn (wpAny_mono (run_own (vs := [.ref a]) F rm rfl hb I (.cons rfl .nil) q) (fun v s' hv => ?_) fun _ _ e => e)
    obtain ⟨x, H2, I2, rx, y, rfl, q2⟩ := hv
    obtain ⟨t, rfl⟩ := rx
    exact ⟨.str y, H2, I2, ⟨t, rfl⟩, q2⟩
/-- what stands right of ==: its type is no class under C -/
def RgtV (K : PySem.W.Frag) (C : Addr) (H : Hp) (y : V) : Prop := (∃ b dx fs, y = .ref b ∧ H b = some (.ins C dx fs)) ∨ (y = .non ∧ PySem.W.notFirst K C (.type "NoneType") = true) ∨ (∃ z, y = .str z ∧ PySem.W.notFirst K C (.type "str") = true) ∨
  (∃ b xs, y = .ref b ∧ H b = some (.lst xs) ∧ PySem.W.notFirst K C (.type "list") = true) ∨ (∃ b xs, y = .ref b ∧ H b = some (.tup xs) ∧ PySem.W.notFirst K C (.type "tuple") = true)
def rOwnE (K : PySem.W.Frag) (C : Addr) (sp : Sp) : R2 := fun x y H Q => ∃ (a dx : Addr) (fs : List (Str × V)), x = .ref a ∧ H a = some (.ins C dx fs) ∧ RgtV K C H y ∧ sp [.ref a, y] H (fun v H2 => ∃ b, v = .bl b ∧ Q (.bl b) H2) E0
theorem op_eqO (F : FnOk X.prog X.w X.K X.mg X.base CX0 k f fd ps sp) (hb : Binds X.K fd ps []) (M : OwnM X.K C "__eq__" f) {j : Nat} (hr : Room j X.A) (hle : k ≤ j := by decide) : OpR X (compareOp .Eq) (rOwnE X.K C sp) := by
  intro pins s σ H x y v u Q I rx ry h
  obtain ⟨a, dx, fs, rfl, ha, hy, q⟩ := h
  cases rx
  obtain ⟨mA, J, _⟩ := ins_get I.hok ha
  obtain ⟨od, J, _⟩ := J.look
  obtain ⟨m, hF⟩ := I.fr
  have ty : ∃ tb, PySem.W.Looks (model X.prog X.w) s.heap (typeOf u) tb ∧ PySem.W.notFirst X.K C tb = true := by
    rcases hy with ⟨b, dy, gs, rfl, hb⟩ | ⟨rfl, n⟩ | ⟨z, rfl, n⟩ | ⟨b, xs, rfl, hb, n⟩ | ⟨b, xs, rfl, hb, n⟩
    · cases ry
      obtain ⟨mB, J', _⟩ := ins_get I.hok hb
      obtain ⟨od', J', _⟩ := J'.look
      exact ⟨.ref C, J'.type, by simp [PySem.W.notFirst]⟩
    · cases ry
      exact ⟨_, .of_pure rfl, n⟩
    · obtain ⟨t, rfl⟩ := ry
      exact ⟨_, .of_pure rfl, n⟩
    · cases ry
      obtain ⟨_, its, nn, _, e⟩ := (show ObjOk X.prog X.w H s.heap b (.lst xs) from I.hok b _ hb)
      exact ⟨_, (PySem.W.Looks.ld e).andThen .now, n⟩
    · cases ry
      obtain ⟨its, r, e, z⟩ := I.tuple (.inl (.inl hb))
      obtain ⟨ob, oe, oc, _⟩ := e
      exact ⟨_, (PySem.W.Looks.ld oe).andThen .now, by rw [oc]; exact n⟩
  obtain ⟨tb, L, nf⟩ := ty
  refine PySem.W.cmp_ofEq (PySem.W.cmp_K (op := .Eq) (hr.mono hle).units0 hF I.ok.mod.kin J L nf M.find M.fn (wpAny_mono (run_own (vs := [.ref a, y]) F (hr.mono hle) rfl hb I (.cons rfl (.cons ry .nil)) q) (fun v s' hv => ?_) fun _ _ e => e))
  obtain ⟨x, H2, I2, rx, b, rfl, q2⟩ := hv
  cases rx
  exact ⟨.bl b, H2, I2, rfl, q2⟩
end
theorem call_str_non {X : Cx} : CallR X (.type "str") (fun xs H Q => xs = [.non] ∧ Q (.str "None") H) := by
  intro pins s σ H xs us Q I r h
  obtain ⟨rfl, q⟩ := h
  cases r with
  | cons ra rn =>
    cases rn
    cases ra
    exact P.str_of_none ⟨.str "None", H, I.tok _, ⟨_, rfl⟩, q⟩
/-- {x} of None, an int or a text -/
def tFmtN (te : TE) : TE := fun σ H Q => te σ H fun x H1 => (x = .non ∧ Q (.str "None") H1) ∨ ∃ i : Int, x = .int i ∧ i.natAbs.log2 < 1920 ∧ Q (.str (toString i)) H1
theorem pe_fmtN {X : Cx} {e : Expr} {te : TE} {pos : Pos} (he : PE X e te) : PE X (.FormattedValue e (-1) none pos) (tFmtN te) := by
  refine ⟨fun pins s σ H Q I h => ?_⟩
  refine wpAny_FormattedValue_plain (thn (he.run pins s σ H _ I h) fun v s1 ⟨x, H1, I1, r1, q⟩ => ?_)
  rcases q with ⟨rfl, q⟩ | ⟨i, rfl, hz, q⟩
  · cases r1
    exact wpAny_formatField_none ⟨.str "None", H1, I1.tok _, ⟨_, rfl⟩, q⟩
  · obtain ⟨t, rfl⟩ := r1
    exact wpAny_formatField_int hz ⟨.str (toString i), H1, I1.tok _, ⟨_, rfl⟩, q⟩

end E1

namespace E1
open PySem PySem.Spec PyProof.Rows L2
structure Drw (a : Addr) (H H' : Hp) : Prop where
  but : SameBut a H H'
  new : ∀ b, H b = none → H' b = none
theorem Drw.refl (a : Addr) (H : Hp) : Drw a H H := ⟨SameBut.refl a H, fun _ h => h⟩
theorem Drw.trans {a : Addr} {H H1 H2 : Hp} (x : Drw a H H1) (y : Drw a H1 H2) : Drw a H H2 := ⟨x.but.trans y.but, fun b h => y.new b (x.new b h)⟩
/-- what lies at a well's place is no new thing -/
theorem WellAt.ne {H : Hp} {a p : Addr} {c : Int} (h : WellAt H a c) (hp : H p = none) : p ≠ a := fun e => by
  obtain ⟨_, _, _, z, _⟩ := h
  rw [e, z] at hp
  cases hp
/-- new things alone, beside the well -/
theorem SameBut.free {a : Addr} {H H' : Hp} {p : Addr} {c : Int} (s : SameBut a H H') (w : WellAt H' a c) (hp : H' p = none) : H p = none := by
  cases e : H p with
  | none => rfl
  | some o =>
    rw [s _ _ (w.ne hp) e] at hp
    cases hp

theorem qt {p : Prop} [Decidable p] {Q : VK} {H : Hp} (h : p) (q : Q (.bl true) H) : Q (.bl (decide p)) H := (congrArg (fun c => Q (.bl c) H) (decide_eq_true h)).mpr q
theorem iteC {c d : Bool} {A B : Prop} (e : c = d) (h : if d = true then A else B) : if c = true then A else B := e ▸ h
theorem small1000' {n : Nat} (h : n ≤ 1000) : n < sizeLine := Nat.lt_of_le_of_lt h (by decide)
/-- what else the written part says of the class -/
structure FX (K : PySem.W.Frag) (mg : Str → Option Value) (C : Addr) : Prop where
  gC : mg "Form" = some (.ref C)
  ha : PySem.W.findIn K (.ref C) "__class__" = some (some (.builtin "object.__class__"))
  hn : PySem.W.specialIn K (.builtin "object.__class__") "__get__" = some (some (.builtin "getset_descriptor.__get__"))
  ht : PySem.W.takesIn K (.builtin "object.__class__") = some true
  hm : PySem.W.mroIn K C (.type "object") = some true
  kC : PySem.W.kitOne K (.ref C) (.ref C) = some true
  kI : PySem.W.kitOne K (.ref C) (.type "int") = some false
  kS : PySem.W.kitOne K (.type "str") (.ref C) = some false
  kL : PySem.W.kitOne K (.type "list") (.ref C) = some false
  kT : PySem.W.kitOne K (.type "tuple") (.ref C) = some false
  kN : PySem.W.kitOne K (.type "NoneType") (.ref C) = some false
  nS : PySem.W.notFirst K C (.type "str") = true
  nL : PySem.W.notFirst K C (.type "list") = true
  nT : PySem.W.notFirst K C (.type "tuple") = true
  nN : PySem.W.notFirst K C (.type "NoneType") = true
theorem scal_w (a b : Option Int) : scal (wV a) (wV b) = true := by cases a <;> cases b <;> rfl
theorem wV_inj {a b : Option Int} (h : wV a = wV b) : a = b := by
  cases a <;> cases b
  · rfl
  · cases h
  · cases h
  · exact congrArg some (V.int.inj h)
theorem mstr_inj {a b : Mn} (h : a.str = b.str) : a = b := by
  revert h
  cases a <;> cases b <;> first | (intro _; rfl) | (intro h; exact absurd h (by decide +kernel))
theorem endS_inj {a b : Bool} (h : endS a = endS b) : a = b := by
  revert h
  cases a <;> cases b <;> first | (intro _; rfl) | (intro h; exact absurd h (by decide +kernel))
/-- two forms alike -/
def alikeB (w w2 : Option Int) (pt pt2 : Int) (m m2 : Mn) (st st2 : Bool) : Bool := decide (wV w = wV w2) && (decide (V.int pt = V.int pt2) && (decide (V.str m.str = V.str m2.str) && decide (V.str (endS st) = V.str (endS st2))))
def spEqF (K : PySem.W.Frag) (C : Addr) : Sp := fun vs H Q _ => ∃ (p : Addr) (w : Option Int) (pt : Int) (m : Mn) (st : Bool) (x : V), vs = [.ref p, x] ∧ FormAt C H p w pt m st ∧
  ((∃ (p2 : Addr) (w2 : Option Int) (pt2 : Int) (m2 : Mn) (st2 : Bool), x = .ref p2 ∧ FormAt C H p2 w2 pt2 m2 st2 ∧ Q (.bl (alikeB w w2 pt pt2 m m2 st st2)) H) ∨ (∃ t, TyX K H x t ∧ PySem.W.kitOne K t (.ref C) = some false ∧ Q (.bl false) H))
def wS : Option Int → Str
  | none => "None"
  | some x => Str.ofString (toString x)
/-- what str and repr tell -/
def strF (w : Option Int) (pt : Int) (m : Mn) (st : Bool) : Str := match w with
  | none => Str.empty ++ "free." ++ Str.ofString (toString pt) ++ " " ++ m.str ++ " " ++ endS st
  | some x => Str.empty ++ Str.ofString (toString x) ++ "." ++ Str.ofString (toString pt) ++ " " ++ m.str ++ " " ++ endS st
def repF (w : Option Int) (pt : Int) (m : Mn) (st : Bool) : Str := Str.empty ++ "Form(" ++ wS w ++ ", " ++ Str.ofString (toString pt) ++ ", " ++ reprText m.str ++ ", " ++ reprText (endS st) ++ ")"
def spStrF (C : Addr) : Sp := spF C fun w pt m st H Q => Q (.str (strF w pt m st)) H
def spRepF (C : Addr) : Sp := spF C fun w pt m st H Q => Q (.str (repF w pt m st)) H
section
variable {P : Program} {w : World} {K : PySem.W.Frag} {mg : Str → Option Value} {base : Heap}
theorem sc_Form___eq__ : FnScope ["self", "other"] ["self", "other"] (defScope s_Form___eq__) := ⟨rfl, rfl, rfl, by decide +kernel, rfl, by decide +kernel, by decide +kernel⟩
theorem ok_Form___eq__ {f : Addr} {fd : FuncData} {k : Nat} {C : Addr} (T : FTxt K mg C) (X : FX K mg C) (F : Fun K "__eq__" "Form.__eq__" s_Form___eq__ f fd) (z : Zs mg) : FnOk P w K mg base CX0 (k + 1) f fd ["self", "other"] (spEqF K C) := by
  refine F.ok sc_Form___eq__ (fun vs H Q E h => ?_) (fun cdv A outer s H vs Q E hr h => ?_)
  · obtain ⟨p, w, pt, m, st, x, rfl, _⟩ := h
    rfl
  · obtain ⟨p, w, pt, m, st, x, rfl, hf, h⟩ := h
    obtain ⟨⟨dx, ho⟩, hw, h0, h1⟩ := id hf
    refine ⟨_, (pss_one (ps_ret (pe_and (pe_callB call_isi (by rfl) z.isinstance (by decide +kernel) (pa_cons (pv 1) (pa_cons (pe_glob (v := .ref C) (by rfl) X.gC rfl) pa_nil))) (pe_and (pe_cmpR op_eq (pe_fld (pv 0) rfl) (pe_fld (pv 1) rfl) (nomark _)) (pe_and (pe_cmpR op_eq (pe_fld (pv 0) rfl) (pe_fld (pv 1) rfl) (nomark _)) (pe_and (pe_cmpR op_eq (pe_fld (pv 0) rfl) (pe_fld (pv 1) rfl) (nomark _)) (pe_one (pe_cmpR op_eq (pe_fld (pv 0) rfl) (pe_fld (pv 1) rfl) (nomark _))))))))), ?_⟩
    rcases h with ⟨p2, w2, pt2, m2, st2, rfl, hf2, q⟩ | ⟨t, ty, kt, q⟩
    · obtain ⟨⟨dx2, ho2⟩, hw2, _, _⟩ := id hf2
      refine ⟨_, rfl, _, .ref C, .ref C, .ref C, true, rfl, .own C, .base (.ins ho2 T.cl X.ha X.hn X.ht X.hm), X.kC, _, rfl, iteT ?_⟩
      unfold alikeB at q
      refine ⟨_, rfl, p, C, dx, _, _, rfl, ho, T.cl, T.nW, fl_w, _, rfl, p2, C, dx2, _, _, rfl, ho2, T.cl, T.nW, fl_w, scal_w w w2, _, rfl, ?_⟩
      by_cases c1 : wV w = wV w2
      · rw [decide_eq_true c1] at q ⊢
        rw [Bool.true_and] at q
        refine iteT ⟨_, rfl, p, C, dx, _, _, rfl, ho, T.cl, T.nP, fl_p, _, rfl, p2, C, dx2, _, _, rfl, ho2, T.cl, T.nP, fl_p, rfl, _, rfl, ?_⟩
        by_cases c2 : V.int pt = V.int pt2
        · rw [decide_eq_true c2] at q ⊢
          rw [Bool.true_and] at q
          refine iteT ⟨_, rfl, p, C, dx, _, _, rfl, ho, T.cl, T.nM, fl_m, _, rfl, p2, C, dx2, _, _, rfl, ho2, T.cl, T.nM, fl_m, rfl, _, rfl, ?_⟩
          by_cases c3 : V.str m.str = V.str m2.str
          · rw [decide_eq_true c3] at q ⊢
            rw [Bool.true_and] at q
            exact iteT ⟨_, rfl, p, C, dx, _, _, rfl, ho, T.cl, T.nE, fl_e, _, rfl, p2, C, dx2, _, _, rfl, ho2, T.cl, T.nE, fl_e, rfl, q⟩
          · rw [decide_eq_false c3] at q ⊢
            exact iteF q
        · rw [decide_eq_false c2] at q ⊢
          exact iteF q
      · rw [decide_eq_false c1] at q ⊢
        exact iteF q
    · exact ⟨_, rfl, _, .ref C, t, .ref C, false, rfl, .own C, ty, kt, _, rfl, iteF q⟩
theorem sc_Form___str__ : FnScope ["self"] ["self"] (defScope s_Form___str__) := ⟨rfl, rfl, rfl, by decide +kernel, rfl, by decide +kernel, by decide +kernel⟩
theorem sc_Form___repr__ : FnScope ["self"] ["self"] (defScope s_Form___repr__) := ⟨rfl, rfl, rfl, by decide +kernel, rfl, by decide +kernel, by decide +kernel⟩
theorem lg {i : Int} (h0 : -64 ≤ i) (h1 : i ≤ 64) : i.natAbs.log2 < 1920 := by
  have : i.natAbs.log2 ≤ i.natAbs := Nat.log2_le_self _
  omega
theorem ts_len {i : Int} (h0 : -64 ≤ i) (h1 : i ≤ 64) : (Str.ofString (toString i)).length ≤ 3 := by
  have key : ∀ n : Fin 129, (Str.ofString (toString (((n : Nat) : Int) - 64))).length ≤ 3 := by decide +kernel
  have := key ⟨(i + 64).toNat, by omega⟩
  rwa [show ((((⟨(i + 64).toNat, by omega⟩ : Fin 129) : Nat) : Int) - 64) = i by show (((i + 64).toNat : Nat) : Int) - 64 = i; omega] at this
theorem m_len (m : Mn) : m.str.length ≤ 4 := by cases m <;> decide +kernel
theorem e_len (st : Bool) : (endS st).length ≤ 4 := by cases st <;> decide +kernel
theorem rm_len (m : Mn) : (reprText m.str).length ≤ 6 := by cases m <;> decide +kernel
theorem re_len (st : Bool) : (reprText (endS st)).length ≤ 6 := by cases st <;> decide +kernel
theorem le0 : Str.empty.length = 0 := rfl
theorem le1 : (Str.ofString "free.").length = 5 := by decide +kernel
theorem le2 : (Str.ofString " ").length = 1 := by decide +kernel
theorem le3 : (Str.ofString ".").length = 1 := by decide +kernel
theorem le4 : (Str.ofString "Form(").length = 5 := by decide +kernel
theorem le5 : (Str.ofString ", ").length = 2 := by decide +kernel
theorem le6 : (Str.ofString ")").length = 1 := by decide +kernel
theorem le7 : (Str.ofString "None").length = 4 := by decide +kernel
theorem ok_Form___str__ {f : Addr} {fd : FuncData} {k : Nat} {C : Addr} (T : FTxt K mg C) (F : Fun K "__str__" "Form.__str__" s_Form___str__ f fd) : FnOk P w K mg base CX0 (k + 1) f fd ["self"] (spStrF C) := by
  refine F.ok sc_Form___str__ (fun vs H Q E h => ?_) (fun cdv A outer s H vs Q E hr h => ?_)
  · obtain ⟨p, w, pt, m, st, rfl, _⟩ := h
    rfl
  · obtain ⟨p, w, pt, m, st, rfl, ⟨⟨dx, ho⟩, hw, h0, h1⟩, q⟩ := h
    refine ⟨_, (pss_cons (ps_if (pt_cmpR op_isN (pe_fld (pv 0) rfl) pe_non (nomark _)) (pss_one (ps_ret (pe_joined (.cons pe_str (.cons (pe_fmt (pe_fld (pv 0) rfl)) (.cons pe_str (.cons (pe_fmt (pe_fld (pv 0) rfl)) (.cons pe_str (.cons (pe_fmt (pe_fld (pv 0) rfl)) .nil))))))))) pss_nil)
      (pss_one (ps_ret (pe_joined (.cons (pe_fmtN (pe_fld (pv 0) rfl)) (.cons pe_str (.cons (pe_fmt (pe_fld (pv 0) rfl)) (.cons pe_str (.cons (pe_fmt (pe_fld (pv 0) rfl)) (.cons pe_str (.cons (pe_fmt (pe_fld (pv 0) rfl)) .nil))))))))))), ?_⟩
    have a1 := ts_len h0 h1
    have a2 := m_len m
    have a3 := e_len st
    have a4 := rm_len m
    have a5 := re_len st
    refine ⟨_, rfl, p, C, dx, _, _, rfl, ho, T.cl, T.nW, fl_w, rfl, _, rfl, ?_⟩
    cases w with
    | none => exact iteT ⟨_, rfl, (by simp only [Str.length_append, le0, le1, le2, le3, le4, le5, le6, le7]; exact Nat.le_of_lt (small1000' (by omega))), _, rfl, p, C, dx, _, _, rfl, ho, T.cl, T.nP, fl_p, .inr ⟨_, rfl, lg h0 h1, _, rfl, (by simp only [Str.length_append, le0, le1, le2, le3, le4, le5, le6, le7]; exact Nat.le_of_lt (small1000' (by omega))), _, rfl, (by simp only [Str.length_append, le0, le1, le2, le3, le4, le5, le6, le7]; exact Nat.le_of_lt (small1000' (by omega))), _, rfl, p, C, dx, _, _, rfl, ho, T.cl, T.nM, fl_m, .inl ⟨_, rfl, Nat.le_of_lt (small1000' (by omega)), _, rfl, (by simp only [Str.length_append, le0, le1, le2, le3, le4, le5, le6, le7]; exact Nat.le_of_lt (small1000' (by omega))), _, rfl, (by simp only [Str.length_append, le0, le1, le2, le3, le4, le5, le6, le7]; exact Nat.le_of_lt (small1000' (by omega))), _, rfl, p, C, dx, _, _, rfl, ho, T.cl, T.nE, fl_e, .inl ⟨_, rfl, Nat.le_of_lt (small1000' (by omega)), _, rfl, (by simp only [Str.length_append, le0, le1, le2, le3, le4, le5, le6, le7]; exact Nat.le_of_lt (small1000' (by omega))), q⟩⟩⟩⟩
    | some x =>
      obtain ⟨x0, x1⟩ := hw x rfl
      have a0 := ts_len (i := x) (by omega) x1
      exact iteF ⟨_, rfl, p, C, dx, _, _, rfl, ho, T.cl, T.nW, fl_w, .inr ⟨_, rfl, lg (by omega) x1, _, rfl, (by simp only [Str.length_append, le0, le1, le2, le3, le4, le5, le6, le7]; exact Nat.le_of_lt (small1000' (by omega))), _, rfl, (by simp only [Str.length_append, le0, le1, le2, le3, le4, le5, le6, le7]; exact Nat.le_of_lt (small1000' (by omega))), _, rfl, p, C, dx, _, _, rfl, ho, T.cl, T.nP, fl_p, .inr ⟨_, rfl, lg h0 h1, _, rfl, (by simp only [Str.length_append, le0, le1, le2, le3, le4, le5, le6, le7]; exact Nat.le_of_lt (small1000' (by omega))), _, rfl, (by simp only [Str.length_append, le0, le1, le2, le3, le4, le5, le6, le7]; exact Nat.le_of_lt (small1000' (by omega))), _, rfl, p, C, dx, _, _, rfl, ho, T.cl, T.nM, fl_m, .inl ⟨_, rfl, Nat.le_of_lt (small1000' (by omega)), _, rfl, (by simp only [Str.length_append, le0, le1, le2, le3, le4, le5, le6, le7]; exact Nat.le_of_lt (small1000' (by omega))), _, rfl, (by simp only [Str.length_append, le0, le1, le2, le3, le4, le5, le6, le7]; exact Nat.le_of_lt (small1000' (by omega))), _, rfl, p, C, dx, _, _, rfl, ho, T.cl, T.nE, fl_e, .inl ⟨_, rfl, Nat.le_of_lt (small1000' (by omega)), _, rfl, (by simp only [Str.length_append, le0, le1, le2, le3, le4, le5, le6, le7]; exact Nat.le_of_lt (small1000' (by omega))), q⟩⟩⟩⟩⟩
theorem ok_Form___repr__ {f : Addr} {fd : FuncData} {k : Nat} {C : Addr} (T : FTxt K mg C) (F : Fun K "__repr__" "Form.__repr__" s_Form___repr__ f fd) : FnOk P w K mg base CX0 (k + 1) f fd ["self"] (spRepF C) := by
  refine F.ok sc_Form___repr__ (fun vs H Q E h => ?_) (fun cdv A outer s H vs Q E hr h => ?_)
  · obtain ⟨p, w, pt, m, st, rfl, _⟩ := h
    rfl
  · obtain ⟨p, w, pt, m, st, rfl, ⟨⟨dx, ho⟩, hw, h0, h1⟩, q⟩ := h
    refine ⟨_, (pss_one (ps_ret (pe_joined (.cons pe_str (.cons (pe_fmtN (pe_fld (pv 0) rfl)) (.cons pe_str (.cons (pe_fmt (pe_fld (pv 0) rfl)) (.cons pe_str (.cons (pe_fmtR (pe_fld (pv 0) rfl)) (.cons pe_str (.cons (pe_fmtR (pe_fld (pv 0) rfl)) (.cons pe_str .nil)))))))))))), ?_⟩
    have a1 := ts_len h0 h1
    have a2 := m_len m
    have a3 := e_len st
    have a4 := rm_len m
    have a5 := re_len st
    cases w with
    | none => exact ⟨_, rfl, (by simp only [Str.length_append, le0, le1, le2, le3, le4, le5, le6, le7]; exact Nat.le_of_lt (small1000' (by omega))), _, rfl, p, C, dx, _, _, rfl, ho, T.cl, T.nW, fl_w, .inl ⟨rfl, _, rfl, (by simp only [Str.length_append, le0, le1, le2, le3, le4, le5, le6, le7]; exact Nat.le_of_lt (small1000' (by omega))), _, rfl, (by simp only [Str.length_append, le0, le1, le2, le3, le4, le5, le6, le7]; exact Nat.le_of_lt (small1000' (by omega))), _, rfl, p, C, dx, _, _, rfl, ho, T.cl, T.nP, fl_p, .inr ⟨_, rfl, lg h0 h1, _, rfl, (by simp only [Str.length_append, le0, le1, le2, le3, le4, le5, le6, le7]; exact Nat.le_of_lt (small1000' (by omega))), _, rfl, (by simp only [Str.length_append, le0, le1, le2, le3, le4, le5, le6, le7]; exact Nat.le_of_lt (small1000' (by omega))), _, rfl, p, C, dx, _, _, rfl, ho, T.cl, T.nM, fl_m, .inl ⟨_, rfl, Nat.le_of_lt (small1000' (by omega)), _, rfl, (by simp only [Str.length_append, le0, le1, le2, le3, le4, le5, le6, le7]; exact Nat.le_of_lt (small1000' (by omega))), _, rfl, (by simp only [Str.length_append, le0, le1, le2, le3, le4, le5, le6, le7]; exact Nat.le_of_lt (small1000' (by omega))), _, rfl, p, C, dx, _, _, rfl, ho, T.cl, T.nE, fl_e, .inl ⟨_, rfl, Nat.le_of_lt (small1000' (by omega)), _, rfl, (by simp only [Str.length_append, le0, le1, le2, le3, le4, le5, le6, le7]; exact Nat.le_of_lt (small1000' (by omega))), _, rfl, (by simp only [Str.length_append, le0, le1, le2, le3, le4, le5, le6, le7]; exact Nat.le_of_lt (small1000' (by omega))), q⟩⟩⟩⟩⟩
    | some x =>
      obtain ⟨x0, x1⟩ := hw x rfl
      have a0 := ts_len (i := x) (by omega) x1
      exact ⟨_, rfl, (by simp only [Str.length_append, le0, le1, le2, le3, le4, le5, le6, le7]; exact Nat.le_of_lt (small1000' (by omega))), _, rfl, p, C, dx, _, _, rfl, ho, T.cl, T.nW, fl_w, .inr ⟨_, rfl, lg (by omega) x1, _, rfl, (by simp only [Str.length_append, le0, le1, le2, le3, le4, le5, le6, le7]; exact Nat.le_of_lt (small1000' (by omega))), _, rfl, (by simp only [Str.length_append, le0, le1, le2, le3, le4, le5, le6, le7]; exact Nat.le_of_lt (small1000' (by omega))), _, rfl, p, C, dx, _, _, rfl, ho, T.cl, T.nP, fl_p, .inr ⟨_, rfl, lg h0 h1, _, rfl, (by simp only [Str.length_append, le0, le1, le2, le3, le4, le5, le6, le7]; exact Nat.le_of_lt (small1000' (by omega))), _, rfl, (by simp only [Str.length_append, le0, le1, le2, le3, le4, le5, le6, le7]; exact Nat.le_of_lt (small1000' (by omega))), _, rfl, p, C, dx, _, _, rfl, ho, T.cl, T.nM, fl_m, .inl ⟨_, rfl, Nat.le_of_lt (small1000' (by omega)), _, rfl, (by simp only [Str.length_append, le0, le1, le2, le3, le4, le5, le6, le7]; exact Nat.le_of_lt (small1000' (by omega))), _, rfl, (by simp only [Str.length_append, le0, le1, le2, le3, le4, le5, le6, le7]; exact Nat.le_of_lt (small1000' (by omega))), _, rfl, p, C, dx, _, _, rfl, ho, T.cl, T.nE, fl_e, .inl ⟨_, rfl, Nat.le_of_lt (small1000' (by omega)), _, rfl, (by simp only [Str.length_append, le0, le1, le2, le3, le4, le5, le6, le7]; exact Nat.le_of_lt (small1000' (by omega))), _, rfl, (by simp only [Str.length_append, le0, le1, le2, le3, le4, le5, le6, le7]; exact Nat.le_of_lt (small1000' (by omega))), q⟩⟩⟩⟩⟩
end
end E1

namespace E1
open PySem PySem.Spec PyProof.Rows L2

abbrev PL (w : Option Int) (pt : Int) (m : Mn) (st : Bool) : List V := [wV w, .int pt, .str m.str, .str (endS st)]
structure Ok4 (w : Option Int) (pt : Int) : Prop where
  wo : WOk w
  p0 : -64 ≤ pt
  p1 : pt ≤ 64
def spParts : Sp := fun vs H Q _ => ∃ (a : Addr) (c : Int), vs = [.ref a] ∧ WellAt H a c ∧ c ≤ 100000 ∧ ∀ (w : Option Int) (pt : Int) (m : Mn) (st : Bool) (p : Addr) (H' : Hp), Ok4 w pt → H p = none → SameBut a H H' → H' p = some (.lst (PL w pt m st)) → WellAt H' a (c + 10) → Q (.ref p) H'
def spOther (K : PySem.W.Frag) : Sp := fun vs H Q _ => ∃ (b a : Addr) (c : Int) (w : Option Int) (pt : Int) (m : Mn) (st : Bool), vs = [.ref b, .ref a] ∧ H b = some (.lst (PL w pt m st)) ∧ Ok4 w pt ∧ b ≠ a ∧ WellAt H a c ∧ c ≤ 100000 ∧
  ∀ (w2 : Option Int) (pt2 : Int) (m2 : Mn) (st2 : Bool) (p : Addr) (H' : Hp), Ok4 w2 pt2 → alikeB w w2 pt pt2 m m2 st st2 = false → H p = none → SameBut a H H' → H' p = some (.lst (PL w2 pt2 m2 st2)) → WellAt H' a (c + 10) → Q (.ref p) H'
def spTwoL : Sp := fun vs H Q _ => ∃ n : Int, vs = [.int n] ∧ 0 ≤ n ∧ n ≤ 64 ∧ Q (.int (two n)) H
def spRoom (K : PySem.W.Frag) : Sp := fun vs H Q _ => ∃ (b : Addr) (w : Option Int) (pt : Int) (m : Mn) (st : Bool), vs = [.ref b] ∧ H b = some (.lst (PL w pt m st)) ∧ WOk w ∧ ∀ p, H p = none → Q (.ref p) (upd H p (.tup [lstV w, grtV w]))
def spWholeL : Sp := fun vs H Q _ => ∃ x : V, vs = [x, x] ∧ (x = .non ∨ ∃ n, x = .int n) ∧ Q (.bl true) H
theorem man7 {r : Int} (h0 : 0 ≤ r) (h1 : r < 7) : ∃ m : Mn, atI [V.str "down", V.str "up", V.str "in", V.str "out", V.str "half", V.str "even", V.str "far"] r = some (.str m.str) := by
  rcases (by omega : r = 0 ∨ r = 1 ∨ r = 2 ∨ r = 3 ∨ r = 4 ∨ r = 5 ∨ r = 6) with rfl | rfl | rfl | rfl | rfl | rfl | rfl
  · exact ⟨.down, rfl⟩
  · exact ⟨.up, rfl⟩
  · exact ⟨.inn, rfl⟩
  · exact ⟨.out, rfl⟩
  · exact ⟨.half, rfl⟩
  · exact ⟨.even, rfl⟩
  · exact ⟨.far, rfl⟩
def mix : Mn → Nat
  | .down => 0
  | .up => 1
  | .inn => 2
  | .out => 3
  | .half => 4
  | .even => 5
  | .far => 6
theorem mix_at (m : Mn) : ([V.str "down", V.str "up", V.str "in", V.str "out", V.str "half", V.str "even", V.str "far"] : List V)[mix m]? = some (.str m.str) := by cases m <;> rfl
theorem mix_first (m : Mn) (j : Nat) (z : V) (h : j < mix m) (e : ([V.str "down", V.str "up", V.str "in", V.str "out", V.str "half", V.str "even", V.str "far"] : List V)[j]? = some z) : eqV z (.str m.str) = false := by
  revert h e
  cases m <;> (intro h e; (rcases (by simp only [mix] at h; omega : j = 0 ∨ j = 1 ∨ j = 2 ∨ j = 3 ∨ j = 4 ∨ j = 5) with rfl | rfl | rfl | rfl | rfl | rfl) <;> first | (simp only [mix] at h; omega) | (cases e; decide +kernel))
theorem man_other {m : Mn} {r : Int} (h0 : 0 ≤ r) (h1 : r < 6) : ∃ m2 : Mn, atI [V.str "down", V.str "up", V.str "in", V.str "out", V.str "half", V.str "even", V.str "far"] (((mix m : Nat) + 1 + r : Int) % 7) = some (.str m2.str) ∧ m2 ≠ m := by
  rcases (by omega : r = 0 ∨ r = 1 ∨ r = 2 ∨ r = 3 ∨ r = 4 ∨ r = 5) with rfl | rfl | rfl | rfl | rfl | rfl <;> cases m
  · exact ⟨.up, rfl, fun z => by cases z⟩
  · exact ⟨.inn, rfl, fun z => by cases z⟩
  · exact ⟨.out, rfl, fun z => by cases z⟩
  · exact ⟨.half, rfl, fun z => by cases z⟩
  · exact ⟨.even, rfl, fun z => by cases z⟩
  · exact ⟨.far, rfl, fun z => by cases z⟩
  · exact ⟨.down, rfl, fun z => by cases z⟩
  · exact ⟨.inn, rfl, fun z => by cases z⟩
  · exact ⟨.out, rfl, fun z => by cases z⟩
  · exact ⟨.half, rfl, fun z => by cases z⟩
  · exact ⟨.even, rfl, fun z => by cases z⟩
  · exact ⟨.far, rfl, fun z => by cases z⟩
  · exact ⟨.down, rfl, fun z => by cases z⟩
  · exact ⟨.up, rfl, fun z => by cases z⟩
  · exact ⟨.out, rfl, fun z => by cases z⟩
  · exact ⟨.half, rfl, fun z => by cases z⟩
  · exact ⟨.even, rfl, fun z => by cases z⟩
  · exact ⟨.far, rfl, fun z => by cases z⟩
  · exact ⟨.down, rfl, fun z => by cases z⟩
  · exact ⟨.up, rfl, fun z => by cases z⟩
  · exact ⟨.inn, rfl, fun z => by cases z⟩
  · exact ⟨.half, rfl, fun z => by cases z⟩
  · exact ⟨.even, rfl, fun z => by cases z⟩
  · exact ⟨.far, rfl, fun z => by cases z⟩
  · exact ⟨.down, rfl, fun z => by cases z⟩
  · exact ⟨.up, rfl, fun z => by cases z⟩
  · exact ⟨.inn, rfl, fun z => by cases z⟩
  · exact ⟨.out, rfl, fun z => by cases z⟩
  · exact ⟨.even, rfl, fun z => by cases z⟩
  · exact ⟨.far, rfl, fun z => by cases z⟩
  · exact ⟨.down, rfl, fun z => by cases z⟩
  · exact ⟨.up, rfl, fun z => by cases z⟩
  · exact ⟨.inn, rfl, fun z => by cases z⟩
  · exact ⟨.out, rfl, fun z => by cases z⟩
  · exact ⟨.half, rfl, fun z => by cases z⟩
  · exact ⟨.far, rfl, fun z => by cases z⟩
  · exact ⟨.down, rfl, fun z => by cases z⟩
  · exact ⟨.up, rfl, fun z => by cases z⟩
  · exact ⟨.inn, rfl, fun z => by cases z⟩
  · exact ⟨.out, rfl, fun z => by cases z⟩
  · exact ⟨.half, rfl, fun z => by cases z⟩
  · exact ⟨.even, rfl, fun z => by cases z⟩
theorem end_at {r : Int} (h0 : 0 ≤ r) (h1 : r < 2) : ∃ st, atI [V.str "wrap", V.str "stop"] r = some (.str (endS st)) := by
  rcases (by omega : r = 0 ∨ r = 1) with rfl | rfl
  · exact ⟨false, rfl⟩
  · exact ⟨true, rfl⟩
section
variable {P : Program} {w : World} {K : PySem.W.Frag} {mg : Str → Option Value} {base : Heap}
theorem sc__law_parts : FnScope ["_law_well_here", "_law_breadth", "_law_style", "_law_spot"] ["_law_well_here"] (defScope s__law_parts) := ⟨rfl, rfl, rfl, by decide +kernel, rfl, by decide +kernel, by decide +kernel⟩
theorem ok__law_parts {f : Addr} {fd : FuncData} (F : Fun K "_law_parts" "_law_parts" s__law_parts f fd) (c__law_draw : Cal P w K mg base 1 "_law_draw" ["_law_well_here", "_law_many"] spDraw) : FnOk P w K mg base CX0 2 f fd ["_law_well_here"] spParts := by
  refine F.ok sc__law_parts (fun vs H Q E h => ?_) (fun cdv A outer s H vs Q E hr h => ?_)
  · obtain ⟨a, c, rfl, _⟩ := h
    rfl
  · obtain ⟨a, c, rfl, hw, hc, q⟩ := h
    refine ⟨_, (pss_cons (ps_set (i := 1) sc__law_parts.nd rfl (.inl rfl) (pe_op op_add pe_int (pe_cal c__law_draw hr (pa_cons (pv 0) (pa_cons pe_int pa_nil)))))
      (C8.pss_cut (ps_if (pt_cmpR op_eq (pe_cal c__law_draw hr (pa_cons (pv 0) (pa_cons pe_int pa_nil))) pe_int (nomark _)) (pss_one (ps_set (i := 1) sc__law_parts.nd rfl (.inl rfl) pe_non)) pss_nil)
      (pss_cons (ps_set (i := 2) sc__law_parts.nd rfl (.inl rfl) (pe_ix ix_list (pe_lst (pa_cons pe_str (pa_cons pe_str (pa_cons pe_str (pa_cons pe_str (pa_cons pe_str (pa_cons pe_str (pa_cons pe_str pa_nil)))))))) (pe_cal c__law_draw hr (pa_cons (pv 0) (pa_cons pe_int pa_nil))) (fun _ _ => rfl)))
      (pss_cons (ps_set (i := 3) sc__law_parts.nd rfl (.inl rfl) (pe_ix ix_list (pe_lst (pa_cons pe_int (pa_cons (pe_op op_sub (pe_cal c__law_draw hr (pa_cons (pv 0) (pa_cons pe_int pa_nil))) pe_int) (pa_cons pe_int (pa_cons (pe_un un_neg pe_int) pa_nil))))) (pe_cal c__law_draw hr (pa_cons (pv 0) (pa_cons pe_int pa_nil))) (fun _ _ => rfl)))
      (pss_one (ps_ret (pe_lst (pa_cons (pv 1) (pa_cons (pv 3) (pa_cons (pv 2) (pa_cons (pe_ix ix_list (pe_lst (pa_cons pe_str (pa_cons pe_str pa_nil))) (pe_cal c__law_draw hr (pa_cons (pv 0) (pa_cons pe_int pa_nil))) (fun _ _ => rfl)) pa_nil))))))))))), ?_⟩
    refine ⟨_, rfl, a, c, 63, rfl, hw, by omega, by decide, by decide, fun r1 H1 r10 r11 d1 d1' w1 => ⟨_, _, rfl, rfl, ?_⟩⟩
    refine ⟨fun σ H' => ∃ w : Option Int, σ = [some (.ref a), some (wV w), none, none] ∧ WOk w ∧ Drw a H H' ∧ WellAt H' a (c + 2), ?_, fun σ H2 hM => ?_⟩
    · refine ⟨_, rfl, a, c + 1, 5, rfl, w1, by omega, by decide, by decide, fun r2 H2 r20 r21 d2 d2' w2 => ⟨rfl, _, rfl, ite2 (fun _ => ?_) (fun _ => ?_)⟩⟩
      · exact ⟨none, rfl, (fun _ z => by cases z), Drw.trans ⟨d1, d1'⟩ ⟨d2, d2'⟩, w2.mono (by omega)⟩
      · exact ⟨some (2 + r1), rfl, (fun x z => by cases z; omega), Drw.trans ⟨d1, d1'⟩ ⟨d2, d2'⟩, w2.mono (by omega)⟩
    obtain ⟨w, rfl, hwo, D2, w2⟩ := hM
    clear d1 d1' w1
    refine ⟨(by show 7 ≤ sizeLine; decide), fun l3 hl3 => ?_⟩
    have q3 := same_new (o := .lst [V.str "down", V.str "up", V.str "in", V.str "out", V.str "half", V.str "even", V.str "far"]) hl3
    have n3 : l3 ≠ a := w2.ne hl3
    refine ⟨_, rfl, a, c + 2, 7, rfl, (w2.same q3), by omega, by decide, by decide, fun r3 H3 r30 r31 d3 d3' w3 => ?_⟩
    obtain ⟨m, hm⟩ := man7 r30 r31
    refine ⟨l3, _, r3, _, rfl, rfl, SqL.of (d3 _ _ n3 upd_same), hm, ?_⟩
    refine ⟨_, rfl, a, c + 2 + 1, 129, rfl, w3, by omega, by decide, by decide, fun r4 H4 r40 r41 d4 d4' w4 => ⟨_, _, rfl, rfl, _, rfl, (by show 4 ≤ sizeLine; decide), fun l5 hl5 => ?_⟩⟩
    have q5 := same_new (o := .lst [V.int 0, V.int (r4 - 64), V.int 64, V.int (-64)]) hl5
    have n5 : l5 ≠ a := w4.ne hl5
    refine ⟨_, rfl, a, c + 2 + 1 + 1, 4, rfl, (w4.same q5), by omega, by decide, by decide, fun r5 H5 r50 r51 d5 d5' w5 => ?_⟩
    obtain ⟨pt, hpt, p0, p1⟩ : ∃ pt, atI [V.int 0, V.int (r4 - 64), V.int 64, V.int (-64)] r5 = some (.int pt) ∧ -64 ≤ pt ∧ pt ≤ 64 := by
      rcases (by omega : r5 = 0 ∨ r5 = 1 ∨ r5 = 2 ∨ r5 = 3) with rfl | rfl | rfl | rfl
      · exact ⟨_, rfl, by omega, by omega⟩
      · exact ⟨_, rfl, by omega, by omega⟩
      · exact ⟨_, rfl, by omega, by omega⟩
      · exact ⟨_, rfl, by omega, by omega⟩
    refine ⟨l5, _, r5, _, rfl, rfl, SqL.of (d5 _ _ n5 upd_same), hpt, ?_⟩
    refine ⟨_, rfl, _, rfl, _, rfl, (by show 2 ≤ sizeLine; decide), fun l6 hl6 => ?_⟩
    have q6 := same_new (o := .lst [V.str "wrap", V.str "stop"]) hl6
    have n6 : l6 ≠ a := w5.ne hl6
    refine ⟨_, rfl, a, c + 2 + 1 + 1 + 1, 2, rfl, (w5.same q6), by omega, by decide, by decide, fun r6 H6 r60 r61 d6 d6' w6 => ?_⟩
    obtain ⟨st, hst⟩ := end_at r60 r61
    refine ⟨l6, _, r6, _, rfl, rfl, SqL.of (d6 _ _ n6 upd_same), hst, (by show 4 ≤ sizeLine; decide), fun p hp => ?_⟩
    have S6 : SameBut a H H6 := ((D2.but.trans (SameBut.of q3)).trans (d3.trans d4)).trans (((SameBut.of q5).trans d5).trans ((SameBut.of q6).trans d6))
    exact q w pt m st p _ ⟨hwo, p0, p1⟩ (S6.free w6 hp) (S6.trans (SameBut.of (same_new hp))) upd_same ((w6.same (same_new hp)).mono (by omega))
theorem sc__law_two : FnScope ["_law_many", "_law_found", "_law_k"] ["_law_many"] (defScope s__law_two) := ⟨rfl, rfl, rfl, by decide +kernel, rfl, by decide +kernel, by decide +kernel⟩
theorem ok__law_two {f : Addr} {fd : FuncData} {k : Nat} (F : Fun K "_law_two" "_law_two" s__law_two f fd) (z : Zs mg) : FnOk P w K mg base CX0 (k + 1) f fd ["_law_many"] spTwoL := by
  refine F.ok sc__law_two (fun vs H Q E h => ?_) (fun cdv A outer s H vs Q E hr h => ?_)
  · obtain ⟨n, rfl, _⟩ := h
    rfl
  · obtain ⟨n, rfl, n0, n1, q⟩ := h
    refine ⟨_, (pss_cons (ps_set (i := 1) sc__law_two.nd rfl (.inl rfl) pe_int)
      (pss_cons (ps_for PassesOwn.never rfl (pi_range1 (by rfl) z.range (pa_cons (pv 0) pa_nil)) (pg_name (i := 2) sc__law_two.nd rfl (.inl rfl)) (pss_one (ps_set (i := 1) sc__law_two.nd rfl (.inl rfl) (pe_op op_mul (pv 1) pe_int))))
      (pss_one (ps_ret (pv 1))))), ?_⟩
    obtain ⟨k, rfl⟩ := Int.eq_ofNat_of_zero_le n0
    refine ⟨_, rfl, k, rfl, by omega, by omega, for_range (n := k) (fun i σ H' => ∃ yy : Option V, σ = [some (.int (k : Int)), some (.int (2 ^ i)), yy] ∧ H' = H) ⟨none, rfl, rfl⟩ (fun i σ H2 hi hP => ?_) (fun σ H2 hP => ?_)⟩
    · obtain ⟨yy, rfl, rfl⟩ := hP
      refine ⟨_, rfl, _, _, rfl, rfl, .inr ⟨by decide, by decide⟩, ⟨some (V.int (0 + (i : Int))), ?_, rfl⟩⟩
      rw [Int.pow_succ]
      rfl
    · obtain ⟨yy, rfl, rfl⟩ := hP
      exact ⟨_, rfl, q⟩
theorem sc__law_room : FnScope ["_law_parts_here"] ["_law_parts_here"] (defScope s__law_room) := ⟨rfl, rfl, rfl, by decide +kernel, rfl, by decide +kernel, by decide +kernel⟩
theorem ok__law_room {f : Addr} {fd : FuncData} (F : Fun K "_law_room" "_law_room" s__law_room f fd) (c__law_two : Cal P w K mg base 1 "_law_two" ["_law_many"] spTwoL) : FnOk P w K mg base CX0 2 f fd ["_law_parts_here"] (spRoom K) := by
  refine F.ok sc__law_room (fun vs H Q E h => ?_) (fun cdv A outer s H vs Q E hr h => ?_)
  · obtain ⟨b, w, pt, m, st, rfl, _⟩ := h
    rfl
  · obtain ⟨b, w, pt, m, st, rfl, hb, hwo, q⟩ := h
    refine ⟨_, (pss_cons (ps_if (pt_cmpR op_isN (pe_ix ix_list (pv 0) pe_int (fun _ _ => rfl)) pe_non (nomark _)) (pss_one (ps_ret (pe_tup (pa_cons pe_non (pa_cons pe_non pa_nil))))) pss_nil)
      (pss_one (ps_ret (pe_tup (pa_cons (pe_op op_sub pe_int (pe_cal c__law_two hr (pa_cons (pe_op op_sub (pe_ix ix_list (pv 0) pe_int (fun _ _ => rfl)) pe_int) pa_nil))) (pa_cons (pe_op op_sub (pe_cal c__law_two hr (pa_cons (pe_op op_sub (pe_ix ix_list (pv 0) pe_int (fun _ _ => rfl)) pe_int) pa_nil)) pe_int) pa_nil)))))), ?_⟩
    refine ⟨_, rfl, b, _, 0, _, rfl, rfl, SqL.of hb, a0, rfl, _, rfl, ?_⟩
    cases w with
    | none => exact iteT ⟨(by show 2 ≤ sizeLine; decide), q⟩
    | some x =>
      obtain ⟨x0, x1⟩ := hwo x rfl
      refine iteF ⟨_, rfl, b, _, 0, _, rfl, rfl, SqL.of hb, a0, _, _, rfl, rfl, x - 1, rfl, by omega, by omega, _, _, rfl, rfl, _, rfl, b, _, 0, _, rfl, rfl, SqL.of hb, a0, _, _, rfl, rfl, x - 1, rfl, by omega, by omega, _, _, rfl, rfl, (by show 2 ≤ sizeLine; decide), fun p hp => ?_⟩
      have e := q p hp
      unfold lstV grtV lst grt at e
      show Q (.ref p) (upd H p (.tup [.int (0 - two (x - 1)), .int (two (x - 1) - 1)]))
      rw [Int.zero_sub]
      exact e
theorem sc__law_whole : FnScope ["_law_found", "_law_due"] ["_law_found", "_law_due"] (defScope s__law_whole) := ⟨rfl, rfl, rfl, by decide +kernel, rfl, by decide +kernel, by decide +kernel⟩
theorem ok__law_whole {f : Addr} {fd : FuncData} {k : Nat} (F : Fun K "_law_whole" "_law_whole" s__law_whole f fd) (z : Zs mg) : FnOk P w K mg base CX0 (k + 1) f fd ["_law_found", "_law_due"] spWholeL := by
  refine F.ok sc__law_whole (fun vs H Q E h => ?_) (fun cdv A outer s H vs Q E hr h => ?_)
  · obtain ⟨x, rfl, _⟩ := h
    rfl
  · obtain ⟨x, rfl, hx, q⟩ := h
    refine ⟨_, (pss_cons (ps_if (pt_cmpR op_isN (pv 1) pe_non (nomark _)) (pss_one (ps_ret (pe_cmpR op_isN (pv 0) pe_non (nomark _)))) pss_nil)
      (pss_one (ps_ret (pe_and (pe_callB call_isi (by rfl) z.isinstance (by decide +kernel) (pa_cons (pv 0) (pa_cons (pe_bltn (v := .ty "int") (by rfl) z.int (by decide +kernel) rfl) pa_nil))) (pe_and (pe_not (pe_callB call_isi (by rfl) z.isinstance (by decide +kernel) (pa_cons (pv 0) (pa_cons (pe_bltn (v := .ty "bool") (by rfl) z.bool (by decide +kernel) rfl) pa_nil)))) (pe_one (pe_cmpR op_eq (pv 0) (pv 1) (nomark _)))))))), ?_⟩
    rcases hx with rfl | ⟨n, rfl⟩
    · exact ⟨_, rfl, rfl, _, rfl, iteT ⟨_, rfl, rfl, q⟩⟩
    · refine ⟨_, rfl, rfl, _, rfl, iteF ⟨_, rfl, _, .ty "int", _, _, true, rfl, .ty _, .base (.int n), kit_ty (by decide +kernel), _, rfl, iteT ⟨_, rfl, _, .ty "bool", _, _, false, rfl, .ty _, .base (.int n), kit_ty (by decide +kernel), _, rfl, _, rfl, iteT ⟨_, rfl, _, rfl, rfl, ?_⟩⟩⟩⟩
      exact qt (Q := Q) rfl q
theorem sc__law_other : FnScope ["_law_parts_here", "_law_well_here", "_law_found", "_law_at", "_law_manners"] ["_law_parts_here", "_law_well_here"] (defScope s__law_other) := ⟨rfl, rfl, rfl, by decide +kernel, rfl, by decide +kernel, by decide +kernel⟩
theorem but_set {a l : Addr} {H H' : Hp} {o : HO} (s : SameBut a H H') (h : H l = none) : SameBut a H (upd H' l o) := fun b x n e => by
  rw [upd_ne (ne_of_none e h)]
  exact s b x n e
theorem well_set {a l : Addr} {H : Hp} {c : Int} {o : HO} (w : WellAt H a c) (n : l ≠ a) : WellAt (upd H l o) a c := by
  obtain ⟨x, y, z, e, r⟩ := w
  exact ⟨x, y, z, by rw [upd_ne n.symm]; exact e, r⟩
theorem al_w {w w2 : Option Int} {pt pt2 : Int} {m m2 : Mn} {st st2 : Bool} (h : w ≠ w2) : alikeB w w2 pt pt2 m m2 st st2 = false := by
  unfold alikeB
  rw [decide_eq_false (fun z => h (wV_inj z)), Bool.false_and]
theorem al_p {w w2 : Option Int} {pt pt2 : Int} {m m2 : Mn} {st st2 : Bool} (h : pt ≠ pt2) : alikeB w w2 pt pt2 m m2 st st2 = false := by
  unfold alikeB
  rw [decide_eq_false (fun z => h (V.int.inj z)), Bool.false_and, Bool.and_false]
theorem al_m {w w2 : Option Int} {pt pt2 : Int} {m m2 : Mn} {st st2 : Bool} (h : m ≠ m2) : alikeB w w2 pt pt2 m m2 st st2 = false := by
  unfold alikeB
  rw [decide_eq_false (fun z => h (mstr_inj (V.str.inj z))), Bool.false_and, Bool.and_false, Bool.and_false]
theorem al_e {w w2 : Option Int} {pt pt2 : Int} {m m2 : Mn} {st st2 : Bool} (h : st ≠ st2) : alikeB w w2 pt pt2 m m2 st st2 = false := by
  unfold alikeB
  rw [decide_eq_false (fun z => h (endS_inj (V.str.inj z))), Bool.and_false, Bool.and_false, Bool.and_false]
theorem al_same (w : Option Int) (pt : Int) (m : Mn) (st : Bool) : alikeB w w pt pt m m st st = true := by
  unfold alikeB
  rw [decide_eq_true rfl, decide_eq_true rfl, decide_eq_true rfl, decide_eq_true rfl]
  rfl
theorem ok__law_other {f : Addr} {fd : FuncData} (F : Fun K "_law_other" "_law_other" s__law_other f fd) (z : Zs mg) (c__law_draw : Cal P w K mg base 1 "_law_draw" ["_law_well_here", "_law_many"] spDraw) : FnOk P w K mg base CX0 2 f fd ["_law_parts_here", "_law_well_here"] (spOther K) := by
  refine F.ok sc__law_other (fun vs H Q E h => ?_) (fun cdv A outer s H vs Q E hr h => ?_)
  · obtain ⟨b, a, c, w, pt, m, st, rfl, _⟩ := h
    rfl
  · obtain ⟨b, a, c, w, pt, m, st, rfl, hb, ok, nba, hw, hc, q⟩ := h
    refine ⟨_, (pss_cons (ps_set (i := 2) sc__law_other.nd rfl (.inl rfl) (pe_callTy call_list_of (by rfl) z.list (by decide +kernel) (pa_cons (pv 0) pa_nil)))
      (pss_cons (ps_set (i := 3) sc__law_other.nd rfl (.inl rfl) (pe_cal c__law_draw hr (pa_cons (pv 1) (pa_cons pe_int pa_nil))))
      (C8.pss_cut (ps_if (pt_cmpR op_eq (pv 3) pe_int (nomark _)) (pss_cons (ps_asg (pe_ix ix_list (pe_lst (pa_cons (pe_op op_add pe_int (pe_cal c__law_draw hr (pa_cons (pv 1) (pa_cons pe_int pa_nil)))) (pa_cons pe_non pa_nil))) (pe_cal c__law_draw hr (pa_cons (pv 1) (pa_cons pe_int pa_nil))) (fun _ _ => rfl)) (pg_sub (pv 2) pe_int set_list))
      (pss_one (ps_if (pt_cmpR op_eq (pe_ix ix_list (pv 2) pe_int (fun _ _ => rfl)) (pe_ix ix_list (pv 0) pe_int (fun _ _ => rfl)) (nomark _)) (pss_one (ps_asg (pe_ix ix_list (pe_lst (pa_cons pe_int (pa_cons pe_non pa_nil))) (pe_callTy call_int1 (by rfl) z.int (by decide +kernel) (pa_cons (pe_cmpR op_notN (pe_ix ix_list (pv 0) pe_int (fun _ _ => rfl)) pe_non (nomark _)) pa_nil)) (fun _ _ => rfl)) (pg_sub (pv 2) pe_int set_list))) pss_nil))) pss_nil)
      (C8.pss_cut (ps_if (pt_cmpR op_eq (pv 3) pe_int (nomark _)) (pss_cons (ps_asg (pe_op op_sub (pe_cal c__law_draw hr (pa_cons (pv 1) (pa_cons pe_int pa_nil))) pe_int) (pg_sub (pv 2) pe_int set_list))
      (pss_one (ps_if (pt_cmpR op_eq (pe_ix ix_list (pv 2) pe_int (fun _ _ => rfl)) (pe_ix ix_list (pv 0) pe_int (fun _ _ => rfl)) (nomark _)) (pss_one (ps_asg (pe_ix ix_list (pe_lst (pa_cons pe_int (pa_cons pe_int pa_nil))) (pe_callTy call_int1 (by rfl) z.int (by decide +kernel) (pa_cons (pe_cmpR op_ne (pe_ix ix_list (pv 0) pe_int (fun _ _ => rfl)) pe_int (nomark _)) pa_nil)) (fun _ _ => rfl)) (pg_sub (pv 2) pe_int set_list))) pss_nil))) pss_nil)
      (C8.pss_cut (ps_if (pt_cmpR op_eq (pv 3) pe_int (nomark _)) (pss_cons (ps_set (i := 4) sc__law_other.nd rfl (.inl rfl) (pe_lst (pa_cons pe_str (pa_cons pe_str (pa_cons pe_str (pa_cons pe_str (pa_cons pe_str (pa_cons pe_str (pa_cons pe_str pa_nil)))))))))
      (pss_one (ps_asg (pe_ix ix_list (pv 4) (pe_op op_mod (pe_op op_add (pe_op op_add (pe_bm PySem.F.plainAttrs_list PySem.F.slot_list_index PySem.F.type_list_index mt_index (pv 4) (pa_cons (pe_ix ix_list (pv 0) pe_int (fun _ _ => rfl)) pa_nil)) pe_int) (pe_cal c__law_draw hr (pa_cons (pv 1) (pa_cons pe_int pa_nil)))) pe_int) (fun _ _ => rfl)) (pg_sub (pv 2) pe_int set_list)))) pss_nil)
      (C8.pss_cut (ps_if (pt_cmpR op_eq (pv 3) pe_int (nomark _)) (pss_one (ps_asg (pe_ix ix_list (pe_lst (pa_cons pe_str (pa_cons pe_str pa_nil))) (pe_callTy call_int1 (by rfl) z.int (by decide +kernel) (pa_cons (pe_cmpR op_eq (pe_ix ix_list (pv 0) pe_int (fun _ _ => rfl)) pe_str (nomark _)) pa_nil)) (fun _ _ => rfl)) (pg_sub (pv 2) pe_int set_list))) pss_nil)
      (pss_one (ps_ret (pv 2))))))))), ?_⟩
    refine ⟨_, rfl, b, _, rfl, .inl (SqL.of hb), fun l hl => ?_⟩
    have q0 := same_new (o := .lst (PL w pt m st)) hl
    have nla : l ≠ a := hw.ne hl
    have nlb : l ≠ b := fun e => by rw [e, hb] at hl; cases hl
    refine ⟨_, rfl, a, c, 4, rfl, (hw.same q0), by omega, by decide, by decide, fun r1 H1 r10 r11 d1 d1' w1 => ?_⟩
    obtain ⟨r, hr⟩ : ∃ r, r = r1 := ⟨_, rfl⟩
    rw [← hr] at r10 r11 ⊢
    have S1 : SameBut a H H1 := (SameBut.of q0).trans d1
    have l1 : H1 l = some (.lst (PL w pt m st)) := d1 _ _ nla upd_same
    clear d1 d1' q0 hr
    have hbS : ∀ {H' : Hp}, SameBut a H H' → H' b = some (.lst (PL w pt m st)) := fun s => s _ _ nba hb
    refine ⟨fun σ H' => ∃ (w2 : Option Int) (pt2 : Int) (m2 : Mn) (st2 : Bool) (v4 : Option V), σ = [some (.ref b), some (.ref a), some (.ref l), some (.int r), v4] ∧ Ok4 w2 pt2 ∧ (r < 1 → alikeB w w2 pt pt2 m m2 st st2 = false) ∧ (¬ r < 1 → w2 = w ∧ pt2 = pt ∧ m2 = m ∧ st2 = st) ∧ SameBut a H H' ∧ H' l = some (.lst (PL w2 pt2 m2 st2)) ∧ WellAt H' a (c + 3), ?_, fun σ H2 hM => ?_⟩
    · refine ⟨_, rfl, rfl, _, rfl, ite2 (fun cc => ?_) (fun cc => ?_)⟩
      · have hr0 : r = 0 := V.int.inj (toB cc)
        refine ⟨_, rfl, a, c + 1, 63, rfl, w1, by omega, by decide, by decide, fun r2 H2 r20 r21 d2 d2' w2 => ⟨_, _, rfl, rfl, (by show 2 ≤ sizeLine; decide), fun l3 hl3 => ?_⟩⟩
        have q3 := same_new (o := .lst [V.int (2 + r2), V.non]) hl3
        have n3 : l3 ≠ a := w2.ne hl3
        refine ⟨_, rfl, a, c + 1 + 1, 2, rfl, (w2.same q3), by omega, by decide, by decide, fun r3 H3 r30 r31 d3 d3' w3 => ?_⟩
        obtain ⟨wn, hwn, own⟩ : ∃ wn, atI [V.int (2 + r2), V.non] r3 = some (wV wn) ∧ WOk wn := by
          rcases (by omega : r3 = 0 ∨ r3 = 1) with rfl | rfl
          · exact ⟨some (2 + r2), rfl, fun x z => by cases z; omega⟩
          · exact ⟨none, rfl, fun x z => by cases z⟩
        have S3 : SameBut a H H3 := (S1.trans d2).trans ((SameBut.of q3).trans d3)
        have l3' : H3 l = some (.lst (PL w pt m st)) := d3 _ _ nla (q3 _ _ (d2 _ _ nla l1))
        refine ⟨l3, _, r3, _, rfl, rfl, SqL.of (d3 _ _ n3 upd_same), hwn, _, rfl, l, _, 0, 0, rfl, rfl, l3', rfl, ?_⟩
        have S4 := but_set (o := .lst (PL wn pt m st)) S3 hl
        have W4 := well_set (o := .lst (PL wn pt m st)) w3 nla
        refine ⟨_, rfl, l, _, 0, _, rfl, rfl, SqL.of upd_same, a0, _, rfl, b, _, 0, _, rfl, rfl, SqL.of (hbS S4), a0, scal_w wn w, _, rfl, ite2 (fun c2 => ?_) (fun c2 => ?_)⟩
        · have e := wV_inj (toB c2)
          subst e
          refine ⟨(by show 2 ≤ sizeLine; decide), fun l5 hl5 => ?_⟩
          have q5 := same_new (o := .lst [V.int 2, V.non]) hl5
          refine ⟨_, rfl, b, _, 0, _, rfl, rfl, SqL.of (q5 _ _ (hbS S4)), a0, rfl, ?_⟩
          have l5' := q5 _ _ (upd_same (H := H3) (a := l) (o := .lst (PL wn pt m st)))
          cases wn with
          | none =>
            refine .inr ⟨_, rfl, l5, _, 0, _, rfl, rfl, SqL.of upd_same, rfl, _, rfl, l, _, 0, 0, rfl, rfl, l5', rfl, ?_⟩
            exact ⟨some 2, pt, m, st, none, rfl, ⟨fun x z => by cases z; omega, ok.p0, ok.p1⟩, fun _ => al_w (fun z => by cases z), fun h => by omega, but_set (S4.trans (SameBut.of q5)) hl, upd_same, (well_set (W4.same q5) nla).mono (by omega)⟩
          | some x =>
            refine .inr ⟨_, rfl, l5, _, 1, _, rfl, rfl, SqL.of upd_same, rfl, _, rfl, l, _, 0, 0, rfl, rfl, l5', rfl, ?_⟩
            exact ⟨none, pt, m, st, none, rfl, ⟨(fun x z => by cases z), ok.p0, ok.p1⟩, fun _ => al_w (fun z => by cases z), fun h => by omega, but_set (S4.trans (SameBut.of q5)) hl, upd_same, (well_set (W4.same q5) nla).mono (by omega)⟩
        · have e : wn ≠ w := fun z => toNB c2 (congrArg wV z)
          exact ⟨wn, pt, m, st, none, rfl, ⟨own, ok.p0, ok.p1⟩, fun _ => al_w (fun z => e z.symm), fun h => by omega, S4, upd_same, W4.mono (by omega)⟩
      · have hne : ¬ r = 0 := fun z => toNB cc (congrArg V.int z)
        exact ⟨w, pt, m, st, none, rfl, ok, fun h => by omega, fun _ => ⟨rfl, rfl, rfl, rfl⟩, S1, l1, w1.mono (by omega)⟩
    obtain ⟨w2, pt2, m2, st2, v4, rfl, ok2, al2, nl2, S2, l2, W2⟩ := hM
    clear l1 S1 w1
    refine ⟨fun σ H' => ∃ (w2 : Option Int) (pt2 : Int) (m2 : Mn) (st2 : Bool) (v4 : Option V), σ = [some (.ref b), some (.ref a), some (.ref l), some (.int r), v4] ∧ Ok4 w2 pt2 ∧ (r < 2 → alikeB w w2 pt pt2 m m2 st st2 = false) ∧ (¬ r < 2 → w2 = w ∧ pt2 = pt ∧ m2 = m ∧ st2 = st) ∧ SameBut a H H' ∧ H' l = some (.lst (PL w2 pt2 m2 st2)) ∧ WellAt H' a (c + 5), ?_, fun σ H3 hM => ?_⟩
    · refine ⟨_, rfl, rfl, _, rfl, ite2 (fun cc => ?_) (fun cc => ?_)⟩
      · have hr0 : r = 1 := V.int.inj (toB cc)
        obtain ⟨rfl, rfl, rfl, rfl⟩ := nl2 (by omega)
        refine ⟨_, rfl, a, c + 3, 129, rfl, W2, by omega, by decide, by decide, fun r2 H2x r20 r21 d2 d2' w2x => ⟨_, _, rfl, rfl, _, rfl, l, _, 1, 1, rfl, rfl, d2 _ _ nla l2, rfl, ?_⟩⟩
        have S3 : SameBut a H H2x := S2.trans d2
        have S4 := but_set (o := .lst (PL w2 (r2 - 64) m2 st2)) S3 hl
        have W4 := well_set (o := .lst (PL w2 (r2 - 64) m2 st2)) w2x nla
        refine ⟨_, rfl, l, _, 1, _, rfl, rfl, SqL.of upd_same, a1, _, rfl, b, _, 1, _, rfl, rfl, SqL.of (hbS S4), a1, rfl, _, rfl, ite2 (fun c2 => ?_) (fun c2 => ?_)⟩
        · have e := V.int.inj (toB c2)
          refine ⟨(by show 2 ≤ sizeLine; decide), fun l5 hl5 => ?_⟩
          have q5 := same_new (o := .lst [V.int 1, V.int 0]) hl5
          have l5' := q5 _ _ (upd_same (H := H2x) (a := l) (o := .lst (PL w2 (r2 - 64) m2 st2)))
          refine ⟨_, rfl, b, _, 1, _, rfl, rfl, SqL.of (q5 _ _ (hbS S4)), a1, rfl, ?_⟩
          by_cases z0 : pt2 = 0
          · refine .inr ⟨false, (by rw [decide_eq_true (congrArg V.int z0)]; rfl), l5, _, 0, _, rfl, rfl, SqL.of upd_same, rfl, _, rfl, l, _, 1, 1, rfl, rfl, l5', rfl, ?_⟩
            exact ⟨w2, 1, m2, st2, v4, rfl, ⟨ok2.wo, by omega, by omega⟩, fun _ => al_p (by omega), fun h => by omega, but_set (S4.trans (SameBut.of q5)) hl, upd_same, (well_set (W4.same q5) nla).mono (by omega)⟩
          · refine .inr ⟨true, (by rw [decide_eq_false (fun z => z0 (V.int.inj z))]; rfl), l5, _, 1, _, rfl, rfl, SqL.of upd_same, rfl, _, rfl, l, _, 1, 1, rfl, rfl, l5', rfl, ?_⟩
            exact ⟨w2, 0, m2, st2, v4, rfl, ⟨ok2.wo, by omega, by omega⟩, fun _ => al_p (by omega), fun h => by omega, but_set (S4.trans (SameBut.of q5)) hl, upd_same, (well_set (W4.same q5) nla).mono (by omega)⟩
        · have e : r2 - 64 ≠ pt2 := fun z => toNB c2 (congrArg V.int z)
          exact ⟨w2, r2 - 64, m2, st2, v4, rfl, ⟨ok2.wo, by omega, by omega⟩, fun _ => al_p (fun z => e z.symm), fun h => by omega, S4, upd_same, W4.mono (by omega)⟩
      · have hne : ¬ r = 1 := fun z => toNB cc (congrArg V.int z)
        refine ⟨w2, pt2, m2, st2, v4, rfl, ok2, fun hr => ?_, fun hr => ?_, S2, l2, W2.mono (by omega)⟩
        · exact al2 (by omega)
        · exact nl2 (by omega)
    clear S2 W2 l2 nl2 al2 ok2
    obtain ⟨w2, pt2, m2, st2, v4, rfl, ok2, al2, nl2, S2, l2, W2⟩ := hM
    refine ⟨fun σ H' => ∃ (w2 : Option Int) (pt2 : Int) (m2 : Mn) (st2 : Bool) (v4 : Option V), σ = [some (.ref b), some (.ref a), some (.ref l), some (.int r), v4] ∧ Ok4 w2 pt2 ∧ (r < 3 → alikeB w w2 pt pt2 m m2 st st2 = false) ∧ (¬ r < 3 → w2 = w ∧ pt2 = pt ∧ m2 = m ∧ st2 = st) ∧ SameBut a H H' ∧ H' l = some (.lst (PL w2 pt2 m2 st2)) ∧ WellAt H' a (c + 7), ?_, fun σ H4 hM => ?_⟩
    · refine ⟨_, rfl, rfl, _, rfl, ite2 (fun cc => ?_) (fun cc => ?_)⟩
      · have hr0 : r = 2 := V.int.inj (toB cc)
        obtain ⟨rfl, rfl, rfl, rfl⟩ := nl2 (by omega)
        refine ⟨(by show 7 ≤ sizeLine; decide), fun l5 hl5 => ?_⟩
        have q5 := same_new (o := .lst [V.str "down", V.str "up", V.str "in", V.str "out", V.str "half", V.str "even", V.str "far"]) hl5
        have n5 : l5 ≠ a := W2.ne hl5
        refine ⟨_, rfl, _, rfl, .inl ⟨rfl, _, SqL.of upd_same⟩, _, rfl, b, _, 2, _, rfl, rfl, SqL.of (q5 _ _ (hbS S2)), a2, l5, _, _, mix m2, _, rfl, rfl, SqL.of upd_same, rfl, rfl, mix_at m2, (by cases m2 <;> decide +kernel), mix_first m2, _, _, rfl, rfl, _, rfl, a, c + 5, 6, rfl, (W2.same q5), by omega, by decide, by decide, fun r6 H6 r60 r61 d6 d6' w6 => ⟨_, _, rfl, rfl, _, _, rfl, rfl, (by show (0 : Int) < 7; decide), ?_⟩⟩
        obtain ⟨mo, hmo, nmo⟩ := man_other (m := m2) r60 r61
        refine ⟨l5, _, _, _, rfl, rfl, SqL.of (d6 _ _ n5 upd_same), hmo, _, rfl, l, _, 2, 2, rfl, rfl, d6 _ _ nla (q5 _ _ l2), rfl, ?_⟩
        exact ⟨w2, pt2, mo, st2, _, rfl, ok2, fun _ => al_m (fun z => nmo z.symm), fun h => by omega, but_set ((S2.trans (SameBut.of q5)).trans d6) hl, upd_same, (well_set w6 nla).mono (by omega)⟩
      · have hne : ¬ r = 2 := fun z => toNB cc (congrArg V.int z)
        refine ⟨w2, pt2, m2, st2, v4, rfl, ok2, fun hr => ?_, fun hr => ?_, S2, l2, W2.mono (by omega)⟩
        · exact al2 (by omega)
        · exact nl2 (by omega)
    clear S2 W2 l2 nl2 al2 ok2
    obtain ⟨w2, pt2, m2, st2, v4, rfl, ok2, al2, nl2, S2, l2, W2⟩ := hM
    refine ⟨fun σ H' => ∃ (w2 : Option Int) (pt2 : Int) (m2 : Mn) (st2 : Bool) (v4 : Option V), σ = [some (.ref b), some (.ref a), some (.ref l), some (.int r), v4] ∧ Ok4 w2 pt2 ∧ (r < 4 → alikeB w w2 pt pt2 m m2 st st2 = false) ∧ (¬ r < 4 → w2 = w ∧ pt2 = pt ∧ m2 = m ∧ st2 = st) ∧ SameBut a H H' ∧ H' l = some (.lst (PL w2 pt2 m2 st2)) ∧ WellAt H' a (c + 9), ?_, fun σ H5 hM => ?_⟩
    · refine ⟨_, rfl, rfl, _, rfl, ite2 (fun cc => ?_) (fun cc => ?_)⟩
      · have hr0 : r = 3 := V.int.inj (toB cc)
        obtain ⟨rfl, rfl, rfl, rfl⟩ := nl2 (by omega)
        refine ⟨(by show 2 ≤ sizeLine; decide), fun l5 hl5 => ?_⟩
        have q5 := same_new (o := .lst [V.str "wrap", V.str "stop"]) hl5
        refine ⟨_, rfl, b, _, 3, _, rfl, rfl, SqL.of (q5 _ _ (hbS S2)), atI_nat (j := 3) rfl, rfl, ?_⟩
        cases st2 with
        | true =>
          refine .inr ⟨false, (by decide +kernel), l5, _, 0, _, rfl, rfl, SqL.of upd_same, rfl, _, rfl, l, _, 3, 3, rfl, rfl, q5 _ _ l2, rfl, ?_⟩
          exact ⟨w2, pt2, m2, false, _, rfl, ok2, fun _ => al_e (by decide), fun h => by omega, but_set (S2.trans (SameBut.of q5)) hl, upd_same, (well_set (W2.same q5) nla).mono (by omega)⟩
        | false =>
          refine .inr ⟨true, (by decide +kernel), l5, _, 1, _, rfl, rfl, SqL.of upd_same, rfl, _, rfl, l, _, 3, 3, rfl, rfl, q5 _ _ l2, rfl, ?_⟩
          exact ⟨w2, pt2, m2, true, _, rfl, ok2, fun _ => al_e (by decide), fun h => by omega, but_set (S2.trans (SameBut.of q5)) hl, upd_same, (well_set (W2.same q5) nla).mono (by omega)⟩
      · have hne : ¬ r = 3 := fun z => toNB cc (congrArg V.int z)
        refine ⟨w2, pt2, m2, st2, v4, rfl, ok2, fun hr => ?_, fun hr => ?_, S2, l2, W2.mono (by omega)⟩
        · exact al2 (by omega)
        · exact nl2 (by omega)
    clear S2 W2 l2 nl2 al2 ok2
    obtain ⟨w2, pt2, m2, st2, v4, rfl, ok2, al2, nl2, S2, l2, W2⟩ := hM
    exact ⟨_, rfl, q w2 pt2 m2 st2 l _ ok2 (al2 r11) hl S2 l2 (W2.mono (by omega))⟩
end
end E1

namespace E1
open PySem PySem.Spec PyProof.Rows L2

theorem str_ext {a b : Str} (h : a.cps.toList = b.cps.toList) : a = b := by
  cases a; cases b
  exact congrArg Str.mk (Array.toList_inj.mp h)
theorem str_app (a b : Str) : (a ++ b).cps.toList = a.cps.toList ++ b.cps.toList := by
  show (a.cps ++ b.cps).toList = _
  exact Array.toList_append ..
theorem call_strW {X : Cx} : CallR X (.type "str") (fun xs H Q => ∃ w : Option Int, xs = [wV w] ∧ (∀ x, w = some x → x.natAbs.log2 < 1920) ∧ Q (.str (wS w)) H) := by
  intro pins s σ H xs us Q I r h
  obtain ⟨w, rfl, hw, q⟩ := h
  cases w with
  | none => exact call_str_non pins s σ H _ us Q I r ⟨rfl, q⟩
  | some x => exact call_str_int pins s σ H _ us Q I r ⟨x, rfl, hw x rfl, q⟩
def tailS (pt : Int) (m : Mn) (st : Bool) : Str := Str.ofString (toString pt) ++ Str.ofString " " ++ m.str ++ Str.ofString " " ++ endS st
def headS : Option Int → Str
  | none => Str.ofString "free"
  | some x => Str.ofString (toString x)
theorem str_is (w : Option Int) (pt : Int) (m : Mn) (st : Bool) : strF w pt m st = headS w ++ Str.ofString "." ++ tailS pt m st := by
  refine str_ext ?_
  cases w with
  | none =>
    unfold strF headS tailS
    simp only [str_app, List.append_assoc]
    rfl
  | some x =>
    unfold strF headS tailS
    simp only [str_app, List.append_assoc]
    rfl
def innerS (w : Option Int) (pt : Int) (m : Mn) : Str := wS w ++ Str.ofString ", " ++ Str.ofString (toString pt) ++ Str.ofString ", '" ++ m.str
theorem rep_m (m : Mn) : (reprText m.str).cps.toList = 39 :: (m.str.cps.toList ++ [39]) := by cases m <;> decide +kernel
theorem rep_e (st : Bool) : (reprText (endS st)).cps.toList = 39 :: ((endS st).cps.toList ++ [39]) := by cases st <;> decide +kernel
theorem rep_is (w : Option Int) (pt : Int) (m : Mn) (st : Bool) : repF w pt m st = Str.ofString "Form(" ++ innerS w pt m ++ Str.ofString "', '" ++ endS st ++ Str.ofString "')" := by
  refine str_ext ?_
  unfold repF innerS
  simp only [str_app, rep_m, rep_e, List.append_assoc]
  have e1 : Str.empty.cps.toList = [] := rfl
  have e2 : (Str.ofString ", ").cps.toList = [44, 32] := by decide +kernel
  have e3 : (Str.ofString ", '").cps.toList = [44, 32, 39] := by decide +kernel
  have e4 : (Str.ofString "', '").cps.toList = [39, 44, 32, 39] := by decide +kernel
  have e5 : (Str.ofString "')").cps.toList = [39, 41] := by decide +kernel
  have e6 : (Str.ofString ")").cps.toList = [41] := by decide +kernel
  rw [e1, e2, e3, e4, e5, e6]
  simp only [List.nil_append, List.cons_append, List.append_assoc]
def spTells (C : Addr) : Sp := fun vs H Q _ => ∃ (p b : Addr) (w : Option Int) (pt : Int) (m : Mn) (st : Bool), vs = [.ref p, .ref b] ∧ FormAt C H p w pt m st ∧ H b = some (.lst (PL w pt m st)) ∧ ∀ H', Same H H' → Q (.bl true) H'
theorem eqv2 (a b : Int) : PyData.eqv (.tuple [.int a, .int b]) (.tuple [.int a, .int b]) = true := SeqAt.eqv_refl _ (by rfl)
theorem lf : (Str.ofString "free").length = 4 := by decide +kernel
theorem lx8 : (Str.ofString ", '").length = 3 := by decide +kernel
theorem lx9 : (Str.ofString "', '").length = 4 := by decide +kernel
theorem lx10 : (Str.ofString "')").length = 2 := by decide +kernel
theorem ws_len {w : Option Int} (h : WOk w) : (wS w).length ≤ 4 ∧ (headS w).length ≤ 4 := by
  cases w with
  | none => exact ⟨by decide +kernel, by decide +kernel⟩
  | some x =>
    obtain ⟨a, b⟩ := h x rfl
    have := ts_len (i := x) (by omega) b
    exact ⟨Nat.le_trans this (by decide), Nat.le_trans this (by decide)⟩
theorem w_non {w : Option Int} : wV w = .non ∨ ∃ n, wV w = .int n := by
  cases w with
  | none => exact .inl rfl
  | some x => exact .inr ⟨x, rfl⟩
theorem l_non {w : Option Int} : lstV w = .non ∨ ∃ n, lstV w = .int n := by
  cases w with
  | none => exact .inl rfl
  | some x => exact .inr ⟨_, rfl⟩
theorem g_non {w : Option Int} : grtV w = .non ∨ ∃ n, grtV w = .int n := by
  cases w with
  | none => exact .inl rfl
  | some x => exact .inr ⟨_, rfl⟩
theorem near_in (m : Mn) : inV (.str m.str) [.str "half", .str "even", .str "far"] = nearB m := by cases m <;> decide +kernel
section
variable {P : Program} {w : World} {K : PySem.W.Frag} {mg : Str → Option Value} {base : Heap}
theorem sc__law_tells : FnScope ["_law_form", "_law_parts_here", "_law_breadth", "_law_spot", "_law_style", "_law_edge", "_law_least", "_law_greatest", "_law_step", "_law_slack", "_law_tail", "_law_inner", "_law_shown_text"] ["_law_form", "_law_parts_here"] (defScope s__law_tells) := ⟨rfl, rfl, rfl, by decide +kernel, rfl, by decide +kernel, by decide +kernel⟩
theorem ok__law_tells {f : Addr} {fd : FuncData} {C : Addr} (T : FTxt K mg C) (X : FX K mg C) (F : Fun K "_law_tells" "_law_tells" s__law_tells f fd) (z : Zs mg) (c__law_whole : Cal P w K mg base 1 "_law_whole" ["_law_found", "_law_due"] spWholeL) (c__law_room : Cal P w K mg base 2 "_law_room" ["_law_parts_here"] (spRoom K)) (c__law_two : Cal P w K mg base 1 "_law_two" ["_law_many"] spTwoL) (m_least : CalM P w K mg base 1 C "least" ["self"] (spLeast C)) (m_greatest : CalM P w K mg base 1 C "greatest" ["self"] (spGreatest C)) (m_step : CalM P w K mg base 3 C "step" ["self"] (spStep C)) (m_slack : CalM P w K mg base 1 C "slack" ["self"] (spSlack C)) {fS fR : Addr} {fdS fdR : FuncData} (okS : FnOk P w K mg base CX0 1 fS fdS ["self"] (spStrF C)) (bS : Binds K fdS ["self"] []) (MS : OwnM K C "__str__" fS) (okR : FnOk P w K mg base CX0 1 fR fdR ["self"] (spRepF C)) (bR : Binds K fdR ["self"] []) (MR : OwnM K C "__repr__" fR) : FnOk P w K mg base CX0 5 f fd ["_law_form", "_law_parts_here"] (spTells C) := by
  refine F.ok sc__law_tells (fun vs H Q E h => ?_) (fun cdv A outer s H vs Q E hr h => ?_)
  · obtain ⟨p, b, w, pt, m, st, rfl, _⟩ := h
    rfl
  · obtain ⟨p, b, w, pt, m, st, rfl, hf, hb, q⟩ := h
    obtain ⟨⟨dx, ho⟩, hw, h0, h1⟩ := id hf
    have a1 := ts_len h0 h1
    have a2 := m_len m
    have a3 := e_len st
    obtain ⟨a4, a5⟩ := ws_len hw
    refine ⟨_, (pss_cons (ps_asg (pv 1) (pg_unl rfl (pgs_cons (pg_name (i := 2) sc__law_tells.nd rfl (.inl rfl)) (pgs_cons (pg_name (i := 3) sc__law_tells.nd rfl (.inl rfl)) (pgs_cons (pg_name (i := 4) sc__law_tells.nd rfl (.inl rfl)) (pgs_cons (pg_name (i := 5) sc__law_tells.nd rfl (.inl rfl)) pgs_nil))))))
      (pss_cons (ps_if (PW.pt (pw_or (pt_not (pt_val (pe_cal c__law_whole hr (pa_cons (pe_fld (pv 0) rfl) (pa_cons (pv 2) pa_nil))))) (pw_or1 (pt_not (pt_val (pe_cal c__law_whole hr (pa_cons (pe_fld (pv 0) rfl) (pa_cons (pv 3) pa_nil)))))))) (pss_one (ps_ret pe_bl)) pss_nil)
      (pss_cons (ps_if (PW.pt (pw_or (pt_cmpR op_ne (pe_fld (pv 0) rfl) (pv 4) (nomark _)) (pw_or1 (pt_cmpR op_ne (pe_fld (pv 0) rfl) (pv 5) (nomark _))))) (pss_one (ps_ret pe_bl)) pss_nil)
      (pss_cons (ps_asg (pe_cal c__law_room hr (pa_cons (pv 1) pa_nil)) (pg_tup (by rfl) (pgs_cons (pg_name (i := 6) sc__law_tells.nd rfl (.inl rfl)) (pgs_cons (pg_name (i := 7) sc__law_tells.nd rfl (.inl rfl)) pgs_nil))))
      (pss_cons (ps_if (PW.pt (pw_or (pt_not (pt_val (pe_cal c__law_whole hr (pa_cons (pe_calm0 (pv 0) T.cl m_least hr) (pa_cons (pv 6) pa_nil))))) (pw_or1 (pt_not (pt_val (pe_cal c__law_whole hr (pa_cons (pe_calm0 (pv 0) T.cl m_greatest hr) (pa_cons (pv 7) pa_nil)))))))) (pss_one (ps_ret pe_bl)) pss_nil)
      (pss_cons (ps_set (i := 8) sc__law_tells.nd rfl (.inl rfl) (pe_tup (pa_cons pe_int (pa_cons (pe_cal c__law_two hr (pa_cons (pe_callB (call_max2 rfl) (by rfl) z.max (by decide +kernel) (pa_cons pe_int (pa_cons (pv 3) pa_nil))) pa_nil)) pa_nil))))
      (C8.pss_cut (ps_if (pt_cmpR op_lt (pv 3) pe_int (nomark _)) (pss_one (ps_set (i := 8) sc__law_tells.nd rfl (.inl rfl) (pe_tup (pa_cons (pe_cal c__law_two hr (pa_cons (pe_op op_sub pe_int (pv 3)) pa_nil)) (pa_cons pe_int pa_nil))))) pss_nil)
      (pss_cons (ps_set (i := 9) sc__law_tells.nd rfl (.inl rfl) (pe_ix ix_list (pe_lst (pa_cons (pe_tup (pa_cons pe_int (pa_cons pe_int pa_nil))) (pa_cons (pe_tup (pa_cons pe_int (pa_cons pe_int pa_nil))) pa_nil))) (pe_callTy call_int1 (by rfl) z.int (by decide +kernel) (pa_cons (pe_cmpR op_in_seq (pv 4) (pe_tup (pa_cons pe_str (pa_cons pe_str (pa_cons pe_str pa_nil)))) (by rfl)) pa_nil)) (fun _ _ => rfl)))
      (pss_cons (ps_if (PW.pt (pw_or (pt_cmpR (op_neD hr.units) (pe_calm0 (pv 0) T.cl m_step hr) (pv 8) (nomark _)) (pw_or (pt_cmpR (op_neD hr.units) (pe_calm0 (pv 0) T.cl m_slack hr) (pv 9) (nomark _)) (pw_or1 (pt_not (pt_val (pe_callB call_isi (by rfl) z.isinstance (by decide +kernel) (pa_cons (pe_calm0 (pv 0) T.cl m_step hr) (pa_cons (pe_bltn (v := .ty "tuple") (by rfl) z.tuple (by decide +kernel) rfl) pa_nil))))))))) (pss_one (ps_ret pe_bl)) pss_nil)
      (pss_cons (ps_set (i := 10) sc__law_tells.nd rfl (.inl rfl) (pe_op op_add_str (pe_op op_add_str (pe_op op_add_str (pe_op op_add_str (pe_callTy call_str_int (by rfl) z.str (by decide +kernel) (pa_cons (pv 3) pa_nil)) pe_str) (pv 4)) pe_str) (pv 5)))
      (pss_cons (ps_set (i := 11) sc__law_tells.nd rfl (.inl rfl) (pe_op op_add_str (pe_op op_add_str (pe_op op_add_str (pe_op op_add_str (pe_callTy call_strW (by rfl) z.str (by decide +kernel) (pa_cons (pv 2) pa_nil)) pe_str) (pe_callTy call_str_int (by rfl) z.str (by decide +kernel) (pa_cons (pv 3) pa_nil))) pe_str) (pv 4)))
      (pss_cons (ps_set (i := 12) sc__law_tells.nd rfl (.inl rfl) (pe_op op_add_str (pe_op op_add_str (pe_op op_add_str (pe_op op_add_str pe_str (pv 11)) pe_str) (pv 5)) pe_str))
      (pss_one (ps_ret (pe_and (pe_cmpR op_eq (pe_callTy (call_strO okS bS MS hr) (by rfl) z.str (by decide +kernel) (pa_cons (pv 0) pa_nil)) (pe_op op_add_str (pe_op op_add_str (pe_ix ix_list (pe_lst (pa_cons pe_str (pa_cons (pe_callTy call_strW (by rfl) z.str (by decide +kernel) (pa_cons (pv 2) pa_nil)) pa_nil))) (pe_callTy call_int1 (by rfl) z.int (by decide +kernel) (pa_cons (pe_cmpR op_notN (pv 2) pe_non (nomark _)) pa_nil)) (fun _ _ => rfl)) pe_str) (pv 10)) (nomark _)) (pe_one (pe_cmpR op_eq (pe_callB (call_reprO okR bR MR hr) (by rfl) z.repr (by decide +kernel) (pa_cons (pv 0) pa_nil)) (pv 12) (nomark _)))))))))))))))))), ?_⟩
    refine ⟨_, rfl, b, _, rfl, SqL.of hb, rfl, _, _, rfl, _, _, rfl, _, _, rfl, _, _, rfl, rfl, ?_⟩
    refine ⟨_, rfl, p, C, dx, _, _, rfl, ho, T.cl, T.nW, fl_w, _, rfl, _, rfl, w_non, _, rfl, iteF ⟨_, rfl, p, C, dx, _, _, rfl, ho, T.cl, T.nP, fl_p, _, rfl, _, rfl, .inr ⟨_, rfl⟩, _, rfl, iteF ?_⟩⟩
    refine ⟨_, rfl, p, C, dx, _, _, rfl, ho, T.cl, T.nM, fl_m, _, rfl, rfl, _, rfl, ?_⟩
    refine iteC (d := false) (by rw [decide_eq_true rfl]; rfl) (iteF ?_)
    refine ⟨_, rfl, p, C, dx, _, _, rfl, ho, T.cl, T.nE, fl_e, _, rfl, rfl, _, rfl, ?_⟩
    refine iteC (d := false) (by rw [decide_eq_true rfl]; rfl) (iteF ?_)
    refine ⟨_, rfl, b, w, pt, m, st, rfl, hb, hw, fun p6 hp6 => ⟨p6, _, rfl, SqT.of upd_same, rfl, _, _, rfl, _, _, rfl, rfl, ?_⟩⟩
    have s6 := same_new (o := .tup [lstV w, grtV w]) hp6
    have ho6 := s6 _ _ ho
    have hf6 := hf.same s6
    refine ⟨_, rfl, p, dx, _, rfl, ho6, fl_no (by decide +kernel), p, w, pt, m, st, rfl, hf6, _, rfl, _, rfl, l_non, _, rfl, iteF ⟨_, rfl, p, dx, _, rfl, ho6, fl_no (by decide +kernel), p, w, pt, m, st, rfl, hf6, _, rfl, _, rfl, g_non, _, rfl, iteF ?_⟩⟩
    refine ⟨_, rfl, _, _, rfl, ?_⟩
    refine ⟨_, rfl, (by split <;> omega), (by split <;> omega), (by show 2 ≤ sizeLine; decide), fun p8 hp8 => ?_⟩
    refine ⟨fun σ H' => ∃ p8, σ = [some (.ref p), some (.ref b), some (wV w), some (.int pt), some (.str m.str), some (.str (endS st)), some (lstV w), some (grtV w), some (.ref p8), none, none, none, none] ∧ Same H H' ∧ H' p8 = some (.tup [.int (twoT (-pt)), .int (twoB (-pt))]), ?_, fun σ H8 hM => ?_⟩
    · refine ⟨_, rfl, _, _, rfl, rfl, _, rfl, ite2 (fun c => ?_) (fun c => ?_)⟩
      · have hc : pt < 0 := toB c
        refine ⟨_, rfl, _, _, rfl, rfl, 0 - pt, rfl, by omega, by omega, (by show 2 ≤ sizeLine; decide), fun p9 hp9 => ⟨p9, rfl, (s6.trans (same_new hp8)).trans (same_new hp9), ?_⟩⟩
        rw [upd_same]
        unfold twoT twoB two
        rw [if_neg (by omega), if_neg (by omega), Int.zero_sub]
      · have hc : ¬ pt < 0 := toNB c
        refine ⟨p8, rfl, s6.trans (same_new hp8), ?_⟩
        rw [upd_same]
        have e1 : twoT (-pt) = 1 := by
          unfold twoT
          by_cases z0 : pt = 0
          · subst z0; rfl
          · rw [if_pos (by omega)]
        have e2 : twoB (-pt) = two pt := by
          unfold twoB two
          by_cases z0 : pt = 0
          · subst z0; rfl
          · rw [if_pos (by omega), Int.neg_neg]
        rw [e1, e2]
        refine congrArg (fun x => some (HO.tup [V.int 1, V.int (two x)])) ?_
        split <;> omega
    obtain ⟨p8, rfl, S8, h8⟩ := hM
    refine ⟨(by show 2 ≤ sizeLine; decide), fun t1 ht1 => ⟨(by show 2 ≤ sizeLine; decide), fun t2 ht2 => ⟨(by show 2 ≤ sizeLine; decide), fun l9 hl9 => ⟨_, rfl, (by show 3 ≤ sizeLine; decide), fun t3 ht3 => ⟨t3, _, rfl, .inr (SqT.of upd_same), rfl, rfl, .inr ⟨_, rfl, ?_⟩⟩⟩⟩⟩⟩
    have u1 := same_new (o := .tup [.int 1, .int 1]) ht1
    have u2 := same_new (o := .tup [.int 1, .int 2]) ht2
    have u3 := same_new (o := .lst [V.ref t1, V.ref t2]) hl9
    have u4 := same_new (o := .tup [.str "half", .str "even", .str "far"]) ht3
    rw [near_in]
    obtain ⟨tS, htS, hS⟩ : ∃ tS, atI [V.ref t1, V.ref t2] (if nearB m = true then 1 else 0) = some (.ref tS) ∧ (upd (upd (upd (upd H8 t1 (.tup [.int 1, .int 1])) t2 (.tup [.int 1, .int 2])) l9 (.lst [V.ref t1, V.ref t2])) t3 (.tup [.str "half", .str "even", .str "far"])) tS = some (.tup [.int 1, .int (if nearB m = true then 2 else 1)]) := by
      cases nearB m with
      | true => exact ⟨t2, rfl, u4 _ _ (u3 _ _ upd_same)⟩
      | false => exact ⟨t1, rfl, u4 _ _ (u3 _ _ (u2 _ _ upd_same))⟩
    refine ⟨l9, _, _, _, rfl, rfl, SqL.of (u4 _ _ upd_same), htS, ?_⟩
    have S9 : Same H8 _ := u1.trans (u2.trans (u3.trans u4))
    generalize upd (upd (upd (upd H8 t1 (.tup [.int 1, .int 1])) t2 (.tup [.int 1, .int 2])) l9 (.lst [V.ref t1, V.ref t2])) t3 (.tup [.str "half", .str "even", .str "far"]) = H9 at *
    have SH := S8.trans S9
    have ho9 := SH _ _ ho
    have hf9 := hf.same SH
    refine ⟨_, rfl, p, dx, _, rfl, ho9, fl_no (by decide +kernel), p, w, pt, m, st, rfl, hf9, fun v1 hv1 => ?_⟩
    have x1 := same_new (o := .tup [.int (twoT (-pt)), .int (twoB (-pt))]) hv1
    refine ⟨_, rfl, .tuple [.int (twoT (-pt)), .int (twoB (-pt))], .tuple [.int (twoT (-pt)), .int (twoB (-pt))], .tup (SqT.of upd_same) (.cons (.int _) (.cons (.int _) .nil)), .tup (SqT.of (x1 _ _ (S9 _ _ h8))) (.cons (.int _) (.cons (.int _) .nil)), rfl, rfl, _, rfl, ?_⟩
    refine iteC (d := false) (by rw [eqv2]; rfl) (iteF ?_)
    have ho10 := x1 _ _ ho9
    have hf10 := hf9.same x1
    refine ⟨_, rfl, p, dx, _, rfl, ho10, fl_no (by decide +kernel), p, w, pt, m, st, rfl, hf10, fun v2 hv2 => ?_⟩
    have x2 := same_new (o := .tup [.int 1, .int (if nearB m = true then 2 else 1)]) hv2
    refine ⟨_, rfl, .tuple [.int 1, .int (if nearB m = true then 2 else 1)], .tuple [.int 1, .int (if nearB m = true then 2 else 1)], .tup (SqT.of upd_same) (.cons (.int _) (.cons (.int _) .nil)), .tup (SqT.of (x2 _ _ (x1 _ _ hS))) (.cons (.int _) (.cons (.int _) .nil)), rfl, rfl, _, rfl, ?_⟩
    refine iteC (d := false) (by rw [eqv2]; rfl) (iteF ?_)
    have ho11 := x2 _ _ ho10
    have hf11 := hf10.same x2
    refine ⟨_, rfl, p, dx, _, rfl, ho11, fl_no (by decide +kernel), p, w, pt, m, st, rfl, hf11, fun v3 hv3 => ?_⟩
    have x3 := same_new (o := .tup [.int (twoT (-pt)), .int (twoB (-pt))]) hv3
    refine ⟨_, .ty "tuple", _, _, true, rfl, .ty _, .base (.tup upd_same), kit_ty (by decide +kernel), _, rfl, iteF ?_⟩
    have ho12 := x3 _ _ ho11
    have hf12 := hf11.same x3
    have S12 : Same H _ := SH.trans (x1.trans (x2.trans x3))
    generalize upd (upd (upd H9 v1 _) v2 _) v3 _ = H12 at *
    refine ⟨_, rfl, _, rfl, lg h0 h1, _, _, rfl, rfl, (by simp only [Str.length_append, le0, le1, le2, le3, le4, le5, le6, le7, lf, lx8, lx9, lx10]; exact Nat.le_of_lt (small1000' (by omega))), _, rfl, _, _, rfl, rfl, (by simp only [Str.length_append, le0, le1, le2, le3, le4, le5, le6, le7, lf, lx8, lx9, lx10]; exact Nat.le_of_lt (small1000' (by omega))), _, _, rfl, rfl, (by simp only [Str.length_append, le0, le1, le2, le3, le4, le5, le6, le7, lf, lx8, lx9, lx10]; exact Nat.le_of_lt (small1000' (by omega))), _, rfl, _, _, rfl, rfl, (by simp only [Str.length_append, le0, le1, le2, le3, le4, le5, le6, le7, lf, lx8, lx9, lx10]; exact Nat.le_of_lt (small1000' (by omega))), ?_⟩
    refine ⟨_, rfl, w, rfl, (fun x hx => lg (by have := hw x hx; omega) (by have := hw x hx; omega)), _, _, rfl, rfl, (by simp only [Str.length_append, le0, le1, le2, le3, le4, le5, le6, le7, lf, lx8, lx9, lx10]; exact Nat.le_of_lt (small1000' (by omega))), _, rfl, _, rfl, lg h0 h1, _, _, rfl, rfl, (by simp only [Str.length_append, le0, le1, le2, le3, le4, le5, le6, le7, lf, lx8, lx9, lx10]; exact Nat.le_of_lt (small1000' (by omega))), _, _, rfl, rfl, (by simp only [Str.length_append, le0, le1, le2, le3, le4, le5, le6, le7, lf, lx8, lx9, lx10]; exact Nat.le_of_lt (small1000' (by omega))), _, rfl, _, _, rfl, rfl, (by simp only [Str.length_append, le0, le1, le2, le3, le4, le5, le6, le7, lf, lx8, lx9, lx10]; exact Nat.le_of_lt (small1000' (by omega))), ?_⟩
    refine ⟨_, rfl, _, _, rfl, rfl, (by simp only [Str.length_append, le0, le1, le2, le3, le4, le5, le6, le7, lf, lx8, lx9, lx10]; exact Nat.le_of_lt (small1000' (by omega))), _, _, rfl, rfl, (by simp only [Str.length_append, le0, le1, le2, le3, le4, le5, le6, le7, lf, lx8, lx9, lx10]; exact Nat.le_of_lt (small1000' (by omega))), _, rfl, _, _, rfl, rfl, (by simp only [Str.length_append, le0, le1, le2, le3, le4, le5, le6, le7, lf, lx8, lx9, lx10]; exact Nat.le_of_lt (small1000' (by omega))), _, _, rfl, rfl, (by simp only [Str.length_append, le0, le1, le2, le3, le4, le5, le6, le7, lf, lx8, lx9, lx10]; exact Nat.le_of_lt (small1000' (by omega))), ?_⟩
    refine ⟨_, rfl, p, dx, _, rfl, ho12, p, w, pt, m, st, rfl, hf12, _, rfl, ?_⟩
    refine ⟨_, rfl, w, rfl, (fun x hx => lg (by have := hw x hx; omega) (by have := hw x hx; omega)), (by show 2 ≤ sizeLine; decide), fun lz hlz => ?_⟩
    have xz := same_new (o := .lst [V.str "free", V.str (wS w)]) hlz
    refine ⟨_, rfl, rfl, ?_⟩
    have fin : ∀ {i : Int}, atI [V.str "free", V.str (wS w)] i = some (.str (headS w)) → atI [V.str "free", V.str (wS w)] i = some (.str (headS w)) := id
    refine .inr ⟨!decide (wV w = V.non), rfl, lz, _, _, .str (headS w), rfl, rfl, SqL.of upd_same, ?_, _, _, rfl, rfl, (by simp only [Str.length_append, le0, le1, le2, le3, le4, le5, le6, le7, lf, lx8, lx9, lx10]; exact Nat.le_of_lt (small1000' (by omega))), _, rfl, _, _, rfl, rfl, (by simp only [Str.length_append, le0, le1, le2, le3, le4, le5, le6, le7, lf, lx8, lx9, lx10]; exact Nat.le_of_lt (small1000' (by omega))), rfl, _, rfl, ?_⟩
    · cases w with
      | none => rfl
      | some x => rfl
    refine iteC (d := true) (decide_eq_true (congrArg V.str (str_is w pt m st))) (iteT ?_)
    refine ⟨_, rfl, p, dx, _, rfl, xz _ _ ho12, p, w, pt, m, st, rfl, hf12.same xz, _, rfl, _, rfl, rfl, ?_⟩
    exact qt (Q := Q) (congrArg V.str (rep_is w pt m st)) (q _ (S12.trans xz))
end
end E1

namespace E1
open PySem PySem.Spec PyProof.Rows L2

def spRight (C : Addr) : Sp := fun vs H Q _ => ∃ (p b a : Addr) (c : Int) (w : Option Int) (pt : Int) (m : Mn) (st : Bool), vs = [.ref p, .ref b, .ref a] ∧ FormAt C H p w pt m st ∧ H b = some (.lst (PL w pt m st)) ∧ b ≠ a ∧ WellAt H a c ∧ c ≤ 100000 ∧ ∀ H', SameBut a H H' → WellAt H' a (c + 10) → Q (.bl true) H'
def Rm (w : Option Int) (lo hi : Int) : Prop := (w = none ∧ lo = -(10 ^ 30) ∧ hi = 10 ^ 30) ∨ ∃ x, w = some x ∧ lo = lst x ∧ hi = grt x ∧ 2 ≤ two (x - 1) ∧ two (x - 1) ≤ 9223372036854775808
theorem two_big {y : Int} (h2 : 2 ≤ y) (h64 : y ≤ 64) : 2 ≤ two (y - 1) ∧ two (y - 1) ≤ 9223372036854775808 := by
  obtain ⟨k, hk⟩ := Int.eq_ofNat_of_zero_le (show 0 ≤ y - 2 by omega)
  have kk : k ≤ 62 := by omega
  have e : two (y - 1) = 2 ^ k * 2 := by
    unfold two
    rw [show (y - 1).toNat = k + 1 by omega, Int.pow_succ]
  have l1 : (1 : Int) ≤ 2 ^ k := Int.pow_pos (by decide)
  have l2 : (2 : Nat) ^ k ≤ 2 ^ 62 := Nat.pow_le_pow_right (by decide) kk
  have l3 : ((2 ^ k : Nat) : Int) = 2 ^ k := by simp
  have l4 : (2 : Nat) ^ 62 = 4611686018427387904 := by decide
  omega
theorem Rm.bd {w : Option Int} {lo hi : Int} (h : Rm w lo hi) : lo < 0 ∧ 0 < hi ∧ hi - lo + 1 < 10000000000000000000000000000000 := by
  rcases h with ⟨_, rfl, rfl⟩ | ⟨x, _, rfl, rfl, h2, h3⟩
  · exact ⟨by decide, by decide, by decide⟩
  · unfold lst grt
    omega
theorem Rm.has {w : Option Int} {lo hi : Int} (h : Rm w lo hi) (n : Int) : inR w n = (decide (wV w = V.non) || (decide (lo ≤ n) && decide (n ≤ hi))) := by
  rcases h with ⟨rfl, _, _⟩ | ⟨x, rfl, rfl, rfl, _⟩
  · rfl
  · rfl
section
variable {P : Program} {w : World} {K : PySem.W.Frag} {mg : Str → Option Value} {base : Heap}
theorem sc__law_words_right : FnScope ["_law_form", "_law_parts_here", "_law_well_here", "_law_least", "_law_greatest", "_law_some", "_law_one", "_law_good"] ["_law_form", "_law_parts_here", "_law_well_here"] (defScope s__law_words_right) := ⟨rfl, rfl, rfl, by decide +kernel, rfl, by decide +kernel, by decide +kernel⟩
theorem ok__law_words_right {f : Addr} {fd : FuncData} {C : Addr} (T : FTxt K mg C) (X : FX K mg C) (F : Fun K "_law_words_right" "_law_words_right" s__law_words_right f fd) (z : Zs mg) (c__law_draw : Cal P w K mg base 1 "_law_draw" ["_law_well_here", "_law_many"] spDraw) (c__law_room : Cal P w K mg base 2 "_law_room" ["_law_parts_here"] (spRoom K)) (m_has : CalM P w K mg base 2 C "has" ["self", "thing"] (spHas K C)) : FnOk P w K mg base CX0 4 f fd ["_law_form", "_law_parts_here", "_law_well_here"] (spRight C) := by
  refine F.ok sc__law_words_right (fun vs H Q E h => ?_) (fun cdv A outer s H vs Q E hr h => ?_)
  · obtain ⟨p, b, a, c, w, pt, m, st, rfl, _⟩ := h
    rfl
  · obtain ⟨p, b, a, c, w, pt, m, st, rfl, hf, hb, nba, hw, hc, q⟩ := h
    obtain ⟨⟨dx, ho⟩, hwo, h0, h1⟩ := id hf
    have npa : p ≠ a := fun e => by
      obtain ⟨x, y, z', hx, _⟩ := hw
      rw [e, hx] at ho
      cases ho
    refine ⟨_, (pss_cons (ps_asg (pe_cal c__law_room hr (pa_cons (pv 1) pa_nil)) (pg_tup (by rfl) (pgs_cons (pg_name (i := 3) sc__law_words_right.nd rfl (.inl rfl)) (pgs_cons (pg_name (i := 4) sc__law_words_right.nd rfl (.inl rfl)) pgs_nil))))
      (C8.pss_cut (ps_if (pt_cmpR op_isN (pv 3) pe_non (nomark _)) (pss_cons (ps_set (i := 3) sc__law_words_right.nd rfl (.inl rfl) (pe_op op_sub pe_int (pe_op op_pow pe_int pe_int)))
      (pss_one (ps_set (i := 4) sc__law_words_right.nd rfl (.inl rfl) (pe_op op_pow pe_int pe_int)))) pss_nil)
      (pss_cons (ps_set (i := 5) sc__law_words_right.nd rfl (.inl rfl) (pe_lst (pa_cons (pe_op op_sub (pv 3) pe_int) (pa_cons (pv 3) (pa_cons (pe_op op_add (pv 3) pe_int) (pa_cons pe_int (pa_cons (pe_un un_neg pe_int) (pa_cons pe_int (pa_cons (pe_op op_sub (pv 4) pe_int) (pa_cons (pv 4) (pa_cons (pe_op op_add (pv 4) pe_int) pa_nil)))))))))))
      (pss_cons (ps_expr (pe_bm PySem.F.plainAttrs_list PySem.F.slot_list_append PySem.F.type_list_append mt_append (pv 5) (pa_cons (pe_op op_mul (pe_cal c__law_draw hr (pa_cons (pv 2) (pa_cons (pe_op op_pow pe_int pe_int) pa_nil))) (pe_op op_sub pe_int (pe_op op_mul pe_int (pe_cal c__law_draw hr (pa_cons (pv 2) (pa_cons pe_int pa_nil)))))) pa_nil)))
      (pss_cons (ps_expr (pe_bm PySem.F.plainAttrs_list PySem.F.slot_list_append PySem.F.type_list_append mt_append (pv 5) (pa_cons (pe_op op_add (pv 3) (pe_cal c__law_draw hr (pa_cons (pv 2) (pa_cons (pe_op op_add (pe_op op_sub (pv 4) (pv 3)) pe_int) pa_nil)))) pa_nil)))
      (pss_cons (ps_expr (pe_bm PySem.F.plainAttrs_list PySem.F.slot_list_append PySem.F.type_list_append mt_append (pv 5) (pa_cons (pe_op op_add (pe_op op_add (pv 4) pe_int) (pe_cal c__law_draw hr (pa_cons (pv 2) (pa_cons (pe_op op_pow pe_int pe_int) pa_nil)))) pa_nil)))
      (pss_cons (ps_for PassesOwn.never rfl (pi_list (pv 5)) (pg_name (i := 6) sc__law_words_right.nd rfl (.inl rfl)) (pss_cons (ps_set (i := 7) sc__law_words_right.nd rfl (.inl rfl) (pe_or (pe_cmpR op_isN (pe_ix ix_list (pv 1) pe_int (fun _ _ => rfl)) pe_non (nomark _)) (pe_one (pe_chain op_le op_le (pv 3) (pv 6) (pv 4)))))
      (pss_one (ps_if (PW.pt (pw_or (pt_not (pt_val (pe_callB call_isi (by rfl) z.isinstance (by decide +kernel) (pa_cons (pe_calm (pv 0) T.cl m_has hr (pa_cons (pv 6) pa_nil)) (pa_cons (pe_bltn (v := .ty "bool") (by rfl) z.bool (by decide +kernel) rfl) pa_nil))))) (pw_or1 (pt_cmpR op_ne (pe_calm (pv 0) T.cl m_has hr (pa_cons (pv 6) pa_nil)) (pv 7) (nomark _))))) (pss_one (ps_ret pe_bl)) pss_nil))))
      (pss_one (ps_ret (pe_cmpR (op_eqD hr.units) (pe_lc (own := [("_law_one", 6)]) (g := gName 6) (tt := tYes) (te := tMeth C "has" (spHas K C) [] E0 (tVar 0) (tCons (tVar 6) tNil)) (by rfl) sc__law_words_right.nd (pi_list (pe_lst (pa_cons pe_non (pa_cons pe_bl (pa_cons pe_bl (pa_cons pe_str (pa_cons (pe_tup (pa_cons pe_int (pa_cons pe_int pa_nil))) (pa_cons (pe_lst (pa_cons pe_int pa_nil)) (pa_cons (pv 0) pa_nil))))))))) (blkOk_by (own := [("_law_one", 6)]) (N := ["_law_form", "_law_parts_here", "_law_well_here", "_law_least", "_law_greatest", "_law_some", "_law_one", "_law_good"]) (sc := defScope s__law_words_right) (by decide +kernel)) (fun _ _ _ _ _ => by exact (pg_name (i := 6) sc__law_words_right.nd rfl (.inl rfl))) (fun _ _ _ _ _ => by exact pts_nil) (fun _ _ _ _ _ => by exact (pe_calm (pv 0) T.cl m_has hr (pa_cons (pv 6) pa_nil)))) (pe_op op_rep (pe_lst (pa_cons pe_bl pa_nil)) pe_int) (nomark _))))))))))), ?_⟩
    refine ⟨_, rfl, b, w, pt, m, st, rfl, hb, hwo, fun p6 hp6 => ⟨p6, _, rfl, SqT.of upd_same, rfl, _, _, rfl, _, _, rfl, rfl, ?_⟩⟩
    have s6 := same_new (o := .tup [lstV w, grtV w]) hp6
    refine ⟨fun σ H' => ∃ lo hi : Int, σ = [some (.ref p), some (.ref b), some (.ref a), some (.int lo), some (.int hi), none, none, none] ∧ H' = upd H p6 (.tup [lstV w, grtV w]) ∧ Rm w lo hi, ?_, fun σ H6 hM => ?_⟩
    · refine ⟨_, rfl, rfl, _, rfl, ?_⟩
      cases w with
      | none =>
        refine iteT ⟨_, _, rfl, rfl, ⟨by decide, by decide, by decide⟩, _, _, rfl, rfl, _, _, rfl, rfl, ⟨by decide, by decide, by decide⟩, ?_⟩
        exact ⟨_, _, rfl, rfl, .inl ⟨rfl, rfl, rfl⟩⟩
      | some x =>
        obtain ⟨x0, x1⟩ := hwo x rfl
        obtain ⟨t0, t1⟩ := two_big x0 x1
        exact iteF ⟨lst x, grt x, rfl, rfl, .inr ⟨x, rfl, rfl, rfl, t0, t1⟩⟩
    obtain ⟨lo, hi, rfl, rfl, rm⟩ := hM
    obtain ⟨r0, r1, r2⟩ := rm.bd
    refine ⟨_, rfl, _, _, rfl, rfl, _, rfl, _, rfl, _, _, rfl, rfl, _, rfl, _, rfl, _, _, rfl, rfl, _, rfl, _, rfl, _, _, rfl, rfl, (by show 9 ≤ sizeLine; decide), fun ls hls => ?_⟩
    have s7 := same_new (o := .lst ([lo - 1, lo, lo + 1, 0, -1, 1, hi - 1, hi, hi + 1].map V.int)) hls
    have hw7 := (hw.same s6).same s7
    have nls : ls ≠ a := (hw.same s6).ne hls
    refine ⟨_, rfl, .inl ⟨rfl, _, SqL.of upd_same⟩, _, rfl, _, _, rfl, rfl, ⟨by decide, by decide, by decide⟩, a, c, _, rfl, hw7, by omega, by decide, by decide, fun d1 H1 d10 d11 e1 e1' w1 => ⟨_, rfl, a, c + 1, 2, rfl, w1, by omega, by decide, by decide, fun d2 H2 d20 d21 e2 e2' w2 => ⟨_, _, rfl, rfl, .inl ⟨by decide, by decide⟩, _, _, rfl, rfl, _, _, rfl, rfl, .inr ⟨by omega, by omega⟩, ?_⟩⟩⟩
    have l2 : H2 ls = some (.lst ([lo - 1, lo, lo + 1, 0, -1, 1, hi - 1, hi, hi + 1].map V.int)) := e2 _ _ nls (e1 _ _ nls upd_same)
    refine ⟨ls, _, _, rfl, rfl, l2, (by show 9 < sizeLine; decide), ?_⟩
    have hls0 : H ls = none := s6.free hls
    obtain ⟨n1, hn1⟩ : ∃ n1 : Int, n1 = d1 * (1 - 2 * d2) := ⟨_, rfl⟩
    have S2 : SameBut a H H2 := ((SameBut.of (s6.trans s7)).trans e1).trans e2
    have S3 := but_set (o := .lst ([lo - 1, lo, lo + 1, 0, -1, 1, hi - 1, hi, hi + 1].map V.int ++ [V.int n1])) S2 hls0
    have W3 := well_set (o := .lst ([lo - 1, lo, lo + 1, 0, -1, 1, hi - 1, hi, hi + 1].map V.int ++ [V.int n1])) w2 nls
    have l3 : (upd H2 ls (.lst ([lo - 1, lo, lo + 1, 0, -1, 1, hi - 1, hi, hi + 1].map V.int ++ [V.int n1]))) ls = some (.lst ([lo - 1, lo, lo + 1, 0, -1, 1, hi - 1, hi, hi + 1].map V.int ++ [V.int n1])) := upd_same
    show tSeq _ _ _ _ (upd H2 ls (.lst ([lo - 1, lo, lo + 1, 0, -1, 1, hi - 1, hi, hi + 1].map V.int ++ [V.int (d1 * (1 - 2 * d2))])))
    rw [← hn1]
    generalize upd H2 ls (.lst ([lo - 1, lo, lo + 1, 0, -1, 1, hi - 1, hi, hi + 1].map V.int ++ [V.int n1])) = H3 at *
    refine ⟨_, rfl, .inl ⟨rfl, _, SqL.of l3⟩, _, rfl, _, rfl, _, rfl, _, rfl, _, _, rfl, rfl, _, _, rfl, rfl, a, c + 1 + 1, _, rfl, W3, by omega, by omega, up (show (hi - lo + 1).natAbs < 2 ^ 105 by omega) (by decide), fun d4 H4 d40 d41 e4 e4' w4 => ⟨_, _, rfl, rfl, ls, _, _, rfl, rfl, e4 _ _ nls l3, (by show 10 < sizeLine; decide), ?_⟩⟩
    have S4 : SameBut a H H4 := S3.trans e4
    have S5 := but_set (o := .lst ([lo - 1, lo, lo + 1, 0, -1, 1, hi - 1, hi, hi + 1].map V.int ++ [V.int n1] ++ [V.int (lo + d4)])) S4 hls0
    have W5 := well_set (o := .lst ([lo - 1, lo, lo + 1, 0, -1, 1, hi - 1, hi, hi + 1].map V.int ++ [V.int n1] ++ [V.int (lo + d4)])) w4 nls
    have l5 : (upd H4 ls (.lst ([lo - 1, lo, lo + 1, 0, -1, 1, hi - 1, hi, hi + 1].map V.int ++ [V.int n1] ++ [V.int (lo + d4)]))) ls = some (.lst ([lo - 1, lo, lo + 1, 0, -1, 1, hi - 1, hi, hi + 1].map V.int ++ [V.int n1] ++ [V.int (lo + d4)])) := upd_same
    show tSeq _ _ _ _ (upd H4 ls (.lst ([lo - 1, lo, lo + 1, 0, -1, 1, hi - 1, hi, hi + 1].map V.int ++ [V.int n1] ++ [V.int (lo + d4)])))
    generalize upd H4 ls (.lst ([lo - 1, lo, lo + 1, 0, -1, 1, hi - 1, hi, hi + 1].map V.int ++ [V.int n1] ++ [V.int (lo + d4)])) = H5 at *
    refine ⟨_, rfl, .inl ⟨rfl, _, SqL.of l5⟩, _, rfl, _, _, rfl, rfl, _, rfl, _, _, rfl, rfl, ⟨by decide, by decide, by decide⟩, a, c + 1 + 1 + 1, _, rfl, W5, by omega, by decide, by decide, fun d6 H6 d60 d61 e6 e6' w6 => ⟨_, _, rfl, rfl, ls, _, _, rfl, rfl, e6 _ _ nls l5, (by show 11 < sizeLine; decide), ?_⟩⟩
    have S6 : SameBut a H H6 := S5.trans e6
    have S7 := but_set (o := .lst ([lo - 1, lo, lo + 1, 0, -1, 1, hi - 1, hi, hi + 1].map V.int ++ [V.int n1] ++ [V.int (lo + d4)] ++ [V.int (hi + 1 + d6)])) S6 hls0
    have W7 := well_set (o := .lst ([lo - 1, lo, lo + 1, 0, -1, 1, hi - 1, hi, hi + 1].map V.int ++ [V.int n1] ++ [V.int (lo + d4)] ++ [V.int (hi + 1 + d6)])) w6 nls
    have l7 : (upd H6 ls (.lst ([lo - 1, lo, lo + 1, 0, -1, 1, hi - 1, hi, hi + 1].map V.int ++ [V.int n1] ++ [V.int (lo + d4)] ++ [V.int (hi + 1 + d6)]))) ls = some (.lst (([lo - 1, lo, lo + 1, 0, -1, 1, hi - 1, hi, hi + 1] ++ [n1] ++ [lo + d4] ++ [hi + 1 + d6]).map V.int)) := upd_same
    show tSeq _ _ _ _ (upd H6 ls (.lst ([lo - 1, lo, lo + 1, 0, -1, 1, hi - 1, hi, hi + 1].map V.int ++ [V.int n1] ++ [V.int (lo + d4)] ++ [V.int (hi + 1 + d6)])))
    generalize upd H6 ls (.lst ([lo - 1, lo, lo + 1, 0, -1, 1, hi - 1, hi, hi + 1].map V.int ++ [V.int n1] ++ [V.int (lo + d4)] ++ [V.int (hi + 1 + d6)])) = H7 at *
    generalize [lo - 1, lo, lo + 1, 0, -1, 1, hi - 1, hi, hi + 1] ++ [n1] ++ [lo + d4] ++ [hi + 1 + d6] = ns at l7
    have W8 : WellAt H7 a (c + 10) := W7.mono (by omega)
    clear S2 S3 S4 S5 S6 W3 W5 W7 w1 w2 w4 w6 e1 e2 e4 e6 e1' e2' e4' e6' l2 l3 l5 hw7
    have ho7 := S7 _ _ npa ho
    have hb7 := S7 _ _ nba hb
    have hf7 : FormAt C H7 p w pt m st := ⟨⟨dx, ho7⟩, hwo, h0, h1⟩
    refine ⟨_, rfl, ls, rfl, ⟨_, SqL.of l7⟩, for_list (xs := ns.map V.int) (fun i σ H' => ∃ v6 v7 : Option V, σ = [some (.ref p), some (.ref b), some (.ref a), some (.int lo), some (.int hi), some (.ref ls), v6, v7] ∧ H' = H7) ⟨none, none, rfl, rfl⟩ (fun i σ H' _ hP => ?_) (fun i x σ H' hx hP => ?_) (fun σ H' hP => ?_)⟩
    · obtain ⟨v6, v7, rfl, rfl⟩ := hP
      exact SqL.of l7
    · obtain ⟨v6, v7, rfl, rfl⟩ := hP
      obtain ⟨n, rfl⟩ : ∃ n, x = .int n := by
        rw [List.getElem?_map] at hx
        cases hn : ns[i]? with
        | none => rw [hn] at hx; cases hx
        | some n => rw [hn] at hx; exact ⟨n, (Option.some.inj hx).symm⟩
      have hin := rm.has n
      refine ⟨_, rfl, b, _, 0, _, rfl, rfl, SqL.of hb7, a0, rfl, _, rfl, ?_⟩
      by_cases cw : wV w = V.non
      · rw [decide_eq_true cw, Bool.true_or] at hin
        refine iteC (d := true) (decide_eq_true cw) (iteT ?_)
        refine ⟨_, rfl, p, dx, _, rfl, ho7, fl_no (by decide +kernel), _, rfl, p, w, pt, m, st, .int n, _, rfl, hf7, .inl ⟨n, rfl, rfl⟩, _, .ty "bool", _, _, true, rfl, .ty _, .base (.bl _), kit_ty (by decide +kernel), _, rfl, iteF ⟨_, rfl, p, dx, _, rfl, ho7, fl_no (by decide +kernel), _, rfl, p, w, pt, m, st, .int n, _, rfl, hf7, .inl ⟨n, rfl, rfl⟩, _, rfl, rfl, _, rfl, ?_⟩⟩
        refine iteC (d := false) (by rw [decide_eq_true (congrArg V.bl hin)]; rfl) (iteF ?_)
        exact ⟨_, _, rfl, rfl⟩
      · rw [decide_eq_false cw, Bool.false_or] at hin
        refine iteC (d := false) (decide_eq_false cw) (iteF ?_)
        refine ⟨_, rfl, _, rfl, _, _, rfl, rfl, _, rfl, ?_⟩
        by_cases c1 : lo ≤ n
        · rw [decide_eq_true c1, Bool.true_and] at hin
          refine iteC (d := true) (decide_eq_true c1) (iteT ⟨_, rfl, _, _, rfl, rfl, ?_⟩)
          refine ⟨_, rfl, p, dx, _, rfl, ho7, fl_no (by decide +kernel), _, rfl, p, w, pt, m, st, .int n, _, rfl, hf7, .inl ⟨n, rfl, rfl⟩, _, .ty "bool", _, _, true, rfl, .ty _, .base (.bl _), kit_ty (by decide +kernel), _, rfl, iteF ⟨_, rfl, p, dx, _, rfl, ho7, fl_no (by decide +kernel), _, rfl, p, w, pt, m, st, .int n, _, rfl, hf7, .inl ⟨n, rfl, rfl⟩, _, rfl, rfl, _, rfl, ?_⟩⟩
          refine iteC (d := false) (by rw [decide_eq_true (congrArg V.bl hin)]; rfl) (iteF ?_)
          exact ⟨_, _, rfl, rfl⟩
        · rw [decide_eq_false c1, Bool.false_and] at hin
          refine iteC (d := false) (decide_eq_false c1) (iteF ?_)
          refine ⟨_, rfl, p, dx, _, rfl, ho7, fl_no (by decide +kernel), _, rfl, p, w, pt, m, st, .int n, _, rfl, hf7, .inl ⟨n, rfl, rfl⟩, _, .ty "bool", _, _, true, rfl, .ty _, .base (.bl _), kit_ty (by decide +kernel), _, rfl, iteF ⟨_, rfl, p, dx, _, rfl, ho7, fl_no (by decide +kernel), _, rfl, p, w, pt, m, st, .int n, _, rfl, hf7, .inl ⟨n, rfl, rfl⟩, _, rfl, rfl, _, rfl, ?_⟩⟩
          refine iteC (d := false) (by rw [decide_eq_true (congrArg V.bl hin)]; rfl) (iteF ?_)
          exact ⟨_, _, rfl, rfl⟩
    obtain ⟨v6, v7, rfl, rfl⟩ := hP
    refine ⟨(by show 2 ≤ sizeLine; decide), fun t1 ht1 => ⟨(by show 1 ≤ sizeLine; decide), fun t2 ht2 => ⟨_, rfl, (by show 7 ≤ sizeLine; decide), fun t3 ht3 => ⟨t3, rfl, ⟨_, SqL.of upd_same⟩, fun Da hD => ?_⟩⟩⟩⟩
    have y1 := same_new (o := .tup [.int 0, .int 1]) ht1
    have y2 := same_new (o := .lst [.int 0]) ht2
    have y3 := same_new (o := .lst [V.non, V.bl true, V.bl false, V.str "0", V.ref t1, V.ref t2, V.ref p]) ht3
    have yD := same_new (o := .lst []) hD
    have E1 := y3 _ _ (y2 _ _ (upd_same (H := H') (a := t1) (o := .tup [.int 0, .int 1])))
    have E2 := y3 _ _ (upd_same (H := upd H' t1 (.tup [.int 0, .int 1])) (a := t2) (o := .lst [.int 0]))
    have E3 : (upd (upd (upd H' t1 (.tup [.int 0, .int 1])) t2 (.lst [.int 0])) t3 (.lst [V.non, V.bl true, V.bl false, V.str "0", V.ref t1, V.ref t2, V.ref p])) t3 = some (.lst [V.non, V.bl true, V.bl false, V.str "0", V.ref t1, V.ref t2, V.ref p]) := upd_same
    have S8 : Same H' (upd (upd (upd H' t1 (.tup [.int 0, .int 1])) t2 (.lst [.int 0])) t3 (.lst [V.non, V.bl true, V.bl false, V.str "0", V.ref t1, V.ref t2, V.ref p])) := y1.trans (y2.trans y3)
    generalize upd (upd (upd H' t1 (.tup [.int 0, .int 1])) t2 (.lst [.int 0])) t3 (.lst [V.non, V.bl true, V.bl false, V.str "0", V.ref t1, V.ref t2, V.ref p]) = B at *
    refine lc_list (K := K) (a := t3) (xs := [V.non, V.bl true, V.bl false, V.str "0", V.ref t1, V.ref t2, V.ref p]) (fun i H4 => Same B H4 ∧ H4 Da = some (.lst (List.replicate i (V.bl false)))) ⟨yD, upd_same⟩ (fun i H4 _ hP => SqL.of (hP.1 _ _ E3)) (fun i x H4 hi hP => ?_) (fun H4 hP => ?_)
    · obtain ⟨s4, hD4⟩ := hP
      have ho4 := s4 _ _ (S8 _ _ ho7)
      have hf4 := hf7.same (S8.trans s4)
      obtain ⟨hx, i7⟩ : WholeIs K H4 x false ∧ i < 7 := by
        match i, hi with
        | 0, hx => cases hx; exact ⟨.inr (.inr (.inl ⟨rfl, _, .base .non, by decide +kernel⟩)), by decide⟩
        | 1, hx => cases hx; exact ⟨.inr (.inl ⟨_, rfl, rfl⟩), by decide⟩
        | 2, hx => cases hx; exact ⟨.inr (.inl ⟨_, rfl, rfl⟩), by decide⟩
        | 3, hx => cases hx; exact ⟨.inr (.inr (.inl ⟨rfl, _, .base (.str _), by decide +kernel⟩)), by decide⟩
        | 4, hx => cases hx; exact ⟨.inr (.inr (.inl ⟨rfl, _, .base (.tup (s4 _ _ E1)), by decide +kernel⟩)), by decide⟩
        | 5, hx => cases hx; exact ⟨.inr (.inr (.inl ⟨rfl, _, .base (.lst (s4 _ _ E2)), by decide +kernel⟩)), by decide⟩
        | 6, hx => cases hx; exact ⟨.inr (.inr (.inr ⟨rfl, C, .base (.ins ho4 T.cl X.ha X.hn X.ht X.hm), X.kI⟩)), by decide⟩
        | k + 7, hx => simp at hx
      refine ⟨rfl, _, rfl, p, dx, _, rfl, ho4, fl_no (by decide +kernel), _, rfl, p, w, pt, m, st, x, false, rfl, hf4, .inr ⟨hx, rfl⟩, _, hD4, ?_, fun b' o' e' => ?_, ?_⟩
      · rw [List.length_replicate]
        exact small1000' (by omega)
      · rw [upd_ne (ne_of_none e' hD)]
        exact s4 _ _ e'
      · rw [upd_same]
        exact congrArg (fun l => some (HO.lst l)) (List.replicate_succ').symm
    obtain ⟨s4, hD4⟩ := hP
    refine ⟨(by show 1 ≤ sizeLine; decide), fun t5 ht5 => ⟨t5, 7, _, rfl, rfl, upd_same, by decide, by decide, (by show 1 * 7 ≤ sizeLine; decide), fun t6 ht6 => ?_⟩⟩
    have y5 := same_new (o := .lst [.bl false]) ht5
    have y6 := same_new (o := .lst [V.bl false, V.bl false, V.bl false, V.bl false, V.bl false, V.bl false, V.bl false]) ht6
    refine ⟨.list [.bool false, .bool false, .bool false, .bool false, .bool false, .bool false, .bool false], .list [.bool false, .bool false, .bool false, .bool false, .bool false, .bool false, .bool false], .lst (SqL.of (y6 _ _ (y5 _ _ hD4))) (.cons (.bl _) (.cons (.bl _) (.cons (.bl _) (.cons (.bl _) (.cons (.bl _) (.cons (.bl _) (.cons (.bl _) .nil))))))), .lst (SqL.of upd_same) (.cons (.bl _) (.cons (.bl _) (.cons (.bl _) (.cons (.bl _) (.cons (.bl _) (.cons (.bl _) (.cons (.bl _) .nil))))))), (by decide +kernel), (by decide +kernel), ?_⟩
    rw [SeqAt.eqv_refl _ (by decide +kernel)]
    have SS := (S8.trans s4).trans (y5.trans y6)
    exact q _ (S7.trans (SameBut.of SS)) (W8.same SS)

end
end E1

namespace E1
open PySem PySem.Spec PyProof.Rows L2

def spLaw (K : PySem.W.Frag) : Sp := fun vs H Q _ => ∃ (a : Addr) (ns : List Int), vs = [.ref a] ∧ SqL K H a (ns.map V.int) ∧ ns.length ≤ 63 ∧ ∀ H', Q (.bl true) H'
def CalCN (P : Program) (w : World) (K : PySem.W.Frag) (mg : Str → Option Value) (base : Heap) (k : Nat) (x : Str) (C : Addr) (ps : List Str) (n : Nat) (ks : List Str) (gV : List V → List V → List V) (sp : Sp) : Prop :=
  ∃ (f : Addr) (fd : FuncData) (g : List Value → List Value → List Value), Mk K C f ∧ mg x = some (.ref C) ∧ KBn K fd ps (n + 1) ks g gV ∧ FnOk P w K mg base CX0 k f fd ps sp
section
variable {X : Cx} {k j n : Nat} {C : Addr} {x : Str} {ps ks : List Str} {dvs : List V} {sp : Sp} {e : Expr} {es : List Expr} {t tk : TA} {p pos : Pos} {gV : List V → List V → List V} {kws : List Keyword}
theorem pe_calcN (h : CalCN X.prog X.w X.K X.mg X.base k x C ps n ks gV sp) (hr : Room j X.A) (ha : PA X (e :: es) t) (hkw : PK X kws tk) (hle : k + 1 ≤ j := by decide) (hg : Gl X x := by rfl)
    (hall : (backToKw pos (keywordEach kws X.env)).all (·.1.isSome) = true := by rfl) (hks : (backToKw pos (keywordEach kws X.env)).filterMap (·.1) = ks := by rfl) (hdb : (x == ("__debug__" : Str)) = false := by decide) (he : starEach (e :: es) X.env = (false, eval e X.env) :: starEach es X.env := by rfl)
    (hpl : ((backTo pos (starEach (e :: es) X.env)).any (·.1) || (backToKw pos (keywordEach kws X.env)).any (·.1.isNone)) = false := by rfl) :
    PE X (.Call (.Name x p) (e :: es) kws pos) (tMakeN C n ks.length sp gV E0 t tk) := by
  obtain ⟨f, fd, g, h1, h2, h3, h4⟩ := h
  exact pe_makeN h1 h4 (hr.mono hle) hg h2 h3 pass0 ha hkw hall hks hdb he hpl
theorem pe_calcN0 (h : CalCN X.prog X.w X.K X.mg X.base k x C ps 0 ks gV sp) (hr : Room j X.A) (hkw : PK X kws tk) (hle : k + 1 ≤ j := by decide) (hg : Gl X x := by rfl)
    (hall : (backToKw pos (keywordEach kws X.env)).all (·.1.isSome) = true := by rfl) (hks : (backToKw pos (keywordEach kws X.env)).filterMap (·.1) = ks := by rfl) (hdb : (x == ("__debug__" : Str)) = false := by decide)
    (hpl : ((backTo pos (starEach [] X.env)).any (·.1) || (backToKw pos (keywordEach kws X.env)).any (·.1.isNone)) = false := by rfl) :
    PE X (.Call (.Name x p) [] kws pos) (tMakeN C 0 ks.length sp gV E0 tNil tk) := by
  obtain ⟨f, fd, g, h1, h2, h3, h4⟩ := h
  refine ⟨fun pins s σ H Q I h => ?_⟩
  refine wpAny_Call_Name_kw (ld_glob I hg h2 ?_ hdb)
  refine PySem.W.callWith_KW0 (h₀ := X.base) I.ok.mod.kin h1.kp hall (thn (hkw.run pos pins s σ H _ I h) fun ws s2 ⟨zs, H2, I2, rz, l1, l2, q2⟩ => ⟨I2.kIn, ?_⟩) hpl
  rw [hks]
  exact run_makeN (vs := []) (us := []) h1 h4 (hr.mono hle) h3 pass0 I2 .nil rz l1 l2 q2
theorem pe_calcD0 (h : CalC X.prog X.w X.K X.mg X.base k x C ps dvs sp) (hr : Room j X.A) (hle : k + 1 ≤ j := by decide) (hg : Gl X x := by rfl) (hdb : (x == ("__debug__" : Str)) = false := by decide) : PE X (.Call (.Name x p) [] [] pos) (tMake C sp dvs E0 tNil) := by
  obtain ⟨f, fd, ds, h1, h2, h3, h4, h5⟩ := h
  exact pe_make0 h1 h5 (hr.mono hle) hg h2 h4 h3 pass0 hdb
end
/-- a new form: what stood stands -/
theorem made_same {H H' : Hp} {x dx C : Addr} (hx : H x = none) (hdx : H dx = none) (kp : ∀ b o, b ≠ x → (upd (upd H dx (.own x)) x (.ins C dx [])) b = some o → H' b = some o) : Same H H' := fun b o e => kp b o (ne_of_none e hx) (by rw [upd_ne (ne_of_none e hx), upd_ne (ne_of_none e hdx)]; exact e)
section
variable {P : Program} {w : World} {K : PySem.W.Frag} {mg : Str → Option Value} {base : Heap}
theorem sc_law : FnScope ["_law_script", "_law_well_here", "_law_parts_here", "_law_others", "_law_form", "_law_twin", "_law_other_here"] ["_law_script"] (defScope s_law) := ⟨rfl, rfl, rfl, by decide +kernel, rfl, by decide +kernel, by decide +kernel⟩
theorem ok_law {f : Addr} {fd : FuncData} {C : Addr} (T : FTxt K mg C) (X : FX K mg C) (F : Fun K "law" "law" s_law f fd) (z : Zs mg) (c__law_cell_at : Cal P w K mg base 1 "_law_cell_at" ["_law_script", "_law_k"] (spCell K)) (c__law_well : Cal P w K mg base 1 "_law_well" ["_law_cell"] spWell) (c__law_parts : Cal P w K mg base 2 "_law_parts" ["_law_well_here"] spParts) (c__law_other : Cal P w K mg base 2 "_law_other" ["_law_parts_here", "_law_well_here"] (spOther K)) (c__law_tells : Cal P w K mg base 5 "_law_tells" ["_law_form", "_law_parts_here"] (spTells C)) (c__law_words_right : Cal P w K mg base 4 "_law_words_right" ["_law_form", "_law_parts_here", "_law_well_here"] (spRight C)) (c_Form_4 : CalC P w K mg base 3 "Form" C ["self", "width", "point", "manner", "ends"] [] (spInit C)) (c_Form_0 : CalC P w K mg base 3 "Form" C ["self", "width", "point", "manner", "ends"] [.non, .int 0, .str "half", .str "wrap"] (spInit C)) (c_Form_1 : CalC P w K mg base 3 "Form" C ["self", "width", "point", "manner", "ends"] [.int 0, .str "half", .str "wrap"] (spInit C)) (c_Form_3 : CalC P w K mg base 3 "Form" C ["self", "width", "point", "manner", "ends"] [.str "wrap"] (spInit C)) (c_Form_k : CalCN P w K mg base 3 "Form" C ["self", "width", "point", "manner", "ends"] 0 ["ends", "manner", "width", "point"] (fun vs zs => vs ++ [zs.getD 2 .non, zs.getD 3 .non, zs.getD 1 .non, zs.getD 0 .non]) (spInit C)) (c_Form_n : CalCN P w K mg base 3 "Form" C ["self", "width", "point", "manner", "ends"] 2 ["ends", "manner"] (fun vs zs => vs ++ zs.reverse) (spInit C)) {fS fR : Addr} {fdS fdR : FuncData} (okS : FnOk P w K mg base CX0 1 fS fdS ["self"] (spStrF C)) (bS : Binds K fdS ["self"] []) (MS : OwnM K C "__str__" fS) (okR : FnOk P w K mg base CX0 1 fR fdR ["self"] (spRepF C)) (bR : Binds K fdR ["self"] []) (MR : OwnM K C "__repr__" fR) {fE : Addr} {fdE : FuncData} (okE : FnOk P w K mg base CX0 1 fE fdE ["self", "other"] (spEqF K C)) (bE : Binds K fdE ["self", "other"] []) (ME : OwnM K C "__eq__" fE) : FnOk P w K mg base CX0 7 f fd ["_law_script"] (spLaw K) := by
  refine F.ok sc_law (fun vs H Q E h => ?_) (fun cdv A outer s H vs Q E hr h => ?_)
  · obtain ⟨a, ns, rfl, _⟩ := h
    rfl
  · obtain ⟨as, ns, rfl, hS, hlen, q⟩ := h
    refine ⟨_, (pss_cons (ps_set (i := 1) sc_law.nd rfl (.inl rfl) (pe_cal c__law_well hr (pa_cons (pe_cal c__law_cell_at hr (pa_cons (pv 0) (pa_cons pe_int pa_nil))) pa_nil)))
      (pss_cons (ps_set (i := 2) sc_law.nd rfl (.inl rfl) (pe_cal c__law_parts hr (pa_cons (pv 1) pa_nil)))
      (pss_cons (ps_set (i := 3) sc_law.nd rfl (.inl rfl) (pe_cal c__law_other hr (pa_cons (pv 2) (pa_cons (pv 1) pa_nil))))
      (pss_cons (ps_set (i := 4) sc_law.nd rfl (.inl rfl) (pe_calc c_Form_4 hr (pa_cons (pe_ix ix_list (pv 2) pe_int (fun _ _ => rfl)) (pa_cons (pe_ix ix_list (pv 2) pe_int (fun _ _ => rfl)) (pa_cons (pe_ix ix_list (pv 2) pe_int (fun _ _ => rfl)) (pa_cons (pe_ix ix_list (pv 2) pe_int (fun _ _ => rfl)) pa_nil))))))
      (pss_cons (ps_set (i := 5) sc_law.nd rfl (.inl rfl) (pe_calcN0 c_Form_k hr (pk_cons (pe_ix ix_list (pv 2) pe_int (fun _ _ => rfl)) (pk_cons (pe_ix ix_list (pv 2) pe_int (fun _ _ => rfl)) (pk_cons (pe_ix ix_list (pv 2) pe_int (fun _ _ => rfl)) (pk_cons (pe_ix ix_list (pv 2) pe_int (fun _ _ => rfl)) pk_nil))))))
      (pss_cons (ps_set (i := 6) sc_law.nd rfl (.inl rfl) (pe_calcN c_Form_n hr (pa_cons (pe_ix ix_list (pv 3) pe_int (fun _ _ => rfl)) (pa_cons (pe_ix ix_list (pv 3) pe_int (fun _ _ => rfl)) pa_nil)) (pk_cons (pe_ix ix_list (pv 3) pe_int (fun _ _ => rfl)) (pk_cons (pe_ix ix_list (pv 3) pe_int (fun _ _ => rfl)) pk_nil))))
      (pss_cons (ps_if (PW.pt (pw_or (pt_not (pt_val (pe_cal c__law_tells hr (pa_cons (pv 4) (pa_cons (pv 2) pa_nil))))) (pw_or (pt_not (pt_val (pe_cal c__law_tells hr (pa_cons (pv 6) (pa_cons (pv 3) pa_nil))))) (pw_or1 (pt_not (pt_val (pe_cal c__law_tells hr (pa_cons (pv 5) (pa_cons (pv 2) pa_nil))))))))) (pss_one (ps_ret pe_bl)) pss_nil)
      (pss_cons (ps_if (PW.pt (pw_or (pt_not (pt_cmpR (op_eqO okE bE ME hr) (pv 4) (pv 5) (nomark _))) (pw_or (pt_cmpR (op_eqO okE bE ME hr) (pv 4) (pv 6) (nomark _)) (pw_or (pt_cmpR (op_eqO okE bE ME hr) (pv 6) (pv 5) (nomark _)) (pw_or1 (pt_not (pt_cmpR (op_eqO okE bE ME hr) (pv 6) (pv 6) (nomark _)))))))) (pss_one (ps_ret pe_bl)) pss_nil)
      (pss_cons (ps_if (PW.pt (pw_or (pt_cmpR (op_eqO okE bE ME hr) (pv 4) (pe_callTy (call_strO okS bS MS hr) (by rfl) z.str (by decide +kernel) (pa_cons (pv 4) pa_nil)) (nomark _)) (pw_or (pt_cmpR (op_eqO okE bE ME hr) (pv 4) (pv 2) (nomark _)) (pw_or (pt_cmpR (op_eqO okE bE ME hr) (pv 4) pe_non (nomark _)) (pw_or1 (pt_cmpR (op_eqO okE bE ME hr) (pv 4) (pe_callTy call_tuple_of (by rfl) z.tuple (by decide +kernel) (pa_cons (pv 2) pa_nil)) (nomark _))))))) (pss_one (ps_ret pe_bl)) pss_nil)
      (pss_cons (ps_if (PW.pt (pw_or (pt_not (pt_cmpR (op_eqO okE bE ME hr) (pe_calcD0 c_Form_0 hr) (pe_calc c_Form_4 hr (pa_cons pe_non (pa_cons pe_int (pa_cons pe_str (pa_cons pe_str pa_nil))))) (nomark _))) (pw_or1 (pt_not (pt_cmpR (op_eqO okE bE ME hr) (pe_calc c_Form_1 hr (pa_cons (pe_ix ix_list (pv 2) pe_int (fun _ _ => rfl)) pa_nil)) (pe_calc c_Form_4 hr (pa_cons (pe_ix ix_list (pv 2) pe_int (fun _ _ => rfl)) (pa_cons pe_int (pa_cons pe_str (pa_cons pe_str pa_nil))))) (nomark _)))))) (pss_one (ps_ret pe_bl)) pss_nil)
      (pss_cons (ps_if (pt_not (pt_cmpR (op_eqO okE bE ME hr) (pe_calc c_Form_3 hr (pa_cons (pe_ix ix_list (pv 2) pe_int (fun _ _ => rfl)) (pa_cons (pe_ix ix_list (pv 2) pe_int (fun _ _ => rfl)) (pa_cons (pe_ix ix_list (pv 2) pe_int (fun _ _ => rfl)) pa_nil)))) (pe_calc c_Form_4 hr (pa_cons (pe_ix ix_list (pv 2) pe_int (fun _ _ => rfl)) (pa_cons (pe_ix ix_list (pv 2) pe_int (fun _ _ => rfl)) (pa_cons (pe_ix ix_list (pv 2) pe_int (fun _ _ => rfl)) (pa_cons pe_str pa_nil))))) (nomark _))) (pss_one (ps_ret pe_bl)) pss_nil)
      (pss_cons (ps_set (i := 1) sc_law.nd rfl (.inl rfl) (pe_cal c__law_well hr (pa_cons (pe_cal c__law_cell_at hr (pa_cons (pv 0) (pa_cons pe_int pa_nil))) pa_nil)))
      (pss_one (ps_ret (pe_and (pe_cal c__law_words_right hr (pa_cons (pv 4) (pa_cons (pv 2) (pa_cons (pv 1) pa_nil)))) (pe_and (pe_cal c__law_words_right hr (pa_cons (pv 6) (pa_cons (pv 3) (pa_cons (pv 1) pa_nil)))) (pe_one (pe_cal c__law_tells hr (pa_cons (pv 4) (pa_cons (pv 2) pa_nil)))))))))))))))))))), ?_⟩
    refine ⟨_, rfl, as, ns, 0, rfl, hS, _, rfl, fun w1 hw1 H1 s1 k1 => ?_⟩
    refine ⟨_, rfl, w1, 0, rfl, k1, by decide, fun w pt m st b H2 ok hb0 sb2 hb2 wl2 => ?_⟩
    have nb : b ≠ w1 := k1.ne hb0
    refine ⟨_, rfl, _, rfl, b, w1, _, w, pt, m, st, rfl, hb2, ok, nb, wl2, by decide, fun w2 pt2 m2 st2 b2 H3 ok2 al hb20 sb3 hb3 wl3 => ?_⟩
    have nb2 : b2 ≠ w1 := wl2.ne hb20
    have hb := sb3 _ _ nb hb2
    have SH : Same H H3 := same_but s1 (sb2.trans sb3) hw1
    clear wl2 wl3 sb2 sb3 hb2 hb0 hb20 k1 s1
    refine ⟨_, rfl, b, _, 0, _, rfl, rfl, SqL.of hb, a0, _, rfl, b, _, 1, _, rfl, rfl, SqL.of hb, a1, _, rfl, b, _, 2, _, rfl, rfl, SqL.of hb, a2, _, rfl, b, _, 3, _, rfl, rfl, SqL.of hb, atI_nat (j := 3) rfl, fun x4 y4 hx4 hy4 nx4 => ⟨x4, y4, w, pt, m, st, rfl, ok.wo, ok.p0, ok.p1, upd_same, fun H4 f4 kp4 kn4 => ⟨rfl, ?_⟩⟩⟩
    have S4 := made_same hx4 hy4 kp4
    clear kp4 kn4 hy4 nx4
    have hb4 := S4 _ _ hb
    refine ⟨_, rfl, b, _, 3, _, rfl, rfl, SqL.of hb4, atI_nat (j := 3) rfl, _, rfl, b, _, 2, _, rfl, rfl, SqL.of hb4, a2, _, rfl, b, _, 0, _, rfl, rfl, SqL.of hb4, a0, _, rfl, b, _, 1, _, rfl, rfl, SqL.of hb4, a1, rfl, rfl, fun x5 y5 hx5 hy5 nx5 => ⟨x5, y5, w, pt, m, st, rfl, ok.wo, ok.p0, ok.p1, upd_same, fun H5 f5 kp5 kn5 => ⟨rfl, ?_⟩⟩⟩
    have S5 := made_same hx5 hy5 kp5
    clear kp5 kn5 hy5 nx5
    have c5 := S5 _ _ (S4 _ _ hb3)
    refine ⟨_, rfl, b2, _, 0, _, rfl, rfl, SqL.of c5, a0, _, rfl, b2, _, 1, _, rfl, rfl, SqL.of c5, a1, _, rfl, b2, _, 3, _, rfl, rfl, SqL.of c5, atI_nat (j := 3) rfl, _, rfl, b2, _, 2, _, rfl, rfl, SqL.of c5, a2, rfl, rfl, fun x6 y6 hx6 hy6 nx6 => ⟨x6, y6, w2, pt2, m2, st2, rfl, ok2.wo, ok2.p0, ok2.p1, upd_same, fun H6 f6 kp6 kn6 => ⟨rfl, ?_⟩⟩⟩
    have S6 := made_same hx6 hy6 kp6
    clear kp6 kn6 hy6 nx6
    have S46 := (S4.trans S5).trans S6
    have hb6 := S46 _ _ hb
    have c6 := S46 _ _ hb3
    have F4 := f4.same (S5.trans S6)
    have F5 := f5.same S6
    refine ⟨_, rfl, _, rfl, x4, b, w, pt, m, st, rfl, F4, hb6, fun H7 s7 => ⟨_, rfl, iteF ⟨_, rfl, _, rfl, x6, b2, w2, pt2, m2, st2, rfl, f6.same s7, s7 _ _ c6, fun H8 s8 => ⟨_, rfl, iteF ⟨_, rfl, _, rfl, x5, b, w, pt, m, st, rfl, F5.same (s7.trans s8), (s7.trans s8) _ _ hb6, fun H9 s9 => ⟨_, rfl, iteF ?_⟩⟩⟩⟩⟩⟩
    have s79 := (s7.trans s8).trans s9
    have G4 := F4.same s79
    have G5 := F5.same s79
    have G6 := f6.same s79
    have al' : alikeB w2 w pt2 pt m2 m st2 st = false := by
      have : ∀ x, x = alikeB w2 w pt2 pt m2 m st2 st → x = false := fun x hx => by
        cases x with
        | false => rfl
        | true =>
          unfold alikeB at hx
          have h := hx.symm
          simp only [Bool.and_eq_true, decide_eq_true_eq] at h
          obtain ⟨h1, h2, h3, h4⟩ := h
          rw [wV_inj h1, V.int.inj h2, mstr_inj (V.str.inj h3), endS_inj (V.str.inj h4), al_same] at al
          cases al
      exact this _ rfl
    refine ⟨_, rfl, _, rfl, x4, _, _, rfl, G4.ob.choose_spec, .inl ⟨x5, _, _, rfl, G5.ob.choose_spec⟩, x4, w, pt, m, st, _, rfl, G4, .inl ⟨x5, w, pt, m, st, rfl, G5, _, rfl, _, rfl, ?_⟩⟩
    rw [al_same]
    refine iteF ⟨_, rfl, _, rfl, x4, _, _, rfl, G4.ob.choose_spec, .inl ⟨x6, _, _, rfl, G6.ob.choose_spec⟩, x4, w, pt, m, st, _, rfl, G4, .inl ⟨x6, w2, pt2, m2, st2, rfl, G6, _, rfl, _, rfl, ?_⟩⟩
    rw [al]
    refine iteF ⟨_, rfl, _, rfl, x6, _, _, rfl, G6.ob.choose_spec, .inl ⟨x5, _, _, rfl, G5.ob.choose_spec⟩, x6, w2, pt2, m2, st2, _, rfl, G6, .inl ⟨x5, w, pt, m, st, rfl, G5, _, rfl, _, rfl, ?_⟩⟩
    rw [al']
    refine iteF ⟨_, rfl, _, rfl, x6, _, _, rfl, G6.ob.choose_spec, .inl ⟨x6, _, _, rfl, G6.ob.choose_spec⟩, x6, w2, pt2, m2, st2, _, rfl, G6, .inl ⟨x6, w2, pt2, m2, st2, rfl, G6, _, rfl, _, rfl, ?_⟩⟩
    rw [al_same]
    refine iteF ?_
    obtain ⟨dx4, ho4⟩ := G4.ob
    have hb9 := s79 _ _ hb6
    have c9 := s79 _ _ c6
    refine ⟨_, rfl, _, rfl, x4, dx4, _, rfl, ho4, x4, w, pt, m, st, rfl, G4, _, rfl, x4, dx4, _, rfl, ho4, .inr (.inr (.inl ⟨_, rfl, X.nS⟩)), x4, w, pt, m, st, _, rfl, G4, .inr ⟨_, .base (.str _), X.kS, _, rfl, _, rfl, iteF ?_⟩⟩
    refine ⟨_, rfl, _, rfl, x4, dx4, _, rfl, ho4, .inr (.inr (.inr (.inl ⟨b, _, rfl, hb9, X.nL⟩))), x4, w, pt, m, st, _, rfl, G4, .inr ⟨_, .base (.lst hb9), X.kL, _, rfl, _, rfl, iteF ?_⟩⟩
    refine ⟨_, rfl, x4, dx4, _, rfl, ho4, .inr (.inl ⟨rfl, X.nN⟩), x4, w, pt, m, st, _, rfl, G4, .inr ⟨_, .base .non, X.kN, _, rfl, _, rfl, iteF ?_⟩⟩
    refine ⟨_, rfl, _, rfl, b, _, rfl, .inl ⟨SqL.of hb9, fun tp htp => ?_⟩⟩
    have sT := same_new (o := .tup (PL w pt m st)) htp
    refine ⟨x4, dx4, _, rfl, sT _ _ ho4, .inr (.inr (.inr (.inr ⟨tp, _, rfl, upd_same, X.nT⟩))), x4, w, pt, m, st, _, rfl, G4.same sT, .inr ⟨_, .base (.tup upd_same), X.kT, _, rfl, _, rfl, iteF ?_⟩⟩
    have hbT := sT _ _ hb9
    have cT := sT _ _ c9
    have GT4 := G4.same sT
    have GT6 := G6.same sT
    have SH2 : Same H3 _ := (S46.trans s79).trans sT
    generalize upd H9 tp (.tup (PL w pt m st)) = HA at *
    clear hb9 c9 G4 G5 G6 sT htp ho4 s79 s7 s8 s9 F4 F5 f4 f5 f6 hb6 c6 S46 S4 S5 S6 hb4 c5
    have okN : Ok4 none 0 := ⟨(fun _ z => by cases z), by decide, by decide⟩
    refine fun xa ya hxa hya nxa => ⟨xa, ya, none, 0, .half, false, rfl, okN.wo, okN.p0, okN.p1, upd_same, fun Ha fa kpa kna => ⟨rfl, ?_⟩⟩
    have Sa := made_same hxa hya kpa
    clear kpa kna hya nxa
    refine fun xb yb hxb hyb nxb => ⟨xb, yb, none, 0, .half, false, rfl, okN.wo, okN.p0, okN.p1, upd_same, fun Hb fb kpb knb => ⟨rfl, ?_⟩⟩
    have Sb := made_same hxb hyb kpb
    clear kpb knb hyb nxb
    have fa2 := fa.same Sb
    refine ⟨xa, _, _, rfl, fa2.ob.choose_spec, .inl ⟨xb, _, _, rfl, fb.ob.choose_spec⟩, xa, none, 0, .half, false, _, rfl, fa2, .inl ⟨xb, none, 0, .half, false, rfl, fb, _, rfl, _, rfl, ?_⟩⟩
    rw [al_same]
    refine iteF ?_
    have hbb := (Sa.trans Sb) _ _ hbT
    refine ⟨_, rfl, b, _, 0, _, rfl, rfl, SqL.of hbb, a0, fun xc yc hxc hyc nxc => ⟨xc, yc, w, 0, .half, false, rfl, ok.wo, okN.p0, okN.p1, upd_same, fun Hc fc kpc knc => ⟨rfl, ?_⟩⟩⟩
    have Sc := made_same hxc hyc kpc
    clear kpc knc hyc nxc
    have hbc := Sc _ _ hbb
    refine ⟨_, rfl, b, _, 0, _, rfl, rfl, SqL.of hbc, a0, fun xd yd hxd hyd nxd => ⟨xd, yd, w, 0, .half, false, rfl, ok.wo, okN.p0, okN.p1, upd_same, fun Hd fd' kpd knd => ⟨rfl, ?_⟩⟩⟩
    have Sd := made_same hxd hyd kpd
    clear kpd knd hyd nxd
    have fc2 := fc.same Sd
    refine ⟨xc, _, _, rfl, fc2.ob.choose_spec, .inl ⟨xd, _, _, rfl, fd'.ob.choose_spec⟩, xc, w, 0, .half, false, _, rfl, fc2, .inl ⟨xd, w, 0, .half, false, rfl, fd', _, rfl, _, rfl, ?_⟩⟩
    rw [al_same]
    refine iteF ?_
    have hbd := Sd _ _ hbc
    refine ⟨_, rfl, b, _, 0, _, rfl, rfl, SqL.of hbd, a0, _, rfl, b, _, 1, _, rfl, rfl, SqL.of hbd, a1, _, rfl, b, _, 2, _, rfl, rfl, SqL.of hbd, a2, fun xe ye hxe hye nxe => ⟨xe, ye, w, pt, m, false, rfl, ok.wo, ok.p0, ok.p1, upd_same, fun He fe kpe kne => ⟨rfl, ?_⟩⟩⟩
    have Se := made_same hxe hye kpe
    clear kpe kne hye nxe
    have hbe := Se _ _ hbd
    refine ⟨_, rfl, b, _, 0, _, rfl, rfl, SqL.of hbe, a0, _, rfl, b, _, 1, _, rfl, rfl, SqL.of hbe, a1, _, rfl, b, _, 2, _, rfl, rfl, SqL.of hbe, a2, fun xg yg hxg hyg nxg => ⟨xg, yg, w, pt, m, false, rfl, ok.wo, ok.p0, ok.p1, upd_same, fun Hg fg kpg kng => ⟨rfl, ?_⟩⟩⟩
    have Sg := made_same hxg hyg kpg
    clear kpg kng hyg nxg
    have fe2 := fe.same Sg
    refine ⟨xe, _, _, rfl, fe2.ob.choose_spec, .inl ⟨xg, _, _, rfl, fg.ob.choose_spec⟩, xe, w, pt, m, false, _, rfl, fe2, .inl ⟨xg, w, pt, m, false, rfl, fg, _, rfl, _, rfl, ?_⟩⟩
    rw [al_same]
    refine iteF ?_
    have SX := ((Sa.trans Sb).trans (Sc.trans Sd)).trans (Se.trans Sg)
    have hbX := SX _ _ hbT
    have cX := SX _ _ cT
    have f4X := GT4.same SX
    have f6X := GT6.same SX
    refine ⟨_, rfl, as, ns, 1, rfl, ((SH.trans SH2).trans SX).seq hS, _, rfl, fun w3 hw3 HB sB kB => ?_⟩
    have nb3 : b ≠ w3 := fun e => by rw [← e, hbX] at hw3; cases hw3
    have nc3 : b2 ≠ w3 := fun e => by rw [← e, cX] at hw3; cases hw3
    have f4B := f4X.same sB
    have f6B := f6X.same sB
    have n43 : x4 ≠ w3 := fun e => by
      obtain ⟨dd, e4⟩ := f4X.ob
      rw [e, hw3] at e4
      cases e4
    have n63 : x6 ≠ w3 := fun e => by
      obtain ⟨dd, e4⟩ := f6X.ob
      rw [e, hw3] at e4
      cases e4
    refine ⟨_, rfl, _, rfl, _, rfl, x4, b, w3, 0, w, pt, m, st, rfl, f4B, sB _ _ hbX, nb3, kB, by decide, fun HC sC kC => ⟨_, rfl, iteT ?_⟩⟩
    have f6C : FormAt C HC x6 w2 pt2 m2 st2 := let ⟨⟨dd, e⟩, p, r, t⟩ := f6B; ⟨⟨dd, sC _ _ n63 e⟩, p, r, t⟩
    have f4C : FormAt C HC x4 w pt m st := let ⟨⟨dd, e⟩, p, r, t⟩ := f4B; ⟨⟨dd, sC _ _ n43 e⟩, p, r, t⟩
    refine ⟨_, rfl, _, rfl, _, rfl, x6, b2, w3, _, w2, pt2, m2, st2, rfl, f6C, sC _ _ nc3 (sB _ _ cX), nc3, kC, by decide, fun HD sD kD => ⟨_, rfl, iteT ?_⟩⟩
    have f4D : FormAt C HD x4 w pt m st := let ⟨⟨dd, e⟩, p, r, t⟩ := f4C; ⟨⟨dd, sD _ _ n43 e⟩, p, r, t⟩
    exact ⟨_, rfl, _, rfl, x4, b, w, pt, m, st, rfl, f4D, sD _ _ nb3 (sC _ _ nb3 (sB _ _ hbX)), fun HE _ => q HE⟩
end
end E1

namespace E1
open PySem PySem.Spec PyProof.Rows L2

theorem vals_getD : ∀ {vs : List V} {us : List Value} (i : Nat), Vals vs us → RelV (vs.getD i .non) (us.getD i .none)
  | _, _, _, .nil => rfl
  | _, _, 0, .cons h _ => h
  | _, _, i + 1, .cons _ r => by
    simpa using vals_getD i r

end E1

namespace E1
open PySem PySem.Spec PyProof.Rows L2

theorem Vals.rev : ∀ {xs : List V} {us : List Value}, Vals xs us → Vals xs.reverse us.reverse
  | _, _, .nil => .nil
  | _, _, .cons r t => by
    rw [List.reverse_cons, List.reverse_cons]
    exact Vals.append (Vals.rev t) (.cons r .nil)
section
variable {P : Program} {w : World} {K : PySem.W.Frag} {mg : Str → Option Value} {base : Heap} {x : Str} {st : Stmt} {f : Addr} {fd : FuncData} {ps ks : List Str} {k n : Nat} {sp : Sp}
/-- a def without defaults: its arguments by keywords alone or behind others -/
theorem Fun.kbn {qual : Str} (F : Fun K x qual st f fd) {g : List Value → List Value → List Value} {gV : List V → List V → List V} (hrel : ∀ {vs : List V} {us : List Value} {zs : List V} {ws : List Value}, Vals vs us → Vals zs ws → Vals (gV vs zs) (g us ws))
    (h : ∀ (kV doc pm : Value) (an : Option Addr) (cdv ct : Value) (us ws : List Value), us.length = n → ws.length = ks.length → bindArgs (PySem.W.fnOf x qual (defArgs st) (defBody st) (defScope st) .none kV doc pm an cdv ct) ⟨us, ks.zip ws⟩ = pure (ps.zip (g us ws))) : KBn K fd ps n ks g gV := by
  obtain ⟨oc, od, kV, doc, pm, an, cdv, ct, osl, rfl, lk, hcd⟩ := F.ex
  exact ⟨fun s us ws _ h1 h2 => .of_eq (h kV doc pm an cdv ct us ws h1 h2), hrel⟩
/-- a def with defaults, all arguments given -/
theorem FunD.kbn {qual : Str} {params : Arguments} {body : List Stmt} {scope : Scope} {dvs : List V} {kws : List (Str × V)} (F : FunD K x qual params body scope dvs kws f fd) (hd : dvs ≠ []) {g : List Value → List Value → List Value} {gV : List V → List V → List V} (hrel : ∀ {vs : List V} {us : List Value} {zs : List V} {ws : List Value}, Vals vs us → Vals zs ws → Vals (gV vs zs) (g us ws))
    (h : ∀ (T : Addr) (kV doc pm : Value) (an : Option Addr) (cdv ct : Value) (us ws its : List Value), us.length = n → ws.length = ks.length → its.length = dvs.length → ∃ k, bindArgs (PySem.W.fnOf x qual params body scope (.ref T) kV doc pm an cdv ct) ⟨us, ks.zip ws⟩ = seqItems? (.ref T) >>= k ∧ k (some its.toArray) = pure (ps.zip (g us ws))) : KBn K fd ps n ks g gV := by
  obtain ⟨oc, od, dV, kV, doc, pm, an, cdv, ct, osl, rfl, lk, hcd, hD, hK⟩ := F.ex
  rcases hD with ⟨e, _⟩ | ⟨_, T, o, its, m, rfl, lT, oT, rT⟩
  · exact absurd e hd
  · refine ⟨fun s us ws X h1 h2 => ?_, hrel⟩
    obtain ⟨k, e1, e2⟩ := h T kV doc pm an cdv ct us ws its h1 h2 rT.length.symm
    refine BindsTo.of_looks fun M => ?_
    rw [e1]
    exact looks_items X lT oT (.of_pure e2)
end
theorem all_mk {l : PySem.W.OpenLaw} {w : World} {K : PySem.W.Frag} {h : Heap} {mg : Str → Option Value} {fa f_is_whole f_two_to f_downward f_upward f_inward f_outward f_nearest_greater f_nearest_even f_nearest_far f_is_manner f_is_width f_is_point f_is_ends f__law_cell_at f__law_well f__law_draw f__law_parts f__law_other f__law_two f__law_room f__law_whole f__law_tells f__law_words_right f_law C f_Form_least f_Form_greatest f_Form_has f_Form_step f_Form_slack f_Form___eq__ f_Form___str__ f_Form___repr__ f_Form___init__ T_Form___init__ A_ENDS A_NEAREST_MANNERS A_MANNERS : Addr} (X : K.In h) (G : h.Ns mainGlobals mg) (hfa : mg "law" = some (.ref fa))
    {od_is_whole an_is_whole : Option Addr} {sl_is_whole : Array (Option Value)} {oc_is_whole kV_is_whole dc_is_whole pm_is_whole cd_is_whole ct_is_whole : Value}
    (a_is_whole : PySem.W.nsIn K mainGlobals "is_whole" = some (some (.ref f_is_whole)))
    (l_is_whole : K.lookup f_is_whole = some ⟨oc_is_whole, od_is_whole, .func (PySem.W.fnOf "is_whole" "is_whole" (defArgs s_is_whole) (defBody s_is_whole) (defScope s_is_whole) .none kV_is_whole dc_is_whole pm_is_whole an_is_whole cd_is_whole ct_is_whole), sl_is_whole⟩)
    (c_is_whole : PySem.W.codeIn K cd_is_whole "is_whole" = true)
    (k_is_whole : PySem.W.keepIn K (.ref f_is_whole) = true)
    {od_two_to an_two_to : Option Addr} {sl_two_to : Array (Option Value)} {oc_two_to kV_two_to dc_two_to pm_two_to cd_two_to ct_two_to : Value}
    (a_two_to : PySem.W.nsIn K mainGlobals "two_to" = some (some (.ref f_two_to)))
    (l_two_to : K.lookup f_two_to = some ⟨oc_two_to, od_two_to, .func (PySem.W.fnOf "two_to" "two_to" (defArgs s_two_to) (defBody s_two_to) (defScope s_two_to) .none kV_two_to dc_two_to pm_two_to an_two_to cd_two_to ct_two_to), sl_two_to⟩)
    (c_two_to : PySem.W.codeIn K cd_two_to "two_to" = true)
    (k_two_to : PySem.W.keepIn K (.ref f_two_to) = true)
    {od_downward an_downward : Option Addr} {sl_downward : Array (Option Value)} {oc_downward kV_downward dc_downward pm_downward cd_downward ct_downward : Value}
    (a_downward : PySem.W.nsIn K mainGlobals "downward" = some (some (.ref f_downward)))
    (l_downward : K.lookup f_downward = some ⟨oc_downward, od_downward, .func (PySem.W.fnOf "downward" "downward" (defArgs s_downward) (defBody s_downward) (defScope s_downward) .none kV_downward dc_downward pm_downward an_downward cd_downward ct_downward), sl_downward⟩)
    (c_downward : PySem.W.codeIn K cd_downward "downward" = true)
    (k_downward : PySem.W.keepIn K (.ref f_downward) = true)
    {od_upward an_upward : Option Addr} {sl_upward : Array (Option Value)} {oc_upward kV_upward dc_upward pm_upward cd_upward ct_upward : Value}
    (a_upward : PySem.W.nsIn K mainGlobals "upward" = some (some (.ref f_upward)))
    (l_upward : K.lookup f_upward = some ⟨oc_upward, od_upward, .func (PySem.W.fnOf "upward" "upward" (defArgs s_upward) (defBody s_upward) (defScope s_upward) .none kV_upward dc_upward pm_upward an_upward cd_upward ct_upward), sl_upward⟩)
    (c_upward : PySem.W.codeIn K cd_upward "upward" = true)
    (k_upward : PySem.W.keepIn K (.ref f_upward) = true)
    {od_inward an_inward : Option Addr} {sl_inward : Array (Option Value)} {oc_inward kV_inward dc_inward pm_inward cd_inward ct_inward : Value}
    (a_inward : PySem.W.nsIn K mainGlobals "inward" = some (some (.ref f_inward)))
    (l_inward : K.lookup f_inward = some ⟨oc_inward, od_inward, .func (PySem.W.fnOf "inward" "inward" (defArgs s_inward) (defBody s_inward) (defScope s_inward) .none kV_inward dc_inward pm_inward an_inward cd_inward ct_inward), sl_inward⟩)
    (c_inward : PySem.W.codeIn K cd_inward "inward" = true)
    (k_inward : PySem.W.keepIn K (.ref f_inward) = true)
    {od_outward an_outward : Option Addr} {sl_outward : Array (Option Value)} {oc_outward kV_outward dc_outward pm_outward cd_outward ct_outward : Value}
    (a_outward : PySem.W.nsIn K mainGlobals "outward" = some (some (.ref f_outward)))
    (l_outward : K.lookup f_outward = some ⟨oc_outward, od_outward, .func (PySem.W.fnOf "outward" "outward" (defArgs s_outward) (defBody s_outward) (defScope s_outward) .none kV_outward dc_outward pm_outward an_outward cd_outward ct_outward), sl_outward⟩)
    (c_outward : PySem.W.codeIn K cd_outward "outward" = true)
    (k_outward : PySem.W.keepIn K (.ref f_outward) = true)
    {od_nearest_greater an_nearest_greater : Option Addr} {sl_nearest_greater : Array (Option Value)} {oc_nearest_greater kV_nearest_greater dc_nearest_greater pm_nearest_greater cd_nearest_greater ct_nearest_greater : Value}
    (a_nearest_greater : PySem.W.nsIn K mainGlobals "nearest_greater" = some (some (.ref f_nearest_greater)))
    (l_nearest_greater : K.lookup f_nearest_greater = some ⟨oc_nearest_greater, od_nearest_greater, .func (PySem.W.fnOf "nearest_greater" "nearest_greater" (defArgs s_nearest_greater) (defBody s_nearest_greater) (defScope s_nearest_greater) .none kV_nearest_greater dc_nearest_greater pm_nearest_greater an_nearest_greater cd_nearest_greater ct_nearest_greater), sl_nearest_greater⟩)
    (c_nearest_greater : PySem.W.codeIn K cd_nearest_greater "nearest_greater" = true)
    (k_nearest_greater : PySem.W.keepIn K (.ref f_nearest_greater) = true)
    {od_nearest_even an_nearest_even : Option Addr} {sl_nearest_even : Array (Option Value)} {oc_nearest_even kV_nearest_even dc_nearest_even pm_nearest_even cd_nearest_even ct_nearest_even : Value}
    (a_nearest_even : PySem.W.nsIn K mainGlobals "nearest_even" = some (some (.ref f_nearest_even)))
    (l_nearest_even : K.lookup f_nearest_even = some ⟨oc_nearest_even, od_nearest_even, .func (PySem.W.fnOf "nearest_even" "nearest_even" (defArgs s_nearest_even) (defBody s_nearest_even) (defScope s_nearest_even) .none kV_nearest_even dc_nearest_even pm_nearest_even an_nearest_even cd_nearest_even ct_nearest_even), sl_nearest_even⟩)
    (c_nearest_even : PySem.W.codeIn K cd_nearest_even "nearest_even" = true)
    (k_nearest_even : PySem.W.keepIn K (.ref f_nearest_even) = true)
    {od_nearest_far an_nearest_far : Option Addr} {sl_nearest_far : Array (Option Value)} {oc_nearest_far kV_nearest_far dc_nearest_far pm_nearest_far cd_nearest_far ct_nearest_far : Value}
    (a_nearest_far : PySem.W.nsIn K mainGlobals "nearest_far" = some (some (.ref f_nearest_far)))
    (l_nearest_far : K.lookup f_nearest_far = some ⟨oc_nearest_far, od_nearest_far, .func (PySem.W.fnOf "nearest_far" "nearest_far" (defArgs s_nearest_far) (defBody s_nearest_far) (defScope s_nearest_far) .none kV_nearest_far dc_nearest_far pm_nearest_far an_nearest_far cd_nearest_far ct_nearest_far), sl_nearest_far⟩)
    (c_nearest_far : PySem.W.codeIn K cd_nearest_far "nearest_far" = true)
    (k_nearest_far : PySem.W.keepIn K (.ref f_nearest_far) = true)
    {od_is_manner an_is_manner : Option Addr} {sl_is_manner : Array (Option Value)} {oc_is_manner kV_is_manner dc_is_manner pm_is_manner cd_is_manner ct_is_manner : Value}
    (a_is_manner : PySem.W.nsIn K mainGlobals "is_manner" = some (some (.ref f_is_manner)))
    (l_is_manner : K.lookup f_is_manner = some ⟨oc_is_manner, od_is_manner, .func (PySem.W.fnOf "is_manner" "is_manner" (defArgs s_is_manner) (defBody s_is_manner) (defScope s_is_manner) .none kV_is_manner dc_is_manner pm_is_manner an_is_manner cd_is_manner ct_is_manner), sl_is_manner⟩)
    (c_is_manner : PySem.W.codeIn K cd_is_manner "is_manner" = true)
    (k_is_manner : PySem.W.keepIn K (.ref f_is_manner) = true)
    {od_is_width an_is_width : Option Addr} {sl_is_width : Array (Option Value)} {oc_is_width kV_is_width dc_is_width pm_is_width cd_is_width ct_is_width : Value}
    (a_is_width : PySem.W.nsIn K mainGlobals "is_width" = some (some (.ref f_is_width)))
    (l_is_width : K.lookup f_is_width = some ⟨oc_is_width, od_is_width, .func (PySem.W.fnOf "is_width" "is_width" (defArgs s_is_width) (defBody s_is_width) (defScope s_is_width) .none kV_is_width dc_is_width pm_is_width an_is_width cd_is_width ct_is_width), sl_is_width⟩)
    (c_is_width : PySem.W.codeIn K cd_is_width "is_width" = true)
    (k_is_width : PySem.W.keepIn K (.ref f_is_width) = true)
    {od_is_point an_is_point : Option Addr} {sl_is_point : Array (Option Value)} {oc_is_point kV_is_point dc_is_point pm_is_point cd_is_point ct_is_point : Value}
    (a_is_point : PySem.W.nsIn K mainGlobals "is_point" = some (some (.ref f_is_point)))
    (l_is_point : K.lookup f_is_point = some ⟨oc_is_point, od_is_point, .func (PySem.W.fnOf "is_point" "is_point" (defArgs s_is_point) (defBody s_is_point) (defScope s_is_point) .none kV_is_point dc_is_point pm_is_point an_is_point cd_is_point ct_is_point), sl_is_point⟩)
    (c_is_point : PySem.W.codeIn K cd_is_point "is_point" = true)
    (k_is_point : PySem.W.keepIn K (.ref f_is_point) = true)
    {od_is_ends an_is_ends : Option Addr} {sl_is_ends : Array (Option Value)} {oc_is_ends kV_is_ends dc_is_ends pm_is_ends cd_is_ends ct_is_ends : Value}
    (a_is_ends : PySem.W.nsIn K mainGlobals "is_ends" = some (some (.ref f_is_ends)))
    (l_is_ends : K.lookup f_is_ends = some ⟨oc_is_ends, od_is_ends, .func (PySem.W.fnOf "is_ends" "is_ends" (defArgs s_is_ends) (defBody s_is_ends) (defScope s_is_ends) .none kV_is_ends dc_is_ends pm_is_ends an_is_ends cd_is_ends ct_is_ends), sl_is_ends⟩)
    (c_is_ends : PySem.W.codeIn K cd_is_ends "is_ends" = true)
    (k_is_ends : PySem.W.keepIn K (.ref f_is_ends) = true)
    {od__law_cell_at an__law_cell_at : Option Addr} {sl__law_cell_at : Array (Option Value)} {oc__law_cell_at kV__law_cell_at dc__law_cell_at pm__law_cell_at cd__law_cell_at ct__law_cell_at : Value}
    (a__law_cell_at : PySem.W.nsIn K mainGlobals "_law_cell_at" = some (some (.ref f__law_cell_at)))
    (l__law_cell_at : K.lookup f__law_cell_at = some ⟨oc__law_cell_at, od__law_cell_at, .func (PySem.W.fnOf "_law_cell_at" "_law_cell_at" (defArgs s__law_cell_at) (defBody s__law_cell_at) (defScope s__law_cell_at) .none kV__law_cell_at dc__law_cell_at pm__law_cell_at an__law_cell_at cd__law_cell_at ct__law_cell_at), sl__law_cell_at⟩)
    (c__law_cell_at : PySem.W.codeIn K cd__law_cell_at "_law_cell_at" = true)
    (k__law_cell_at : PySem.W.keepIn K (.ref f__law_cell_at) = true)
    {od__law_well an__law_well : Option Addr} {sl__law_well : Array (Option Value)} {oc__law_well kV__law_well dc__law_well pm__law_well cd__law_well ct__law_well : Value}
    (a__law_well : PySem.W.nsIn K mainGlobals "_law_well" = some (some (.ref f__law_well)))
    (l__law_well : K.lookup f__law_well = some ⟨oc__law_well, od__law_well, .func (PySem.W.fnOf "_law_well" "_law_well" (defArgs s__law_well) (defBody s__law_well) (defScope s__law_well) .none kV__law_well dc__law_well pm__law_well an__law_well cd__law_well ct__law_well), sl__law_well⟩)
    (c__law_well : PySem.W.codeIn K cd__law_well "_law_well" = true)
    (k__law_well : PySem.W.keepIn K (.ref f__law_well) = true)
    {od__law_draw an__law_draw : Option Addr} {sl__law_draw : Array (Option Value)} {oc__law_draw kV__law_draw dc__law_draw pm__law_draw cd__law_draw ct__law_draw : Value}
    (a__law_draw : PySem.W.nsIn K mainGlobals "_law_draw" = some (some (.ref f__law_draw)))
    (l__law_draw : K.lookup f__law_draw = some ⟨oc__law_draw, od__law_draw, .func (PySem.W.fnOf "_law_draw" "_law_draw" (defArgs s__law_draw) (defBody s__law_draw) (defScope s__law_draw) .none kV__law_draw dc__law_draw pm__law_draw an__law_draw cd__law_draw ct__law_draw), sl__law_draw⟩)
    (c__law_draw : PySem.W.codeIn K cd__law_draw "_law_draw" = true)
    (k__law_draw : PySem.W.keepIn K (.ref f__law_draw) = true)
    {od__law_parts an__law_parts : Option Addr} {sl__law_parts : Array (Option Value)} {oc__law_parts kV__law_parts dc__law_parts pm__law_parts cd__law_parts ct__law_parts : Value}
    (a__law_parts : PySem.W.nsIn K mainGlobals "_law_parts" = some (some (.ref f__law_parts)))
    (l__law_parts : K.lookup f__law_parts = some ⟨oc__law_parts, od__law_parts, .func (PySem.W.fnOf "_law_parts" "_law_parts" (defArgs s__law_parts) (defBody s__law_parts) (defScope s__law_parts) .none kV__law_parts dc__law_parts pm__law_parts an__law_parts cd__law_parts ct__law_parts), sl__law_parts⟩)
    (c__law_parts : PySem.W.codeIn K cd__law_parts "_law_parts" = true)
    (k__law_parts : PySem.W.keepIn K (.ref f__law_parts) = true)
    {od__law_other an__law_other : Option Addr} {sl__law_other : Array (Option Value)} {oc__law_other kV__law_other dc__law_other pm__law_other cd__law_other ct__law_other : Value}
    (a__law_other : PySem.W.nsIn K mainGlobals "_law_other" = some (some (.ref f__law_other)))
    (l__law_other : K.lookup f__law_other = some ⟨oc__law_other, od__law_other, .func (PySem.W.fnOf "_law_other" "_law_other" (defArgs s__law_other) (defBody s__law_other) (defScope s__law_other) .none kV__law_other dc__law_other pm__law_other an__law_other cd__law_other ct__law_other), sl__law_other⟩)
    (c__law_other : PySem.W.codeIn K cd__law_other "_law_other" = true)
    (k__law_other : PySem.W.keepIn K (.ref f__law_other) = true)
    {od__law_two an__law_two : Option Addr} {sl__law_two : Array (Option Value)} {oc__law_two kV__law_two dc__law_two pm__law_two cd__law_two ct__law_two : Value}
    (a__law_two : PySem.W.nsIn K mainGlobals "_law_two" = some (some (.ref f__law_two)))
    (l__law_two : K.lookup f__law_two = some ⟨oc__law_two, od__law_two, .func (PySem.W.fnOf "_law_two" "_law_two" (defArgs s__law_two) (defBody s__law_two) (defScope s__law_two) .none kV__law_two dc__law_two pm__law_two an__law_two cd__law_two ct__law_two), sl__law_two⟩)
    (c__law_two : PySem.W.codeIn K cd__law_two "_law_two" = true)
    (k__law_two : PySem.W.keepIn K (.ref f__law_two) = true)
    {od__law_room an__law_room : Option Addr} {sl__law_room : Array (Option Value)} {oc__law_room kV__law_room dc__law_room pm__law_room cd__law_room ct__law_room : Value}
    (a__law_room : PySem.W.nsIn K mainGlobals "_law_room" = some (some (.ref f__law_room)))
    (l__law_room : K.lookup f__law_room = some ⟨oc__law_room, od__law_room, .func (PySem.W.fnOf "_law_room" "_law_room" (defArgs s__law_room) (defBody s__law_room) (defScope s__law_room) .none kV__law_room dc__law_room pm__law_room an__law_room cd__law_room ct__law_room), sl__law_room⟩)
    (c__law_room : PySem.W.codeIn K cd__law_room "_law_room" = true)
    (k__law_room : PySem.W.keepIn K (.ref f__law_room) = true)
    {od__law_whole an__law_whole : Option Addr} {sl__law_whole : Array (Option Value)} {oc__law_whole kV__law_whole dc__law_whole pm__law_whole cd__law_whole ct__law_whole : Value}
    (a__law_whole : PySem.W.nsIn K mainGlobals "_law_whole" = some (some (.ref f__law_whole)))
    (l__law_whole : K.lookup f__law_whole = some ⟨oc__law_whole, od__law_whole, .func (PySem.W.fnOf "_law_whole" "_law_whole" (defArgs s__law_whole) (defBody s__law_whole) (defScope s__law_whole) .none kV__law_whole dc__law_whole pm__law_whole an__law_whole cd__law_whole ct__law_whole), sl__law_whole⟩)
    (c__law_whole : PySem.W.codeIn K cd__law_whole "_law_whole" = true)
    (k__law_whole : PySem.W.keepIn K (.ref f__law_whole) = true)
    {od__law_tells an__law_tells : Option Addr} {sl__law_tells : Array (Option Value)} {oc__law_tells kV__law_tells dc__law_tells pm__law_tells cd__law_tells ct__law_tells : Value}
    (a__law_tells : PySem.W.nsIn K mainGlobals "_law_tells" = some (some (.ref f__law_tells)))
    (l__law_tells : K.lookup f__law_tells = some ⟨oc__law_tells, od__law_tells, .func (PySem.W.fnOf "_law_tells" "_law_tells" (defArgs s__law_tells) (defBody s__law_tells) (defScope s__law_tells) .none kV__law_tells dc__law_tells pm__law_tells an__law_tells cd__law_tells ct__law_tells), sl__law_tells⟩)
    (c__law_tells : PySem.W.codeIn K cd__law_tells "_law_tells" = true)
    (k__law_tells : PySem.W.keepIn K (.ref f__law_tells) = true)
    {od__law_words_right an__law_words_right : Option Addr} {sl__law_words_right : Array (Option Value)} {oc__law_words_right kV__law_words_right dc__law_words_right pm__law_words_right cd__law_words_right ct__law_words_right : Value}
    (a__law_words_right : PySem.W.nsIn K mainGlobals "_law_words_right" = some (some (.ref f__law_words_right)))
    (l__law_words_right : K.lookup f__law_words_right = some ⟨oc__law_words_right, od__law_words_right, .func (PySem.W.fnOf "_law_words_right" "_law_words_right" (defArgs s__law_words_right) (defBody s__law_words_right) (defScope s__law_words_right) .none kV__law_words_right dc__law_words_right pm__law_words_right an__law_words_right cd__law_words_right ct__law_words_right), sl__law_words_right⟩)
    (c__law_words_right : PySem.W.codeIn K cd__law_words_right "_law_words_right" = true)
    (k__law_words_right : PySem.W.keepIn K (.ref f__law_words_right) = true)
    {od_law an_law : Option Addr} {sl_law : Array (Option Value)} {oc_law kV_law dc_law pm_law cd_law ct_law : Value}
    (a_law : PySem.W.nsIn K mainGlobals "law" = some (some (.ref f_law)))
    (l_law : K.lookup f_law = some ⟨oc_law, od_law, .func (PySem.W.fnOf "law" "law" (defArgs s_law) (defBody s_law) (defScope s_law) .none kV_law dc_law pm_law an_law cd_law ct_law), sl_law⟩)
    (c_law : PySem.W.codeIn K cd_law "law" = true)
    (k_law : PySem.W.keepIn K (.ref f_law) = true)
    (aC_C : PySem.W.nsIn K mainGlobals "Form" = some (some (.ref C)))
    (pg_C : PySem.W.plainGet K C Str.empty = true)
    (hd_C : PySem.W.hasDictIn K C = true)
    (po_C : PySem.W.plainOver K C = true)
    (sa_C : PySem.W.findIn K (.ref C) "__setattr__" = some (some (.builtin "object.__setattr__")))
    (mk_C : PySem.W.makesIn K C = true)
    (kc_C : PySem.W.keepIn K (.ref C) = true)
    (n_C_width : PySem.W.findIn K (.ref C) "width" = some none)
    (n_C_point : PySem.W.findIn K (.ref C) "point" = some none)
    (n_C_manner : PySem.W.findIn K (.ref C) "manner" = some none)
    (n_C_ends : PySem.W.findIn K (.ref C) "ends" = some none)
    {od_Form_least an_Form_least : Option Addr} {sl_Form_least : Array (Option Value)} {oc_Form_least kV_Form_least dc_Form_least pm_Form_least cd_Form_least ct_Form_least : Value}
    (a_Form_least : PySem.W.findIn K (.ref C) "least" = some (some (.ref f_Form_least)))
    (i_Form_least : PySem.W.isFn K (.ref f_Form_least) = true)
    (l_Form_least : K.lookup f_Form_least = some ⟨oc_Form_least, od_Form_least, .func (PySem.W.fnOf "least" "Form.least" (defArgs s_Form_least) (defBody s_Form_least) (defScope s_Form_least) .none kV_Form_least dc_Form_least pm_Form_least an_Form_least cd_Form_least ct_Form_least), sl_Form_least⟩)
    (c_Form_least : PySem.W.codeIn K cd_Form_least "Form.least" = true)
    (k_Form_least : PySem.W.keepIn K (.ref f_Form_least) = true)
    {od_Form_greatest an_Form_greatest : Option Addr} {sl_Form_greatest : Array (Option Value)} {oc_Form_greatest kV_Form_greatest dc_Form_greatest pm_Form_greatest cd_Form_greatest ct_Form_greatest : Value}
    (a_Form_greatest : PySem.W.findIn K (.ref C) "greatest" = some (some (.ref f_Form_greatest)))
    (i_Form_greatest : PySem.W.isFn K (.ref f_Form_greatest) = true)
    (l_Form_greatest : K.lookup f_Form_greatest = some ⟨oc_Form_greatest, od_Form_greatest, .func (PySem.W.fnOf "greatest" "Form.greatest" (defArgs s_Form_greatest) (defBody s_Form_greatest) (defScope s_Form_greatest) .none kV_Form_greatest dc_Form_greatest pm_Form_greatest an_Form_greatest cd_Form_greatest ct_Form_greatest), sl_Form_greatest⟩)
    (c_Form_greatest : PySem.W.codeIn K cd_Form_greatest "Form.greatest" = true)
    (k_Form_greatest : PySem.W.keepIn K (.ref f_Form_greatest) = true)
    {od_Form_has an_Form_has : Option Addr} {sl_Form_has : Array (Option Value)} {oc_Form_has kV_Form_has dc_Form_has pm_Form_has cd_Form_has ct_Form_has : Value}
    (a_Form_has : PySem.W.findIn K (.ref C) "has" = some (some (.ref f_Form_has)))
    (i_Form_has : PySem.W.isFn K (.ref f_Form_has) = true)
    (l_Form_has : K.lookup f_Form_has = some ⟨oc_Form_has, od_Form_has, .func (PySem.W.fnOf "has" "Form.has" (defArgs s_Form_has) (defBody s_Form_has) (defScope s_Form_has) .none kV_Form_has dc_Form_has pm_Form_has an_Form_has cd_Form_has ct_Form_has), sl_Form_has⟩)
    (c_Form_has : PySem.W.codeIn K cd_Form_has "Form.has" = true)
    (k_Form_has : PySem.W.keepIn K (.ref f_Form_has) = true)
    {od_Form_step an_Form_step : Option Addr} {sl_Form_step : Array (Option Value)} {oc_Form_step kV_Form_step dc_Form_step pm_Form_step cd_Form_step ct_Form_step : Value}
    (a_Form_step : PySem.W.findIn K (.ref C) "step" = some (some (.ref f_Form_step)))
    (i_Form_step : PySem.W.isFn K (.ref f_Form_step) = true)
    (l_Form_step : K.lookup f_Form_step = some ⟨oc_Form_step, od_Form_step, .func (PySem.W.fnOf "step" "Form.step" (defArgs s_Form_step) (defBody s_Form_step) (defScope s_Form_step) .none kV_Form_step dc_Form_step pm_Form_step an_Form_step cd_Form_step ct_Form_step), sl_Form_step⟩)
    (c_Form_step : PySem.W.codeIn K cd_Form_step "Form.step" = true)
    (k_Form_step : PySem.W.keepIn K (.ref f_Form_step) = true)
    {od_Form_slack an_Form_slack : Option Addr} {sl_Form_slack : Array (Option Value)} {oc_Form_slack kV_Form_slack dc_Form_slack pm_Form_slack cd_Form_slack ct_Form_slack : Value}
    (a_Form_slack : PySem.W.findIn K (.ref C) "slack" = some (some (.ref f_Form_slack)))
    (i_Form_slack : PySem.W.isFn K (.ref f_Form_slack) = true)
    (l_Form_slack : K.lookup f_Form_slack = some ⟨oc_Form_slack, od_Form_slack, .func (PySem.W.fnOf "slack" "Form.slack" (defArgs s_Form_slack) (defBody s_Form_slack) (defScope s_Form_slack) .none kV_Form_slack dc_Form_slack pm_Form_slack an_Form_slack cd_Form_slack ct_Form_slack), sl_Form_slack⟩)
    (c_Form_slack : PySem.W.codeIn K cd_Form_slack "Form.slack" = true)
    (k_Form_slack : PySem.W.keepIn K (.ref f_Form_slack) = true)
    {od_Form___eq__ an_Form___eq__ : Option Addr} {sl_Form___eq__ : Array (Option Value)} {oc_Form___eq__ kV_Form___eq__ dc_Form___eq__ pm_Form___eq__ cd_Form___eq__ ct_Form___eq__ : Value}
    (a_Form___eq__ : PySem.W.findIn K (.ref C) "__eq__" = some (some (.ref f_Form___eq__)))
    (i_Form___eq__ : PySem.W.isFn K (.ref f_Form___eq__) = true)
    (l_Form___eq__ : K.lookup f_Form___eq__ = some ⟨oc_Form___eq__, od_Form___eq__, .func (PySem.W.fnOf "__eq__" "Form.__eq__" (defArgs s_Form___eq__) (defBody s_Form___eq__) (defScope s_Form___eq__) .none kV_Form___eq__ dc_Form___eq__ pm_Form___eq__ an_Form___eq__ cd_Form___eq__ ct_Form___eq__), sl_Form___eq__⟩)
    (c_Form___eq__ : PySem.W.codeIn K cd_Form___eq__ "Form.__eq__" = true)
    (k_Form___eq__ : PySem.W.keepIn K (.ref f_Form___eq__) = true)
    {od_Form___str__ an_Form___str__ : Option Addr} {sl_Form___str__ : Array (Option Value)} {oc_Form___str__ kV_Form___str__ dc_Form___str__ pm_Form___str__ cd_Form___str__ ct_Form___str__ : Value}
    (a_Form___str__ : PySem.W.findIn K (.ref C) "__str__" = some (some (.ref f_Form___str__)))
    (i_Form___str__ : PySem.W.isFn K (.ref f_Form___str__) = true)
    (l_Form___str__ : K.lookup f_Form___str__ = some ⟨oc_Form___str__, od_Form___str__, .func (PySem.W.fnOf "__str__" "Form.__str__" (defArgs s_Form___str__) (defBody s_Form___str__) (defScope s_Form___str__) .none kV_Form___str__ dc_Form___str__ pm_Form___str__ an_Form___str__ cd_Form___str__ ct_Form___str__), sl_Form___str__⟩)
    (c_Form___str__ : PySem.W.codeIn K cd_Form___str__ "Form.__str__" = true)
    (k_Form___str__ : PySem.W.keepIn K (.ref f_Form___str__) = true)
    {od_Form___repr__ an_Form___repr__ : Option Addr} {sl_Form___repr__ : Array (Option Value)} {oc_Form___repr__ kV_Form___repr__ dc_Form___repr__ pm_Form___repr__ cd_Form___repr__ ct_Form___repr__ : Value}
    (a_Form___repr__ : PySem.W.findIn K (.ref C) "__repr__" = some (some (.ref f_Form___repr__)))
    (i_Form___repr__ : PySem.W.isFn K (.ref f_Form___repr__) = true)
    (l_Form___repr__ : K.lookup f_Form___repr__ = some ⟨oc_Form___repr__, od_Form___repr__, .func (PySem.W.fnOf "__repr__" "Form.__repr__" (defArgs s_Form___repr__) (defBody s_Form___repr__) (defScope s_Form___repr__) .none kV_Form___repr__ dc_Form___repr__ pm_Form___repr__ an_Form___repr__ cd_Form___repr__ ct_Form___repr__), sl_Form___repr__⟩)
    (c_Form___repr__ : PySem.W.codeIn K cd_Form___repr__ "Form.__repr__" = true)
    (k_Form___repr__ : PySem.W.keepIn K (.ref f_Form___repr__) = true)
    {od_Form___init__ an_Form___init__ : Option Addr} {sl_Form___init__ : Array (Option Value)} {oc_Form___init__ kV_Form___init__ dc_Form___init__ pm_Form___init__ cd_Form___init__ ct_Form___init__ : Value}
    {to_Form___init__ : Value} {td_Form___init__ : Option Addr} {tn_Form___init__ : Nat} {ts_Form___init__ : Array (Option Value)} {tk_Form___init___1 : Tok} {tk_Form___init___2 : Tok} {tk_Form___init___3 : Tok}
    (a_Form___init__ : PySem.W.findIn K (.ref C) "__init__" = some (some (.ref f_Form___init__)))
    (i_Form___init__ : PySem.W.isFn K (.ref f_Form___init__) = true)
    (l_Form___init__ : K.lookup f_Form___init__ = some ⟨oc_Form___init__, od_Form___init__, .func (PySem.W.fnOf "__init__" "Form.__init__" (defArgs s_Form___init__) (defBody s_Form___init__) (defScope s_Form___init__) (.ref T_Form___init__) kV_Form___init__ dc_Form___init__ pm_Form___init__ an_Form___init__ cd_Form___init__ ct_Form___init__), sl_Form___init__⟩)
    (c_Form___init__ : PySem.W.codeIn K cd_Form___init__ "Form.__init__" = true)
    (k_Form___init__ : PySem.W.keepIn K (.ref f_Form___init__) = true)
    (t_Form___init__ : K.lookup T_Form___init__ = some ⟨to_Form___init__, td_Form___init__, .seq [Value.none, Value.int 0 tk_Form___init___1, Value.str "half" tk_Form___init___2, Value.str "wrap" tk_Form___init___3].toArray tn_Form___init__, ts_Form___init__⟩)
    {tk_GREATEST_POWER : Tok}
    (g_GREATEST_POWER : PySem.W.nsIn K mainGlobals "GREATEST_POWER" = some (some (.int 400 tk_GREATEST_POWER)))
    {tk_LEAST_WIDTH : Tok}
    (g_LEAST_WIDTH : PySem.W.nsIn K mainGlobals "LEAST_WIDTH" = some (some (.int 2 tk_LEAST_WIDTH)))
    {tk_GREATEST_WIDTH : Tok}
    (g_GREATEST_WIDTH : PySem.W.nsIn K mainGlobals "GREATEST_WIDTH" = some (some (.int 64 tk_GREATEST_WIDTH)))
    {tk_GREATEST_POINT : Tok}
    (g_GREATEST_POINT : PySem.W.nsIn K mainGlobals "GREATEST_POINT" = some (some (.int 64 tk_GREATEST_POINT)))
    {tt_ENDS : Option Addr} {tn_ENDS : Nat} {ts_ENDS : Array (Option Value)} {tk_ENDS_0 : Tok} {tk_ENDS_1 : Tok}
    (g_ENDS : PySem.W.nsIn K mainGlobals "ENDS" = some (some (.ref A_ENDS)))
    (t_ENDS : K.lookup A_ENDS = some ⟨.type "tuple", tt_ENDS, .seq [Value.str "wrap" tk_ENDS_0, Value.str "stop" tk_ENDS_1].toArray tn_ENDS, ts_ENDS⟩)
    {tt_NEAREST_MANNERS : Option Addr} {tn_NEAREST_MANNERS : Nat} {ts_NEAREST_MANNERS : Array (Option Value)} {tk_NEAREST_MANNERS_0 : Tok} {tk_NEAREST_MANNERS_1 : Tok} {tk_NEAREST_MANNERS_2 : Tok}
    (g_NEAREST_MANNERS : PySem.W.nsIn K mainGlobals "NEAREST_MANNERS" = some (some (.ref A_NEAREST_MANNERS)))
    (t_NEAREST_MANNERS : K.lookup A_NEAREST_MANNERS = some ⟨.type "tuple", tt_NEAREST_MANNERS, .seq [Value.str "half" tk_NEAREST_MANNERS_0, Value.str "even" tk_NEAREST_MANNERS_1, Value.str "far" tk_NEAREST_MANNERS_2].toArray tn_NEAREST_MANNERS, ts_NEAREST_MANNERS⟩)
    {es_MANNERS : Array DictEntry} {dn_MANNERS : Nat}
    (g_MANNERS : PySem.W.nsIn K mainGlobals "MANNERS" = some (some (.ref A_MANNERS)))
    (t_MANNERS : K.lookup A_MANNERS = some ⟨.type "dict", none, .dict es_MANNERS dn_MANNERS, #[]⟩)
    (y_MANNERS : PySem.W.KeysLit w.params es_MANNERS.toList)
    (w_MANNERS : (A_MANNERS == sysModules) = false)
    (d_MANNERS_down : PySem.W.nsIn K A_MANNERS "down" = some (some (.ref f_downward)))
    (d_MANNERS_up : PySem.W.nsIn K A_MANNERS "up" = some (some (.ref f_upward)))
    (d_MANNERS_in : PySem.W.nsIn K A_MANNERS "in" = some (some (.ref f_inward)))
    (d_MANNERS_out : PySem.W.nsIn K A_MANNERS "out" = some (some (.ref f_outward)))
    (d_MANNERS_half : PySem.W.nsIn K A_MANNERS "half" = some (some (.ref f_nearest_greater)))
    (d_MANNERS_even : PySem.W.nsIn K A_MANNERS "even" = some (some (.ref f_nearest_even)))
    (d_MANNERS_far : PySem.W.nsIn K A_MANNERS "far" = some (some (.ref f_nearest_far)))
    (fx_ha : PySem.W.findIn K (.ref C) "__class__" = some (some (.builtin "object.__class__")))
    (fx_hn : PySem.W.specialIn K (.builtin "object.__class__") "__get__" = some (some (.builtin "getset_descriptor.__get__")))
    (fx_ht : PySem.W.takesIn K (.builtin "object.__class__") = some true)
    (fx_hm : PySem.W.mroIn K C (.type "object") = some true)
    (fx_kC : PySem.W.kitOne K (.ref C) (.ref C) = some true)
    (fx_kI : PySem.W.kitOne K (.ref C) (.type "int") = some false)
    (fx_kS : PySem.W.kitOne K (.type "str") (.ref C) = some false)
    (fx_kL : PySem.W.kitOne K (.type "list") (.ref C) = some false)
    (fx_kT : PySem.W.kitOne K (.type "tuple") (.ref C) = some false)
    (fx_kN : PySem.W.kitOne K (.type "NoneType") (.ref C) = some false)
    (fx_nS : PySem.W.notFirst K C (.type "str") = true)
    (fx_nL : PySem.W.notFirst K C (.type "list") = true)
    (fx_nT : PySem.W.notFirst K C (.type "tuple") = true)
    (fx_nN : PySem.W.notFirst K C (.type "NoneType") = true)
    (z_isinstance : PySem.W.nsIn K mainGlobals "isinstance" = some none)
    (z_int : PySem.W.nsIn K mainGlobals "int" = some none)
    (z_bool : PySem.W.nsIn K mainGlobals "bool" = some none)
    (z_abs : PySem.W.nsIn K mainGlobals "abs" = some none)
    (z_str : PySem.W.nsIn K mainGlobals "str" = some none)
    (z_len : PySem.W.nsIn K mainGlobals "len" = some none)
    (z_list : PySem.W.nsIn K mainGlobals "list" = some none)
    (z_range : PySem.W.nsIn K mainGlobals "range" = some none)
    (z_max : PySem.W.nsIn K mainGlobals "max" = some none)
    (z_tuple : PySem.W.nsIn K mainGlobals "tuple" = some none)
    (z_repr : PySem.W.nsIn K mainGlobals "repr" = some none) :
    ∃ fd : FuncData, (∀ (s : Shared) (v : Value), BindsTo s fd ⟨[v], []⟩ [("_law_script", v)]) ∧ ∀ base : Heap, K.In base → base.Ns mainGlobals mg → FnOk l.prog w K mg base CX0 7 fa fd ["_law_script"] (spLaw K) := by
  have F_is_whole := fun_mk (st := s_is_whole) l_is_whole c_is_whole k_is_whole
  have b_is_whole := F_is_whole.binds (ps := ["thing"]) fun _ _ _ _ _ _ us hl => match us, hl with | [_], _ => rfl
  have F_two_to := fun_mk (st := s_two_to) l_two_to c_two_to k_two_to
  have b_two_to := F_two_to.binds (ps := ["many"]) fun _ _ _ _ _ _ us hl => match us, hl with | [_], _ => rfl
  have F_downward := fun_mk (st := s_downward) l_downward c_downward k_downward
  have b_downward := F_downward.binds (ps := ["top", "bottom"]) fun _ _ _ _ _ _ us hl => match us, hl with | [_, _], _ => rfl
  have F_upward := fun_mk (st := s_upward) l_upward c_upward k_upward
  have b_upward := F_upward.binds (ps := ["top", "bottom"]) fun _ _ _ _ _ _ us hl => match us, hl with | [_, _], _ => rfl
  have F_inward := fun_mk (st := s_inward) l_inward c_inward k_inward
  have b_inward := F_inward.binds (ps := ["top", "bottom"]) fun _ _ _ _ _ _ us hl => match us, hl with | [_, _], _ => rfl
  have F_outward := fun_mk (st := s_outward) l_outward c_outward k_outward
  have b_outward := F_outward.binds (ps := ["top", "bottom"]) fun _ _ _ _ _ _ us hl => match us, hl with | [_, _], _ => rfl
  have F_nearest_greater := fun_mk (st := s_nearest_greater) l_nearest_greater c_nearest_greater k_nearest_greater
  have b_nearest_greater := F_nearest_greater.binds (ps := ["top", "bottom"]) fun _ _ _ _ _ _ us hl => match us, hl with | [_, _], _ => rfl
  have F_nearest_even := fun_mk (st := s_nearest_even) l_nearest_even c_nearest_even k_nearest_even
  have b_nearest_even := F_nearest_even.binds (ps := ["top", "bottom"]) fun _ _ _ _ _ _ us hl => match us, hl with | [_, _], _ => rfl
  have F_nearest_far := fun_mk (st := s_nearest_far) l_nearest_far c_nearest_far k_nearest_far
  have b_nearest_far := F_nearest_far.binds (ps := ["top", "bottom"]) fun _ _ _ _ _ _ us hl => match us, hl with | [_, _], _ => rfl
  have F_is_manner := fun_mk (st := s_is_manner) l_is_manner c_is_manner k_is_manner
  have b_is_manner := F_is_manner.binds (ps := ["thing"]) fun _ _ _ _ _ _ us hl => match us, hl with | [_], _ => rfl
  have F_is_width := fun_mk (st := s_is_width) l_is_width c_is_width k_is_width
  have b_is_width := F_is_width.binds (ps := ["thing"]) fun _ _ _ _ _ _ us hl => match us, hl with | [_], _ => rfl
  have F_is_point := fun_mk (st := s_is_point) l_is_point c_is_point k_is_point
  have b_is_point := F_is_point.binds (ps := ["thing"]) fun _ _ _ _ _ _ us hl => match us, hl with | [_], _ => rfl
  have F_is_ends := fun_mk (st := s_is_ends) l_is_ends c_is_ends k_is_ends
  have b_is_ends := F_is_ends.binds (ps := ["thing"]) fun _ _ _ _ _ _ us hl => match us, hl with | [_], _ => rfl
  have F__law_cell_at := fun_mk (st := s__law_cell_at) l__law_cell_at c__law_cell_at k__law_cell_at
  have b__law_cell_at := F__law_cell_at.binds (ps := ["_law_script", "_law_k"]) fun _ _ _ _ _ _ us hl => match us, hl with | [_, _], _ => rfl
  have F__law_well := fun_mk (st := s__law_well) l__law_well c__law_well k__law_well
  have b__law_well := F__law_well.binds (ps := ["_law_cell"]) fun _ _ _ _ _ _ us hl => match us, hl with | [_], _ => rfl
  have F__law_draw := fun_mk (st := s__law_draw) l__law_draw c__law_draw k__law_draw
  have b__law_draw := F__law_draw.binds (ps := ["_law_well_here", "_law_many"]) fun _ _ _ _ _ _ us hl => match us, hl with | [_, _], _ => rfl
  have F__law_parts := fun_mk (st := s__law_parts) l__law_parts c__law_parts k__law_parts
  have b__law_parts := F__law_parts.binds (ps := ["_law_well_here"]) fun _ _ _ _ _ _ us hl => match us, hl with | [_], _ => rfl
  have F__law_other := fun_mk (st := s__law_other) l__law_other c__law_other k__law_other
  have b__law_other := F__law_other.binds (ps := ["_law_parts_here", "_law_well_here"]) fun _ _ _ _ _ _ us hl => match us, hl with | [_, _], _ => rfl
  have F__law_two := fun_mk (st := s__law_two) l__law_two c__law_two k__law_two
  have b__law_two := F__law_two.binds (ps := ["_law_many"]) fun _ _ _ _ _ _ us hl => match us, hl with | [_], _ => rfl
  have F__law_room := fun_mk (st := s__law_room) l__law_room c__law_room k__law_room
  have b__law_room := F__law_room.binds (ps := ["_law_parts_here"]) fun _ _ _ _ _ _ us hl => match us, hl with | [_], _ => rfl
  have F__law_whole := fun_mk (st := s__law_whole) l__law_whole c__law_whole k__law_whole
  have b__law_whole := F__law_whole.binds (ps := ["_law_found", "_law_due"]) fun _ _ _ _ _ _ us hl => match us, hl with | [_, _], _ => rfl
  have F__law_tells := fun_mk (st := s__law_tells) l__law_tells c__law_tells k__law_tells
  have b__law_tells := F__law_tells.binds (ps := ["_law_form", "_law_parts_here"]) fun _ _ _ _ _ _ us hl => match us, hl with | [_, _], _ => rfl
  have F__law_words_right := fun_mk (st := s__law_words_right) l__law_words_right c__law_words_right k__law_words_right
  have b__law_words_right := F__law_words_right.binds (ps := ["_law_form", "_law_parts_here", "_law_well_here"]) fun _ _ _ _ _ _ us hl => match us, hl with | [_, _, _], _ => rfl
  have F_law := fun_mk (st := s_law) l_law c_law k_law
  have b_law := F_law.binds (ps := ["_law_script"]) fun _ _ _ _ _ _ us hl => match us, hl with | [_], _ => rfl
  have F_Form_least := fun_mk (st := s_Form_least) l_Form_least c_Form_least k_Form_least
  have b_Form_least := F_Form_least.binds (ps := ["self"]) fun _ _ _ _ _ _ us hl => match us, hl with | [_], _ => rfl
  have F_Form_greatest := fun_mk (st := s_Form_greatest) l_Form_greatest c_Form_greatest k_Form_greatest
  have b_Form_greatest := F_Form_greatest.binds (ps := ["self"]) fun _ _ _ _ _ _ us hl => match us, hl with | [_], _ => rfl
  have F_Form_has := fun_mk (st := s_Form_has) l_Form_has c_Form_has k_Form_has
  have b_Form_has := F_Form_has.binds (ps := ["self", "thing"]) fun _ _ _ _ _ _ us hl => match us, hl with | [_, _], _ => rfl
  have F_Form_step := fun_mk (st := s_Form_step) l_Form_step c_Form_step k_Form_step
  have b_Form_step := F_Form_step.binds (ps := ["self"]) fun _ _ _ _ _ _ us hl => match us, hl with | [_], _ => rfl
  have F_Form_slack := fun_mk (st := s_Form_slack) l_Form_slack c_Form_slack k_Form_slack
  have b_Form_slack := F_Form_slack.binds (ps := ["self"]) fun _ _ _ _ _ _ us hl => match us, hl with | [_], _ => rfl
  have F_Form___eq__ := fun_mk (st := s_Form___eq__) l_Form___eq__ c_Form___eq__ k_Form___eq__
  have b_Form___eq__ := F_Form___eq__.binds (ps := ["self", "other"]) fun _ _ _ _ _ _ us hl => match us, hl with | [_, _], _ => rfl
  have F_Form___str__ := fun_mk (st := s_Form___str__) l_Form___str__ c_Form___str__ k_Form___str__
  have b_Form___str__ := F_Form___str__.binds (ps := ["self"]) fun _ _ _ _ _ _ us hl => match us, hl with | [_], _ => rfl
  have F_Form___repr__ := fun_mk (st := s_Form___repr__) l_Form___repr__ c_Form___repr__ k_Form___repr__
  have b_Form___repr__ := F_Form___repr__.binds (ps := ["self"]) fun _ _ _ _ _ _ us hl => match us, hl with | [_], _ => rfl
  have F_Form___init__ : FunD K "__init__" "Form.__init__" (defArgs s_Form___init__) (defBody s_Form___init__) (defScope s_Form___init__) [V.non, V.int 0, V.str "half", V.str "wrap"] [] f_Form___init__ _ := ⟨⟨_, _, _, _, _, _, _, _, _, _, rfl, l_Form___init__, c_Form___init__, .inr ⟨by simp, T_Form___init__, _, [Value.none, Value.int 0 tk_Form___init___1, Value.str "half" tk_Form___init___2, Value.str "wrap" tk_Form___init___3], _, rfl, t_Form___init__, rfl, (.cons rfl (.cons ⟨_, rfl⟩ (.cons ⟨_, rfl⟩ (.cons ⟨_, rfl⟩ .nil))))⟩, .inl rfl⟩, k_Form___init__⟩
  obtain ⟨ds_Form4, dv_Form4, b_Form4⟩ := F_Form___init__.binds1 (ps := ["self", "width", "point", "manner", "ends"]) 5 4 (by simp) rfl fun _ _ _ _ _ _ _ us its h1 h2 => match us, its, h1, h2 with | [_, _, _, _, _], [_, _, _, _], _, _ => ⟨_, rfl, rfl⟩
  cases dv_Form4
  obtain ⟨ds_Form0, dv_Form0, b_Form0⟩ := F_Form___init__.binds1 (ps := ["self", "width", "point", "manner", "ends"]) 1 0 (by simp) rfl fun _ _ _ _ _ _ _ us its h1 h2 => match us, its, h1, h2 with | [_], [_, _, _, _], _, _ => ⟨_, rfl, rfl⟩
  obtain ⟨ds_Form1, dv_Form1, b_Form1⟩ := F_Form___init__.binds1 (ps := ["self", "width", "point", "manner", "ends"]) 2 1 (by simp) rfl fun _ _ _ _ _ _ _ us its h1 h2 => match us, its, h1, h2 with | [_, _], [_, _, _, _], _, _ => ⟨_, rfl, rfl⟩
  obtain ⟨ds_Form3, dv_Form3, b_Form3⟩ := F_Form___init__.binds1 (ps := ["self", "width", "point", "manner", "ends"]) 4 3 (by simp) rfl fun _ _ _ _ _ _ _ us its h1 h2 => match us, its, h1, h2 with | [_, _, _, _], [_, _, _, _], _, _ => ⟨_, rfl, rfl⟩
  have kbk := FunD.kbn (n := 1) (ks := ["ends", "manner", "width", "point"]) (ps := ["self", "width", "point", "manner", "ends"]) F_Form___init__ (by simp) (g := fun us ws => us ++ [ws.getD 2 .none, ws.getD 3 .none, ws.getD 1 .none, ws.getD 0 .none]) (gV := fun vs zs => vs ++ [zs.getD 2 .non, zs.getD 3 .non, zs.getD 1 .non, zs.getD 0 .non]) (fun r s => Vals.append r (.cons (vals_getD 2 s) (.cons (vals_getD 3 s) (.cons (vals_getD 1 s) (.cons (vals_getD 0 s) .nil))))) fun _ _ _ _ _ _ _ us ws its h1 h2 h3 => match us, ws, its, h1, h2, h3 with | [_], [_, _, _, _], [_, _, _, _], _, _, _ => ⟨_, rfl, rfl⟩
  have kbn := FunD.kbn (n := 3) (ks := ["ends", "manner"]) (ps := ["self", "width", "point", "manner", "ends"]) F_Form___init__ (by simp) (g := fun us ws => us ++ ws.reverse) (gV := fun vs zs => vs ++ zs.reverse) (fun r s => Vals.append r (Vals.rev s)) fun _ _ _ _ _ _ _ us ws its h1 h2 h3 => match us, ws, its, h1, h2, h3 with | [_, _, _], [_, _], [_, _, _, _], _, _, _ => ⟨_, rfl, rfl⟩
  have T_ENDS : ∀ H, SqT K H A_ENDS [V.str "wrap", V.str "stop"] := fun H => .inr ⟨_, _, _, t_ENDS, rfl, rfl, (by show 2 ≤ sizeLine; decide), (.cons ⟨_, rfl⟩ (.cons ⟨_, rfl⟩ .nil))⟩
  have T_NEAREST_MANNERS : ∀ H, SqT K H A_NEAREST_MANNERS [V.str "half", V.str "even", V.str "far"] := fun H => .inr ⟨_, _, _, t_NEAREST_MANNERS, rfl, rfl, (by show 3 ≤ sizeLine; decide), (.cons ⟨_, rfl⟩ (.cons ⟨_, rfl⟩ (.cons ⟨_, rfl⟩ .nil)))⟩
  have z : Zs mg := ⟨PySem.W.mg_none_of X G z_isinstance, PySem.W.mg_none_of X G z_int, PySem.W.mg_none_of X G z_bool, PySem.W.mg_none_of X G z_abs, PySem.W.mg_none_of X G z_str, PySem.W.mg_none_of X G z_len, PySem.W.mg_none_of X G z_list, PySem.W.mg_none_of X G z_range, PySem.W.mg_none_of X G z_max, PySem.W.mg_none_of X G z_tuple, PySem.W.mg_none_of X G z_repr⟩
  have e := hfa.symm.trans (PySem.W.mg_of X G a_law)
  cases e
  refine ⟨PySem.W.fnOf "law" "law" (defArgs s_law) (defBody s_law) (defScope s_law) .none kV_law dc_law pm_law an_law cd_law ct_law, fun s v => .of_eq rfl, fun base _ _ => ?_⟩
  have c_is_whole : Cal l.prog w K mg base 1 "is_whole" ["thing"] _ := ⟨f_is_whole, _, PySem.W.mg_of X G a_is_whole, k_is_whole, b_is_whole, ok_is_whole (k := 0) F_is_whole z⟩
  have c_two_to : Cal l.prog w K mg base 2 "two_to" ["many"] _ := ⟨f_two_to, _, PySem.W.mg_of X G a_two_to, k_two_to, b_two_to, ok_two_to F_two_to z c_is_whole ⟨_, PySem.W.mg_of X G g_GREATEST_POWER⟩⟩
  have c_downward : Cal l.prog w K mg base 1 "downward" ["top", "bottom"] _ := ⟨f_downward, _, PySem.W.mg_of X G a_downward, k_downward, b_downward, ok_downward (k := 0) F_downward⟩
  have c_upward : Cal l.prog w K mg base 1 "upward" ["top", "bottom"] _ := ⟨f_upward, _, PySem.W.mg_of X G a_upward, k_upward, b_upward, ok_upward (k := 0) F_upward⟩
  have c_nearest_greater : Cal l.prog w K mg base 1 "nearest_greater" ["top", "bottom"] _ := ⟨f_nearest_greater, _, PySem.W.mg_of X G a_nearest_greater, k_nearest_greater, b_nearest_greater, ok_nearest_greater (k := 0) F_nearest_greater⟩
  have MM : Mans l.prog w K mg base A_MANNERS es_MANNERS dn_MANNERS := ⟨PySem.W.mg_of X G g_MANNERS, ⟨t_MANNERS, y_MANNERS, w_MANNERS⟩, fun m => match m with
    | .down => ⟨f_downward, _, d_MANNERS_down, k_downward, b_downward, ok_downward (k := 1) F_downward⟩
    | .up => ⟨f_upward, _, d_MANNERS_up, k_upward, b_upward, ok_upward (k := 1) F_upward⟩
    | .inn => ⟨f_inward, _, d_MANNERS_in, k_inward, b_inward, ok_inward F_inward c_downward c_upward⟩
    | .out => ⟨f_outward, _, d_MANNERS_out, k_outward, b_outward, ok_outward F_outward c_downward c_upward⟩
    | .half => ⟨f_nearest_greater, _, d_MANNERS_half, k_nearest_greater, b_nearest_greater, ok_nearest_greater (k := 1) F_nearest_greater⟩
    | .even => ⟨f_nearest_even, _, d_MANNERS_even, k_nearest_even, b_nearest_even, ok_nearest_even F_nearest_even c_nearest_greater⟩
    | .far => ⟨f_nearest_far, _, d_MANNERS_far, k_nearest_far, b_nearest_far, ok_nearest_far F_nearest_far c_nearest_greater⟩⟩
  have c_is_manner : Cal l.prog w K mg base 1 "is_manner" ["thing"] _ := ⟨f_is_manner, _, PySem.W.mg_of X G a_is_manner, k_is_manner, b_is_manner, ok_is_manner (k := 0) MM F_is_manner z⟩
  have Z : FCst K mg A_ENDS A_NEAREST_MANNERS := ⟨⟨_, PySem.W.mg_of X G g_LEAST_WIDTH⟩, ⟨_, PySem.W.mg_of X G g_GREATEST_WIDTH⟩, ⟨_, PySem.W.mg_of X G g_GREATEST_POINT⟩, PySem.W.mg_of X G g_ENDS, T_ENDS, PySem.W.mg_of X G g_NEAREST_MANNERS, T_NEAREST_MANNERS⟩
  have c_is_width : Cal l.prog w K mg base 2 "is_width" ["thing"] _ := ⟨f_is_width, _, PySem.W.mg_of X G a_is_width, k_is_width, b_is_width, ok_is_width Z F_is_width c_is_whole⟩
  have c_is_point : Cal l.prog w K mg base 2 "is_point" ["thing"] _ := ⟨f_is_point, _, PySem.W.mg_of X G a_is_point, k_is_point, b_is_point, ok_is_point Z F_is_point z c_is_whole⟩
  have c_is_ends : Cal l.prog w K mg base 1 "is_ends" ["thing"] _ := ⟨f_is_ends, _, PySem.W.mg_of X G a_is_ends, k_is_ends, b_is_ends, ok_is_ends (k := 0) Z F_is_ends z⟩
  have T : FTxt K mg C := ⟨⟨pg_C, hd_C, po_C, sa_C⟩, n_C_width, n_C_point, n_C_manner, n_C_ends⟩
  have XF : FX K mg C := ⟨PySem.W.mg_of X G aC_C, fx_ha, fx_hn, fx_ht, fx_hm, fx_kC, fx_kI, fx_kS, fx_kL, fx_kT, fx_kN, fx_nS, fx_nL, fx_nT, fx_nN⟩
  have okF := ok_Form___init__ (base := base) T F_Form___init__ c_is_width c_is_point c_is_manner c_is_ends
  have c_Form_4 : CalC l.prog w K mg base 3 "Form" C ["self", "width", "point", "manner", "ends"] [] _ := ⟨f_Form___init__, _, _, ⟨mk_C, a_Form___init__, i_Form___init__, kc_C⟩, PySem.W.mg_of X G aC_C, .nil, b_Form4, okF⟩
  have c_Form_0 : CalC l.prog w K mg base 3 "Form" C ["self", "width", "point", "manner", "ends"] [V.non, V.int 0, V.str "half", V.str "wrap"] _ := ⟨f_Form___init__, _, _, ⟨mk_C, a_Form___init__, i_Form___init__, kc_C⟩, PySem.W.mg_of X G aC_C, dv_Form0, b_Form0, okF⟩
  have c_Form_1 : CalC l.prog w K mg base 3 "Form" C ["self", "width", "point", "manner", "ends"] [V.int 0, V.str "half", V.str "wrap"] _ := ⟨f_Form___init__, _, _, ⟨mk_C, a_Form___init__, i_Form___init__, kc_C⟩, PySem.W.mg_of X G aC_C, dv_Form1, b_Form1, okF⟩
  have c_Form_3 : CalC l.prog w K mg base 3 "Form" C ["self", "width", "point", "manner", "ends"] [V.str "wrap"] _ := ⟨f_Form___init__, _, _, ⟨mk_C, a_Form___init__, i_Form___init__, kc_C⟩, PySem.W.mg_of X G aC_C, dv_Form3, b_Form3, okF⟩
  have c_Form_k : CalCN l.prog w K mg base 3 "Form" C ["self", "width", "point", "manner", "ends"] 0 ["ends", "manner", "width", "point"] _ _ := ⟨f_Form___init__, _, _, ⟨mk_C, a_Form___init__, i_Form___init__, kc_C⟩, PySem.W.mg_of X G aC_C, kbk, okF⟩
  have c_Form_n : CalCN l.prog w K mg base 3 "Form" C ["self", "width", "point", "manner", "ends"] 2 ["ends", "manner"] _ _ := ⟨f_Form___init__, _, _, ⟨mk_C, a_Form___init__, i_Form___init__, kc_C⟩, PySem.W.mg_of X G aC_C, kbn, okF⟩
  have m_least : CalM l.prog w K mg base 1 C "least" ["self"] _ := ⟨f_Form_least, _, ⟨a_Form_least, i_Form_least, k_Form_least⟩, b_Form_least, ok_Form_least (k := 0) T F_Form_least⟩
  have m_greatest : CalM l.prog w K mg base 1 C "greatest" ["self"] _ := ⟨f_Form_greatest, _, ⟨a_Form_greatest, i_Form_greatest, k_Form_greatest⟩, b_Form_greatest, ok_Form_greatest (k := 0) T F_Form_greatest⟩
  have m_has : CalM l.prog w K mg base 2 C "has" ["self", "thing"] _ := ⟨f_Form_has, _, ⟨a_Form_has, i_Form_has, k_Form_has⟩, b_Form_has, ok_Form_has T F_Form_has c_is_whole m_least m_greatest⟩
  have m_step : CalM l.prog w K mg base 3 C "step" ["self"] _ := ⟨f_Form_step, _, ⟨a_Form_step, i_Form_step, k_Form_step⟩, b_Form_step, ok_Form_step T F_Form_step c_two_to⟩
  have m_slack : CalM l.prog w K mg base 1 C "slack" ["self"] _ := ⟨f_Form_slack, _, ⟨a_Form_slack, i_Form_slack, k_Form_slack⟩, b_Form_slack, ok_Form_slack (k := 0) Z T F_Form_slack⟩
  have okS := ok_Form___str__ (P := l.prog) (w := w) (base := base) (mg := mg) (k := 0) T F_Form___str__
  have okR := ok_Form___repr__ (P := l.prog) (w := w) (base := base) (mg := mg) (k := 0) T F_Form___repr__
  have okE := ok_Form___eq__ (P := l.prog) (w := w) (base := base) (k := 0) T XF F_Form___eq__ z
  have MS : OwnM K C "__str__" f_Form___str__ := ⟨a_Form___str__, i_Form___str__⟩
  have MR : OwnM K C "__repr__" f_Form___repr__ := ⟨a_Form___repr__, i_Form___repr__⟩
  have ME : OwnM K C "__eq__" f_Form___eq__ := ⟨a_Form___eq__, i_Form___eq__⟩
  have c__law_cell_at : Cal l.prog w K mg base 1 "_law_cell_at" ["_law_script", "_law_k"] _ := ⟨f__law_cell_at, _, PySem.W.mg_of X G a__law_cell_at, k__law_cell_at, b__law_cell_at, ok_cell (k := 0) F__law_cell_at z.len⟩
  have c__law_well : Cal l.prog w K mg base 1 "_law_well" ["_law_cell"] _ := ⟨f__law_well, _, PySem.W.mg_of X G a__law_well, k__law_well, b__law_well, ok_well (k := 0) F__law_well z.int⟩
  have c__law_draw : Cal l.prog w K mg base 1 "_law_draw" ["_law_well_here", "_law_many"] _ := ⟨f__law_draw, _, PySem.W.mg_of X G a__law_draw, k__law_draw, b__law_draw, ok_draw (k := 0) F__law_draw⟩
  have c__law_parts : Cal l.prog w K mg base 2 "_law_parts" ["_law_well_here"] _ := ⟨f__law_parts, _, PySem.W.mg_of X G a__law_parts, k__law_parts, b__law_parts, ok__law_parts F__law_parts c__law_draw⟩
  have c__law_other : Cal l.prog w K mg base 2 "_law_other" ["_law_parts_here", "_law_well_here"] _ := ⟨f__law_other, _, PySem.W.mg_of X G a__law_other, k__law_other, b__law_other, ok__law_other F__law_other z c__law_draw⟩
  have c__law_two : Cal l.prog w K mg base 1 "_law_two" ["_law_many"] _ := ⟨f__law_two, _, PySem.W.mg_of X G a__law_two, k__law_two, b__law_two, ok__law_two (k := 0) F__law_two z⟩
  have c__law_room : Cal l.prog w K mg base 2 "_law_room" ["_law_parts_here"] _ := ⟨f__law_room, _, PySem.W.mg_of X G a__law_room, k__law_room, b__law_room, ok__law_room F__law_room c__law_two⟩
  have c__law_whole : Cal l.prog w K mg base 1 "_law_whole" ["_law_found", "_law_due"] _ := ⟨f__law_whole, _, PySem.W.mg_of X G a__law_whole, k__law_whole, b__law_whole, ok__law_whole (k := 0) F__law_whole z⟩
  have c__law_tells : Cal l.prog w K mg base 5 "_law_tells" ["_law_form", "_law_parts_here"] _ := ⟨f__law_tells, _, PySem.W.mg_of X G a__law_tells, k__law_tells, b__law_tells, ok__law_tells T XF F__law_tells z c__law_whole c__law_room c__law_two m_least m_greatest m_step m_slack okS b_Form___str__ MS okR b_Form___repr__ MR⟩
  have c__law_words_right : Cal l.prog w K mg base 4 "_law_words_right" ["_law_form", "_law_parts_here", "_law_well_here"] _ := ⟨f__law_words_right, _, PySem.W.mg_of X G a__law_words_right, k__law_words_right, b__law_words_right, ok__law_words_right T XF F__law_words_right z c__law_draw c__law_room m_has⟩
  exact ok_law T XF F_law z c__law_cell_at c__law_well c__law_parts c__law_other c__law_tells c__law_words_right c_Form_4 c_Form_0 c_Form_1 c_Form_3 c_Form_k c_Form_n okS b_Form___str__ MS okR b_Form___repr__ MR okE b_Form___eq__ ME

end E1

open PySem PySem.W PyProof.Rows
set_option maxRecDepth 100000 in
set_option maxHeartbeats 0 in
theorem PySem.Challenge.cw_echobound_k04_forms_made_holds : PySem.Challenge.rw_echobound_k04_forms_made.Holds := by
  w_on; o_law; k_head; (case hw => w_witness2)
  k_fill
  refine L2.walk_of (l := PySem.Challenge.rw_echobound_k04_forms_made) (n := 63) (k := 7) (x := "_law_script") (CX := fun _ => L2.CX0) (sp := fun w => E1.spLaw _) rfl (by decide) rfl ⟨rfl, by decide, by decide⟩ (fun w h Y => PySem.W.kIn_of Y) ?F (fun _ _ a ns hl _ hS => ⟨a, ns, rfl, hS, hl, fun _ => rfl⟩) (fun _ _ _ _ _ h => h)
  case F =>
    intro w mg fa h KX G hmg
    refine' E1.all_mk KX G hmg ?a_is_whole ?l_is_whole ?c_is_whole ?k_is_whole ?a_two_to ?l_two_to ?c_two_to ?k_two_to ?a_downward ?l_downward ?c_downward ?k_downward ?a_upward ?l_upward ?c_upward ?k_upward ?a_inward ?l_inward ?c_inward ?k_inward ?a_outward ?l_outward ?c_outward ?k_outward ?a_nearest_greater ?l_nearest_greater ?c_nearest_greater ?k_nearest_greater ?a_nearest_even ?l_nearest_even ?c_nearest_even ?k_nearest_even ?a_nearest_far ?l_nearest_far ?c_nearest_far ?k_nearest_far ?a_is_manner ?l_is_manner ?c_is_manner ?k_is_manner ?a_is_width ?l_is_width ?c_is_width ?k_is_width ?a_is_point ?l_is_point ?c_is_point ?k_is_point ?a_is_ends ?l_is_ends ?c_is_ends ?k_is_ends ?a__law_cell_at ?l__law_cell_at ?c__law_cell_at ?k__law_cell_at ?a__law_well ?l__law_well ?c__law_well ?k__law_well ?a__law_draw ?l__law_draw ?c__law_draw ?k__law_draw ?a__law_parts ?l__law_parts ?c__law_parts ?k__law_parts ?a__law_other ?l__law_other ?c__law_other ?k__law_other ?a__law_two ?l__law_two ?c__law_two ?k__law_two ?a__law_room ?l__law_room ?c__law_room ?k__law_room ?a__law_whole ?l__law_whole ?c__law_whole ?k__law_whole ?a__law_tells ?l__law_tells ?c__law_tells ?k__law_tells ?a__law_words_right ?l__law_words_right ?c__law_words_right ?k__law_words_right ?a_law ?l_law ?c_law ?k_law ?aC_C ?pg_C ?hd_C ?po_C ?sa_C ?mk_C ?kc_C ?n_C_width ?n_C_point ?n_C_manner ?n_C_ends ?a_Form_least ?i_Form_least ?l_Form_least ?c_Form_least ?k_Form_least ?a_Form_greatest ?i_Form_greatest ?l_Form_greatest ?c_Form_greatest ?k_Form_greatest ?a_Form_has ?i_Form_has ?l_Form_has ?c_Form_has ?k_Form_has ?a_Form_step ?i_Form_step ?l_Form_step ?c_Form_step ?k_Form_step ?a_Form_slack ?i_Form_slack ?l_Form_slack ?c_Form_slack ?k_Form_slack ?a_Form___eq__ ?i_Form___eq__ ?l_Form___eq__ ?c_Form___eq__ ?k_Form___eq__ ?a_Form___str__ ?i_Form___str__ ?l_Form___str__ ?c_Form___str__ ?k_Form___str__ ?a_Form___repr__ ?i_Form___repr__ ?l_Form___repr__ ?c_Form___repr__ ?k_Form___repr__ ?a_Form___init__ ?i_Form___init__ ?l_Form___init__ ?c_Form___init__ ?k_Form___init__ ?t_Form___init__ ?g_GREATEST_POWER ?g_LEAST_WIDTH ?g_GREATEST_WIDTH ?g_GREATEST_POINT ?g_ENDS ?t_ENDS ?g_NEAREST_MANNERS ?t_NEAREST_MANNERS ?g_MANNERS ?t_MANNERS ?y_MANNERS ?w_MANNERS ?d_MANNERS_down ?d_MANNERS_up ?d_MANNERS_in ?d_MANNERS_out ?d_MANNERS_half ?d_MANNERS_even ?d_MANNERS_far ?fx_ha ?fx_hn ?fx_ht ?fx_hm ?fx_kC ?fx_kI ?fx_kS ?fx_kL ?fx_kT ?fx_kN ?fx_nS ?fx_nL ?fx_nT ?fx_nN ?z_isinstance ?z_int ?z_bool ?z_abs ?z_str ?z_len ?z_list ?z_range ?z_max ?z_tuple ?z_repr
    (case a_is_whole => k_is)
    (case l_is_whole => k_is)
    (case c_is_whole => k_is)
    (case k_is_whole => k_is)
    (case a_two_to => k_is)
    (case l_two_to => k_is)
    (case c_two_to => k_is)
    (case k_two_to => k_is)
    (case a_downward => k_is)
    (case l_downward => k_is)
    (case c_downward => k_is)
    (case k_downward => k_is)
    (case a_upward => k_is)
    (case l_upward => k_is)
    (case c_upward => k_is)
    (case k_upward => k_is)
    (case a_inward => k_is)
    (case l_inward => k_is)
    (case c_inward => k_is)
    (case k_inward => k_is)
    (case a_outward => k_is)
    (case l_outward => k_is)
    (case c_outward => k_is)
    (case k_outward => k_is)
    (case a_nearest_greater => k_is)
    (case l_nearest_greater => k_is)
    (case c_nearest_greater => k_is)
    (case k_nearest_greater => k_is)
    (case a_nearest_even => k_is)
    (case l_nearest_even => k_is)
    (case c_nearest_even => k_is)
    (case k_nearest_even => k_is)
    (case a_nearest_far => k_is)
    (case l_nearest_far => k_is)
    (case c_nearest_far => k_is)
    (case k_nearest_far => k_is)
    (case a_is_manner => k_is)
    (case l_is_manner => k_is)
    (case c_is_manner => k_is)
    (case k_is_manner => k_is)
    (case a_is_width => k_is)
    (case l_is_width => k_is)
    (case c_is_width => k_is)
    (case k_is_width => k_is)
    (case a_is_point => k_is)
    (case l_is_point => k_is)
    (case c_is_point => k_is)
    (case k_is_point => k_is)
    (case a_is_ends => k_is)
    (case l_is_ends => k_is)
    (case c_is_ends => k_is)
    (case k_is_ends => k_is)
    (case a__law_cell_at => k_is)
    (case l__law_cell_at => k_is)
    (case c__law_cell_at => k_is)
    (case k__law_cell_at => k_is)
    (case a__law_well => k_is)
    (case l__law_well => k_is)
    (case c__law_well => k_is)
    (case k__law_well => k_is)
    (case a__law_draw => k_is)
    (case l__law_draw => k_is)
    (case c__law_draw => k_is)
    (case k__law_draw => k_is)
    (case a__law_parts => k_is)
    (case l__law_parts => k_is)
    (case c__law_parts => k_is)
    (case k__law_parts => k_is)
    (case a__law_other => k_is)
    (case l__law_other => k_is)
    (case c__law_other => k_is)
    (case k__law_other => k_is)
    (case a__law_two => k_is)
    (case l__law_two => k_is)
    (case c__law_two => k_is)
    (case k__law_two => k_is)
    (case a__law_room => k_is)
    (case l__law_room => k_is)
    (case c__law_room => k_is)
    (case k__law_room => k_is)
    (case a__law_whole => k_is)
    (case l__law_whole => k_is)
    (case c__law_whole => k_is)
    (case k__law_whole => k_is)
    (case a__law_tells => k_is)
    (case l__law_tells => k_is)
    (case c__law_tells => k_is)
    (case k__law_tells => k_is)
    (case a__law_words_right => k_is)
    (case l__law_words_right => k_is)
    (case c__law_words_right => k_is)
    (case k__law_words_right => k_is)
    (case a_law => k_is)
    (case l_law => k_is)
    (case c_law => k_is)
    (case k_law => k_is)
    (case aC_C => k_is)
    (case pg_C => k_is)
    (case hd_C => k_is)
    (case po_C => k_is)
    (case sa_C => k_is)
    (case mk_C => k_is)
    (case kc_C => k_is)
    (case n_C_width => k_is)
    (case n_C_point => k_is)
    (case n_C_manner => k_is)
    (case n_C_ends => k_is)
    (case a_Form_least => k_is)
    (case i_Form_least => k_is)
    (case l_Form_least => k_is)
    (case c_Form_least => k_is)
    (case k_Form_least => k_is)
    (case a_Form_greatest => k_is)
    (case i_Form_greatest => k_is)
    (case l_Form_greatest => k_is)
    (case c_Form_greatest => k_is)
    (case k_Form_greatest => k_is)
    (case a_Form_has => k_is)
    (case i_Form_has => k_is)
    (case l_Form_has => k_is)
    (case c_Form_has => k_is)
    (case k_Form_has => k_is)
    (case a_Form_step => k_is)
    (case i_Form_step => k_is)
    (case l_Form_step => k_is)
    (case c_Form_step => k_is)
    (case k_Form_step => k_is)
    (case a_Form_slack => k_is)
    (case i_Form_slack => k_is)
    (case l_Form_slack => k_is)
    (case c_Form_slack => k_is)
    (case k_Form_slack => k_is)
    (case a_Form___eq__ => k_is)
    (case i_Form___eq__ => k_is)
    (case l_Form___eq__ => k_is)
    (case c_Form___eq__ => k_is)
    (case k_Form___eq__ => k_is)
    (case a_Form___str__ => k_is)
    (case i_Form___str__ => k_is)
    (case l_Form___str__ => k_is)
    (case c_Form___str__ => k_is)
    (case k_Form___str__ => k_is)
    (case a_Form___repr__ => k_is)
    (case i_Form___repr__ => k_is)
    (case l_Form___repr__ => k_is)
    (case c_Form___repr__ => k_is)
    (case k_Form___repr__ => k_is)
    (case a_Form___init__ => k_is)
    (case i_Form___init__ => k_is)
    (case l_Form___init__ => k_is)
    (case c_Form___init__ => k_is)
    (case k_Form___init__ => k_is)
    (case t_Form___init__ => k_is)
    (case g_GREATEST_POWER => k_is)
    (case g_LEAST_WIDTH => k_is)
    (case g_GREATEST_WIDTH => k_is)
    (case g_GREATEST_POINT => k_is)
    (case g_ENDS => k_is)
    (case t_ENDS => k_is)
    (case g_NEAREST_MANNERS => k_is)
    (case t_NEAREST_MANNERS => k_is)
    (case g_MANNERS => k_is)
    (case t_MANNERS => k_is)
    (case y_MANNERS => (repeat' first | exact trivial | refine ⟨⟨_, _, rfl, rfl⟩, ?_⟩))
    (case w_MANNERS => first | k_is | rfl | decide +kernel)
    (case d_MANNERS_down => k_is)
    (case d_MANNERS_up => k_is)
    (case d_MANNERS_in => k_is)
    (case d_MANNERS_out => k_is)
    (case d_MANNERS_half => k_is)
    (case d_MANNERS_even => k_is)
    (case d_MANNERS_far => k_is)
    (case fx_ha => k_is)
    (case fx_hn => k_is)
    (case fx_ht => k_is)
    (case fx_hm => k_is)
    (case fx_kC => kit_is)
    (case fx_kI => kit_is)
    (case fx_kS => kit_is)
    (case fx_kL => kit_is)
    (case fx_kT => kit_is)
    (case fx_kN => kit_is)
    (case fx_nS => first | kernel_rfl | k_is | rfl | decide +kernel)
    (case fx_nL => first | kernel_rfl | k_is | rfl | decide +kernel)
    (case fx_nT => first | kernel_rfl | k_is | rfl | decide +kernel)
    (case fx_nN => first | kernel_rfl | k_is | rfl | decide +kernel)
    (case z_isinstance => k_is)
    (case z_int => k_is)
    (case z_bool => k_is)
    (case z_abs => k_is)
    (case z_str => k_is)
    (case z_len => k_is)
    (case z_list => k_is)
    (case z_range => k_is)
    (case z_max => k_is)
    (case z_tuple => k_is)
    (case z_repr => k_is)
