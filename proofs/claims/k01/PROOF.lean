import PyProof.Rows.All
import Wide.All
import OpenK.AllK
import Wide.FinOn
import HandS.ForMost
import HandS.Wide
import HandS.Zip
import HandS.IsInst
import HandS.Defaults
import HandS.Style
import HandS.Walk
import PySem.Challenge.RW_echobound_k01_fractions
set_option Elab.async false
set_option linter.all false
set_option maxRecDepth 100000
set_option maxHeartbeats 4000000
namespace E1
open PySem PySem.Spec PyProof.Rows L2
/-! ### a def of the text that is called by its name -/
def Cal (P : Program) (w : World) (K : PySem.W.Frag) (mg : Str → Option Value) (base : Heap) (k : Nat) (x : Str) (ps : List Str) (sp : Sp) : Prop :=
  ∃ (f : Addr) (fd : FuncData), mg x = some (.ref f) ∧ PySem.W.keepIn K (.ref f) = true ∧ Binds K fd ps [] ∧ FnOk P w K mg base CX0 k f fd ps sp
theorem pe_cal {X : Cx} {k j : Nat} {x : Str} {ps : List Str} {sp : Sp} {e : Expr} {es : List Expr} {t : TA} {p pos : Pos} (c : Cal X.prog X.w X.K X.mg X.base k x ps sp) (hr : Room j X.A) (ha : PA X (e :: es) t) (hle : k ≤ j := by decide) (hg : Gl X x := by rfl)
    (hdb : (x == ("__debug__" : Str)) = false := by decide) (he : starEach (e :: es) X.env = (false, eval e X.env) :: starEach es X.env := by rfl) (hpl : (backTo pos (starEach es X.env)).any (·.1) = false := by rfl) :
    PE X (.Call (.Name x p) (e :: es) [] pos) (tCall sp [] E0 t) := by
  obtain ⟨f, fd, h1, h2, h3, h4⟩ := c
  exact pe_call h4 (hr.mono hle) hg h1 h2 h3 .nil pass0 ha hdb he hpl
/-! ### heaps -/
def SameBut (a : Addr) (H H' : Hp) : Prop := ∀ b o, b ≠ a → H b = some o → H' b = some o
theorem SameBut.refl (a : Addr) (H : Hp) : SameBut a H H := fun _ _ _ h => h
theorem SameBut.trans {a : Addr} {H H1 H2 : Hp} (x : SameBut a H H1) (y : SameBut a H1 H2) : SameBut a H H2 := fun b o n h => y b o n (x b o n h)
theorem SameBut.of {a : Addr} {H H' : Hp} (s : Same H H') : SameBut a H H' := fun b o _ h => s b o h
theorem SameBut.upd {a : Addr} {H : Hp} {o : HO} : SameBut a H (upd H a o) := fun b _ n h => by
  rw [upd_ne n]
  exact h
theorem same_new {H : Hp} {p : Addr} {o : HO} (h : H p = none) : Same H (upd H p o) := fun b x e => by
  rw [upd_ne (ne_of_none e h)]
  exact e
theorem Same.tup {K : PySem.W.Frag} {H H' : Hp} {a : Addr} {xs : List V} (e : Same H H') (h : SqT K H a xs) : SqT K H' a xs := by
  rcases h with (h | ⟨o, h⟩) | h
  · exact .inl (.inl (e _ _ h))
  · exact .inl (.inr ⟨o, e _ _ h⟩)
  · exact .inr h
theorem a0 {α : Type} {x : α} {l : List α} : atI (x :: l) 0 = some x := atI_nat (j := 0) rfl
theorem a1 {α : Type} {x y : α} {l : List α} : atI (x :: y :: l) 1 = some y := atI_nat (j := 1) rfl
theorem a2 {α : Type} {x y z : α} {l : List α} : atI (x :: y :: z :: l) 2 = some z := atI_nat (j := 2) rfl
theorem toB {p : Prop} [Decidable p] (h : decide p = true) : p := of_decide_eq_true h
theorem toNB {p : Prop} [Decidable p] (h : ¬ decide p = true) : ¬ p := fun z => h (decide_eq_true z)
/-- a well: the digits left, a number that is mixed, how many were mixed (at most c) -/
def WellAt (H : Hp) (a : Addr) (c : Int) : Prop := ∃ x y z : Int, H a = some (.lst [.int x, .int y, .int z]) ∧ 0 ≤ y ∧ y < 2147483647 ∧ 0 ≤ z ∧ z ≤ c
theorem WellAt.mono {H : Hp} {a : Addr} {c d : Int} (h : WellAt H a c) (l : c ≤ d) : WellAt H a d := by
  obtain ⟨x, y, z, e, h1, h2, h3, h4⟩ := h
  exact ⟨x, y, z, e, h1, h2, h3, by omega⟩
theorem WellAt.same {H H' : Hp} {a : Addr} {c : Int} (h : WellAt H a c) (s : Same H H') : WellAt H' a c := by
  obtain ⟨x, y, z, e, h1, h2, h3, h4⟩ := h
  exact ⟨x, y, z, s _ _ e, h1, h2, h3, h4⟩
theorem WellAt.but {H H' : Hp} {a b : Addr} {c : Int} (h : WellAt H a c) (s : SameBut b H H') (n : a ≠ b) : WellAt H' a c := by
  obtain ⟨x, y, z, e, h1, h2, h3, h4⟩ := h
  exact ⟨x, y, z, s _ _ n e, h1, h2, h3, h4⟩
/-! ### promises of the law's helpers -/
def spCell (K : PySem.W.Frag) : Sp := fun vs H Q _ => ∃ (a : Addr) (ns : List Int) (k : Nat), vs = [.ref a, .int k] ∧ SqL K H a (ns.map V.int) ∧ Q (.int (ns.getD k 0)) H
def spWell : Sp := fun vs H Q _ => ∃ c : Int, vs = [.int c] ∧ ∀ p : Addr, H p = none → ∀ H', Same H H' → WellAt H' p 0 → Q (.ref p) H'
/-- a number from 0 to below m; the well has at most one more -/
def spDraw : Sp := fun vs H Q _ => ∃ (a : Addr) (c m : Int), vs = [.ref a, .int m] ∧ WellAt H a c ∧ c ≤ 1000000000 ∧ 0 < m ∧ m.natAbs < 2 ^ 9000 ∧
  ∀ (r : Int) (H' : Hp), 0 ≤ r → r < m → SameBut a H H' → (∀ b, H b = none → H' b = none) → WellAt H' a (c + 1) → Q (.int r) H'
def topS (i : Nat) : Stmt := PySem.Challenge.pw_echobound_k01_fractions.main.body.getD i (.Pass ⟨0, 0, 0, 0⟩)
abbrev s_is_whole : Stmt := topS 5
abbrev s_is_fraction : Stmt := topS 6
abbrev s_shared_divisor : Stmt := topS 7
abbrev s_lowest : Stmt := topS 8
abbrev s_fraction : Stmt := topS 9
abbrev s_plus : Stmt := topS 10
abbrev s_minus : Stmt := topS 11
abbrev s_times : Stmt := topS 12
abbrev s_divided : Stmt := topS 13
abbrev s_size_of : Stmt := topS 14
abbrev s_two_to : Stmt := topS 15
abbrev s_under : Stmt := topS 16
abbrev s__law_cell_at : Stmt := topS 18
abbrev s__law_well : Stmt := topS 19
abbrev s__law_draw : Stmt := topS 20
abbrev s__law_great : Stmt := topS 21
abbrev s__law_same : Stmt := topS 22
abbrev s__law_low : Stmt := topS 23
abbrev s__law_drawn : Stmt := topS 24
abbrev s__law_made_right : Stmt := topS 25
abbrev s__law_two_right : Stmt := topS 26
abbrev s_law : Stmt := topS 27
section
variable {P : Program} {w : World} {K : PySem.W.Frag} {mg : Str → Option Value} {base : Heap}
theorem sc__law_cell_at : FnScope ["_law_script", "_law_k"] ["_law_script", "_law_k"] (defScope s__law_cell_at) := ⟨rfl, rfl, rfl, by decide +kernel, rfl, by decide +kernel, by decide +kernel⟩
theorem sc__law_well : FnScope ["_law_cell"] ["_law_cell"] (defScope s__law_well) := ⟨rfl, rfl, rfl, by decide +kernel, rfl, by decide +kernel, by decide +kernel⟩
theorem sc__law_draw : FnScope ["_law_well_here", "_law_much", "_law_found", "_law_number"] ["_law_well_here", "_law_much"] (defScope s__law_draw) := ⟨rfl, rfl, rfl, by decide +kernel, rfl, by decide +kernel, by decide +kernel⟩
theorem ok_cell {f : Addr} {fd : FuncData} {k : Nat} (F : Fun K "_law_cell_at" "_law_cell_at" s__law_cell_at f fd) (zl : mg "len" = none) : FnOk P w K mg base CX0 (k + 1) f fd ["_law_script", "_law_k"] (spCell K) := by
  refine F.ok sc__law_cell_at (fun vs H Q E h => ?_) (fun cdv A outer s H vs Q E hr h => ?_)
  · obtain ⟨a, ns, k, rfl, _⟩ := h
    rfl
  · obtain ⟨a, ns, k, rfl, hS, q⟩ := h
    refine ⟨_, (pss_cons (ps_if (pt_cmpR op_lt (pv 1) (pe_callB call_len_seq (by rfl) zl PySem.boot_len (pa_cons (pv 0) pa_nil)) (nomark _)) (pss_one (ps_ret (pe_ix ix_list (pv 0) (pv 1) (fun _ _ => rfl)))) pss_nil)
      (pss_one (ps_ret pe_int))), ?_⟩
    refine ⟨_, rfl, _, rfl, a, _, rfl, .inl hS, _, _, rfl, rfl, _, rfl, ite2 (fun c => ?_) (fun c => ?_)⟩
    · have hk : k < ns.length := by
        have := toB c
        rw [List.length_map] at this
        omega
      refine ⟨_, rfl, _, rfl, a, _, k, .int (ns.getD k 0), rfl, rfl, hS, atI_nat ?_, q⟩
      rw [List.getElem?_map, List.getElem?_eq_getElem hk, List.getD_eq_getElem?_getD, List.getElem?_eq_getElem hk]
      rfl
    · have hk : ¬ k < ns.length := fun z => by
        have := toNB c
        rw [List.length_map] at this
        omega
      have e : ns.getD k 0 = 0 := by
        rw [List.getD_eq_getElem?_getD, List.getElem?_eq_none (by omega)]
        rfl
      rw [e] at q
      exact q
theorem ok_well {f : Addr} {fd : FuncData} {k : Nat} (F : Fun K "_law_well" "_law_well" s__law_well f fd) (zi : mg "int" = none) : FnOk P w K mg base CX0 (k + 1) f fd ["_law_cell"] spWell := by
  refine F.ok sc__law_well (fun vs H Q E h => ?_) (fun cdv A outer s H vs Q E hr h => ?_)
  · obtain ⟨c, rfl, _⟩ := h
    rfl
  · obtain ⟨c, rfl, q⟩ := h
    refine ⟨_, (pss_one (ps_ret (pe_lst (pa_cons (pe_op op_mul (pv 0) (pe_callTy call_int1 (by rfl) zi (by decide +kernel) (pa_cons (pe_cmpR op_ge (pv 0) (pe_op op_pow pe_int pe_int) (nomark _)) pa_nil))) (pa_cons (pe_op op_mod (pv 0) pe_int) (pa_cons pe_int pa_nil)))))), ?_⟩
    refine ⟨_, rfl, _, rfl, _, _, rfl, rfl, ⟨by decide, by decide, by decide⟩, _, _, rfl, rfl, .inr ⟨_, rfl, _, _, rfl, rfl, .inr ?_, ?_⟩⟩
    · split <;> decide
    · refine ⟨_, rfl, _, _, rfl, rfl, (by show (0 : Int) < 2147483647; decide), (by show 3 ≤ sizeLine; decide), fun p hp => ?_⟩
      exact q p hp _ (same_new hp) ⟨_, _, _, upd_same, Int.emod_nonneg _ (by decide), Int.emod_lt_of_pos _ (by decide), Int.le_refl _, Int.le_refl _⟩
theorem ok_draw {f : Addr} {fd : FuncData} {k : Nat} (F : Fun K "_law_draw" "_law_draw" s__law_draw f fd) : FnOk P w K mg base CX0 (k + 1) f fd ["_law_well_here", "_law_much"] spDraw := by
  refine F.ok sc__law_draw (fun vs H Q E h => ?_) (fun cdv A outer s H vs Q E hr h => ?_)
  · obtain ⟨a, c, m, rfl, _⟩ := h
    rfl
  · obtain ⟨a, c, m, rfl, ⟨x, y, z, hw, y0, y1, z0, z1⟩, hc, m0, m1, q⟩ := h
    have fr : ∀ o b, H b = none → (upd H a o) b = none := fun o b hb => by
      rw [upd_ne (fun e => by rw [e, hw] at hb; cases hb)]
      exact hb
    refine ⟨_, (pss_cons (ps_if (pt_cmpR op_gt (pe_ix ix_list (pv 0) pe_int (fun _ _ => rfl)) pe_int (nomark _)) (pss_cons (ps_set (i := 2) sc__law_draw.nd rfl (.inl rfl) (pe_op op_mod (pe_ix ix_list (pv 0) pe_int (fun _ _ => rfl)) (pv 1)))
      (pss_cons (ps_asg (pe_op op_fdivW (pe_ix ix_list (pv 0) pe_int (fun _ _ => rfl)) (pv 1)) (pg_sub (pv 0) pe_int set_list))
      (pss_one (ps_ret (pv 2))))) pss_nil)
      (pss_cons (ps_asg (pe_op op_add (pe_ix ix_list (pv 0) pe_int (fun _ _ => rfl)) pe_int) (pg_sub (pv 0) pe_int set_list))
      (pss_cons (ps_set (i := 3) sc__law_draw.nd rfl (.inl rfl) (pe_op op_mod (pe_op op_pow (pe_op op_add (pe_op op_add (pe_ix ix_list (pv 0) pe_int (fun _ _ => rfl)) (pe_op op_mul pe_int (pe_ix ix_list (pv 0) pe_int (fun _ _ => rfl)))) pe_int) pe_int) pe_int))
      (pss_cons (ps_set (i := 3) sc__law_draw.nd rfl (.inl rfl) (pe_op op_mod (pe_op op_mul (pv 3) (pe_op op_add (pe_op op_fdiv (pv 3) pe_int) pe_int)) pe_int))
      (pss_one (ps_ret (pe_op op_mod (pe_op op_mod (pe_op op_mul (pv 3) (pe_op op_add (pe_op op_fdiv (pv 3) pe_int) pe_int)) pe_int) (pv 1)))))))), ?_⟩
    refine ⟨_, rfl, a, _, 0, .int x, rfl, rfl, SqL.of hw, a0, x, 0, rfl, rfl, _, rfl, ite2 (fun c => ?_) (fun c => ?_)⟩
    · refine ⟨_, rfl, a, _, 0, .int x, rfl, rfl, SqL.of hw, a0, _, rfl, x, m, rfl, rfl, m0, ?_⟩
      refine ⟨_, rfl, a, _, 0, .int x, rfl, rfl, SqL.of hw, a0, _, rfl, x, m, rfl, rfl, wide_div m0 m1 (by decide) (Nat.le_refl _), _, rfl, a, _, 0, 0, rfl, rfl, hw, rfl, ?_⟩
      refine ⟨_, rfl, q _ _ (Int.emod_nonneg _ (by omega)) (Int.emod_lt_of_pos _ m0) SameBut.upd (fr _) ⟨_, _, _, upd_same, y0, y1, z0, by omega⟩⟩
    · refine ⟨_, rfl, a, _, 2, .int z, rfl, rfl, SqL.of hw, a2, z, 1, rfl, rfl, _, rfl, a, _, 2, 2, rfl, rfl, hw, rfl, ?_⟩
      have hw2 : (upd H a (.lst [V.int x, V.int y, V.int (z + 1)])) a = some (.lst [V.int x, V.int y, V.int (z + 1)]) := upd_same
      have n5 : 0 ≤ y + 7919 * (z + 1) + 1 ∧ y + 7919 * (z + 1) + 1 < 18446744073709551616 := by omega
      refine ⟨_, rfl, a, _, 1, .int y, rfl, rfl, SqL.of hw2, a1, _, rfl, a, _, 2, .int (z + 1), rfl, rfl, SqL.of hw2, a2, _, _, rfl, rfl, .inl ⟨by decide, by decide⟩, _, _, rfl, rfl, _, _, rfl, rfl, _, _, rfl, rfl, ⟨by decide, by decide, ?_⟩, _, _, rfl, rfl, (by show (0 : Int) < 2147483647; decide), ?_⟩
      · show (y + 7919 * (z + 1) + 1).natAbs < 18446744073709551616
        omega
      · generalize hn : (y + 7919 * (z + 1) + 1) ^ (5 : Int).toNat % 2147483647 = n
        have n0 : 0 ≤ n := by rw [← hn]; exact Int.emod_nonneg _ (by decide)
        have n1 : n < 2147483647 := by rw [← hn]; exact Int.emod_lt_of_pos _ (by decide)
        refine ⟨_, rfl, _, rfl, _, _, rfl, rfl, ⟨by decide, by decide⟩, _, _, rfl, rfl, _, _, rfl, rfl, .inl ⟨by omega, by omega⟩, _, _, rfl, rfl, (by show (0 : Int) < 2147483629; decide), ?_⟩
        generalize hm : n * (n / 1009 + 69621) % 2147483629 = u
        have u0 : 0 ≤ u := by rw [← hm]; exact Int.emod_nonneg _ (by decide)
        have u1 : u < 2147483629 := by rw [← hm]; exact Int.emod_lt_of_pos _ (by decide)
        refine ⟨_, rfl, _, rfl, _, _, rfl, rfl, ⟨by decide, by decide⟩, _, _, rfl, rfl, _, _, rfl, rfl, .inl ⟨by omega, by omega⟩, _, _, rfl, rfl, (by show (0 : Int) < 2147483587; decide), _, rfl, _, _, rfl, rfl, m0, ?_⟩
        exact q _ _ (Int.emod_nonneg _ (by omega)) (Int.emod_lt_of_pos _ m0) SameBut.upd (fr _) ⟨_, _, _, upd_same, y0, y1, by omega, by omega⟩
end
end E1

namespace E1
open PySem PySem.Spec PyProof.Rows L2

def CalD (P : Program) (w : World) (K : PySem.W.Frag) (mg : Str → Option Value) (base : Heap) (k : Nat) (x : Str) (ps : List Str) (dvs : List V) (sp : Sp) : Prop :=
  ∃ (f : Addr) (fd : FuncData) (ds : List Value), mg x = some (.ref f) ∧ PySem.W.keepIn K (.ref f) = true ∧ Vals dvs ds ∧ Binds K fd ps ds ∧ FnOk P w K mg base CX0 k f fd ps sp
theorem pe_cald {X : Cx} {k j : Nat} {x : Str} {ps : List Str} {dvs : List V} {sp : Sp} {e : Expr} {es : List Expr} {t : TA} {p pos : Pos} (c : CalD X.prog X.w X.K X.mg X.base k x ps dvs sp) (hr : Room j X.A) (ha : PA X (e :: es) t) (hle : k ≤ j := by decide) (hg : Gl X x := by rfl)
    (hdb : (x == ("__debug__" : Str)) = false := by decide) (he : starEach (e :: es) X.env = (false, eval e X.env) :: starEach es X.env := by rfl) (hpl : (backTo pos (starEach es X.env)).any (·.1) = false := by rfl) :
    PE X (.Call (.Name x p) (e :: es) [] pos) (tCall sp dvs E0 t) := by
  obtain ⟨f, fd, ds, h1, h2, hd, h3, h4⟩ := c
  exact pe_call h4 (hr.mono hle) hg h1 h2 h3 hd pass0 ha hdb he hpl
def CalK (P : Program) (w : World) (K : PySem.W.Frag) (mg : Str → Option Value) (base : Heap) (k : Nat) (x : Str) (ps : List Str) (n : Nat) (ks : List Str) (gV : List V → List V → List V) (sp : Sp) : Prop :=
  ∃ (f : Addr) (fd : FuncData) (g : List Value → List Value → List Value), mg x = some (.ref f) ∧ PySem.W.keepIn K (.ref f) = true ∧ KBn K fd ps n ks g gV ∧ FnOk P w K mg base CX0 k f fd ps sp
theorem pe_calk {X : Cx} {k j n : Nat} {x : Str} {ps ks : List Str} {gV : List V → List V → List V} {sp : Sp} {e : Expr} {es : List Expr} {kws : List Keyword} {t tk : TA} {p pos : Pos} (c : CalK X.prog X.w X.K X.mg X.base k x ps n ks gV sp) (hr : Room j X.A)
    (ha : PA X (e :: es) t) (hkw : PK X kws tk) (hle : k ≤ j := by decide) (hg : Gl X x := by rfl) (hall : (backToKw pos (keywordEach kws X.env)).all (·.1.isSome) = true := by rfl) (hks : (backToKw pos (keywordEach kws X.env)).filterMap (·.1) = ks := by rfl)
    (hdb : (x == ("__debug__" : Str)) = false := by decide) (he : starEach (e :: es) X.env = (false, eval e X.env) :: starEach es X.env := by rfl)
    (hpl : ((backTo pos (starEach (e :: es) X.env)).any (·.1) || (backToKw pos (keywordEach kws X.env)).any (·.1.isNone)) = false := by rfl) :
    PE X (.Call (.Name x p) (e :: es) kws pos) (tCallN n ks.length sp gV E0 t tk) := by
  obtain ⟨f, fd, g, h1, h2, h3, h4⟩ := c
  exact pe_callN h4 (hr.mono hle) hg h1 h2 h3 pass0 ha hkw hall hks hdb he hpl
theorem pe_calk0 {X : Cx} {k j : Nat} {x : Str} {ps ks : List Str} {gV : List V → List V → List V} {sp : Sp} {kws : List Keyword} {tk : TA} {p pos : Pos} (c : CalK X.prog X.w X.K X.mg X.base k x ps 0 ks gV sp) (hr : Room j X.A)
    (hkw : PK X kws tk) (hle : k ≤ j := by decide) (hg : Gl X x := by rfl) (hall : (backToKw pos (keywordEach kws X.env)).all (·.1.isSome) = true := by rfl) (hks : (backToKw pos (keywordEach kws X.env)).filterMap (·.1) = ks := by rfl)
    (hdb : (x == ("__debug__" : Str)) = false := by decide)
    (hpl : ((backTo pos (starEach [] X.env)).any (·.1) || (backToKw pos (keywordEach kws X.env)).any (·.1.isNone)) = false := by rfl) :
    PE X (.Call (.Name x p) [] kws pos) (tCallN 0 ks.length sp gV E0 tNil tk) := by
  obtain ⟨f, fd, g, h1, h2, h3, h4⟩ := c
  refine ⟨fun pins s σ H Q I h => ?_⟩
  refine wpAny_Call_Name_kw (ld_glob I hg h1 ?_ hdb)
  refine PySem.W.callWith_KW0 (h₀ := X.base) I.ok.mod.kin h2 hall (thn (hkw.run pos pins s σ H _ I h) fun ws s2 ⟨zs, H2, I2, rz, l1, l2, q2⟩ => ⟨I2.kIn, ?_⟩) hpl
  rw [hks]
  exact run_fnN (vs := []) (us := []) h4 (hr.mono hle) h3 pass0 I2 .nil rz l1 l2 q2
/-- a class handed to isinstance -/
theorem isiB {K : PySem.W.Frag} {H : Hp} {x : V} {a b : String} {r : Bool} {Q : VK} (ty : TyX K H x (.type a)) (k : kitB a b = some r) (q : Q (.bl r) H) : rIsi K [x, .ty b] H Q :=
  ⟨x, .ty b, .type a, .type b, r, rfl, .ty _, ty, kit_ty k, q⟩
/-- whether a thing is a whole number -/
def WholeIs (K : PySem.W.Frag) (H : Hp) (x : V) (b : Bool) : Prop := (∃ i, x = .int i ∧ b = true) ∨ (∃ c, x = .bl c ∧ b = false) ∨ (b = false ∧ ∃ t : String, TyX K H x (.type t) ∧ kitB t "int" = some false)
theorem WholeIs.int {K : PySem.W.Frag} {H : Hp} (i : Int) : WholeIs K H (.int i) true := .inl ⟨i, rfl, rfl⟩
def spWhole (K : PySem.W.Frag) : Sp := fun vs H Q _ => ∃ (x : V) (b : Bool), vs = [x] ∧ WholeIs K H x b ∧ Q (.bl b) H
/-! ### the mathematics of fractions in lowest terms -/
def gI (t b : Int) : Int := (Int.gcd t b : Nat)
def lowT (t b : Int) : Int := (if b < 0 then -t else t) / gI t b
def lowB (t b : Int) : Int := (if b < 0 then -b else b) / gI t b
theorem gI_neg (t b : Int) : gI (-t) (-b) = gI t b := by
  unfold gI
  rw [Int.neg_gcd, Int.gcd_neg]
theorem gI_pos {t b : Int} (h : b ≠ 0) : 0 < gI t b := by
  have : 0 < Int.gcd t b := Int.gcd_pos_of_ne_zero_right t h
  unfold gI
  omega
theorem gI_le {t b : Int} (h : b ≠ 0) : (gI t b).natAbs ≤ b.natAbs := by
  have d : Int.gcd t b ∣ b.natAbs := Nat.gcd_dvd_right t.natAbs b.natAbs
  have := Nat.le_of_dvd (by omega) d
  unfold gI
  omega
def spShared : Sp := fun vs H Q _ => ∃ t b : Int, vs = [.int t, .int b] ∧ 0 ≤ b ∧ Q (.int (gI t b)) H
def spLow : Sp := fun vs H Q _ => ∃ t b : Int, vs = [.int t, .int b] ∧ b ≠ 0 ∧ b.natAbs < 2 ^ 4000 ∧ ∀ p, H p = none → Q (.ref p) (upd H p (.tup [.int (lowT t b), .int (lowB t b)]))
/-- two fractions at two places; the tops and bottoms told by f and d -/
def spTwo (K : PySem.W.Frag) (pre : Int → Int → Int → Int → Prop) (f d : Int → Int → Int → Int → Int) : Sp := fun vs H Q _ => ∃ (a c : Addr) (t u v x : Int), vs = [.ref a, .ref c] ∧ SqT K H a [.int t, .int u] ∧ SqT K H c [.int v, .int x] ∧
  pre t u v x ∧ 0 < u ∧ 0 < x ∧ t.natAbs < 2 ^ 1900 ∧ u.natAbs < 2 ^ 1900 ∧ v.natAbs < 2 ^ 1900 ∧ x.natAbs < 2 ^ 1900 ∧ ∀ p, H p = none → Q (.ref p) (upd H p (.tup [.int (lowT (f t u v x) (d t u v x)), .int (lowB (f t u v x) (d t u v x))]))
def spUnder (K : PySem.W.Frag) : Sp := fun vs H Q _ => ∃ (a c : Addr) (t u v x : Int), vs = [.ref a, .ref c] ∧ SqT K H a [.int t, .int u] ∧ SqT K H c [.int v, .int x] ∧
  t.natAbs < 2 ^ 1900 ∧ u.natAbs < 2 ^ 1900 ∧ v.natAbs < 2 ^ 1900 ∧ x.natAbs < 2 ^ 1900 ∧ Q (.bl (decide (t * x < v * u))) H
def absI (t : Int) : Int := if t < 0 then -t else t
def spSize (K : PySem.W.Frag) : Sp := fun vs H Q _ => ∃ (a : Addr) (t u : Int), vs = [.ref a] ∧ SqT K H a [.int t, .int u] ∧ ∀ p, H p = none → Q (.ref p) (upd H p (.tup [.int (absI t), .int u]))
def twoT (m : Int) : Int := if m < 0 then 1 else 2 ^ m.toNat
def twoB (m : Int) : Int := if m < 0 then 2 ^ (-m).toNat else 1
def spTwoTo : Sp := fun vs H Q _ => ∃ m : Int, vs = [.int m] ∧ -400 ≤ m ∧ m ≤ 400 ∧ ∀ p, H p = none → Q (.ref p) (upd H p (.tup [.int (twoT m), .int (twoB m)]))
def spIsFrac : Sp := fun vs H Q _ => ∃ (a : Addr) (t u : Int), vs = [.ref a] ∧ H a = some (.tup [.int t, .int u]) ∧ 1 ≤ u ∧ Q (.bl (decide (gI t u = 1))) H
structure Zs (mg : Str → Option Value) : Prop where
  isinstance : mg "isinstance" = none
  int : mg "int" = none
  bool : mg "bool" = none
  tuple : mg "tuple" = none
  len : mg "len" = none
  abs : mg "abs" = none
  range : mg "range" = none
  list : mg "list" = none
  all : mg "all" = none
  zip : mg "zip" = none
  str : mg "str" = none
section
variable {P : Program} {w : World} {K : PySem.W.Frag} {mg : Str → Option Value} {base : Heap}
theorem sc_is_whole : FnScope ["thing"] ["thing"] (defScope s_is_whole) := ⟨rfl, rfl, rfl, by decide +kernel, rfl, by decide +kernel, by decide +kernel⟩
theorem ok_is_whole {f : Addr} {fd : FuncData} {k : Nat} (F : Fun K "is_whole" "is_whole" s_is_whole f fd) (z : Zs mg) : FnOk P w K mg base CX0 (k + 1) f fd ["thing"] (spWhole K) := by
  refine F.ok sc_is_whole (fun vs H Q E h => ?_) (fun cdv A outer s H vs Q E hr h => ?_)
  · obtain ⟨x, b, rfl, _⟩ := h
    rfl
  · obtain ⟨x, b, rfl, hw, q⟩ := h
    refine ⟨_, (pss_one (ps_ret (pe_and (pe_callB call_isi (by rfl) z.isinstance (by decide +kernel) (pa_cons (pv 0) (pa_cons (pe_bltn (v := .ty "int") (by rfl) z.int (by decide +kernel) rfl) pa_nil))) (pe_one (pe_not (pe_callB call_isi (by rfl) z.isinstance (by decide +kernel) (pa_cons (pv 0) (pa_cons (pe_bltn (v := .ty "bool") (by rfl) z.bool (by decide +kernel) rfl) pa_nil)))))))), ?_⟩
    rcases hw with ⟨i, rfl, rfl⟩ | ⟨c, rfl, rfl⟩ | ⟨rfl, t, ty, kt⟩
    · exact ⟨_, rfl, _, .ty "int", _, _, true, rfl, .ty _, .base (.int i), kit_ty (by decide +kernel), _, rfl, iteT ⟨_, rfl, _, .ty "bool", _, _, false, rfl, .ty _, .base (.int i), kit_ty (by decide +kernel), _, rfl, q⟩⟩
    · exact ⟨_, rfl, _, .ty "int", _, _, true, rfl, .ty _, .base (.bl c), kit_ty (by decide +kernel), _, rfl, iteT ⟨_, rfl, _, .ty "bool", _, _, true, rfl, .ty _, .base (.bl c), kit_ty (by decide +kernel), _, rfl, q⟩⟩
    · exact ⟨_, rfl, _, .ty "int", _, _, false, rfl, .ty _, ty, kit_ty kt, _, rfl, iteF q⟩
theorem sc_shared_divisor : FnScope ["top", "bottom", "one", "other"] ["top", "bottom"] (defScope s_shared_divisor) := ⟨rfl, rfl, rfl, by decide +kernel, rfl, by decide +kernel, by decide +kernel⟩
theorem ok_shared_divisor {f : Addr} {fd : FuncData} {k : Nat} (F : Fun K "shared_divisor" "shared_divisor" s_shared_divisor f fd) (z : Zs mg) : FnOk P w K mg base CX0 (k + 1) f fd ["top", "bottom"] spShared := by
  refine F.ok sc_shared_divisor (fun vs H Q E h => ?_) (fun cdv A outer s H vs Q E hr h => ?_)
  · obtain ⟨t, b, rfl, _⟩ := h
    rfl
  · obtain ⟨t, b, rfl, hb, q⟩ := h
    refine ⟨_, (pss_cons (ps_set (i := 2) sc_shared_divisor.nd rfl (.inl rfl) (pe_callB call_abs (by rfl) z.abs (by decide +kernel) (pa_cons (pv 0) pa_nil)))
      (pss_cons (ps_set (i := 3) sc_shared_divisor.nd rfl (.inl rfl) (pv 1))
      (pss_cons (ps_while PassesOwn.never (pt_truth (pv 3) (by intro _; rfl)) (pss_one (ps_par (i := 2) (j := 3) (by rfl) sc_shared_divisor.nd rfl rfl (by decide) rfl rfl (pa_cons (pv 3) (pa_cons (pe_op op_mod (pv 2) (pv 3)) pa_nil)) (by rfl))))
      (pss_one (ps_ret (pv 2)))))), ?_⟩
    refine ⟨_, rfl, _, rfl, ?_⟩
    refine ⟨_, rfl, ?_⟩
    dsimp only [gName, tSeq]
    refine while_by (fun σ H' => H' = H ∧ ∃ m n : Nat, σ = [some (.int t), some (.int b), some (.int (m : Int)), some (.int (n : Int))] ∧ Nat.gcd m n = Int.gcd t b)
      (fun σ _ => match σ with | [_, _, _, some (.int r)] => r.toNat | _ => 0) ⟨rfl, t.natAbs, b.natAbs, ?_, rfl⟩ (fun σ H1 hP => ?_) (fun σ H Q Q' m hh => ?_)
    · have e1 : (if t < 0 then -t else t) = (t.natAbs : Int) := by split <;> omega
      have e2 : b = (b.natAbs : Int) := by omega
      show [some (V.int t), some (V.int b), some (V.int (if t < 0 then -t else t)), some (V.int b)] = _
      rw [e1, ← e2]
    · obtain ⟨rfl, m, n, rfl, hg⟩ := hP
      refine ⟨_, rfl, _, rfl, ?_⟩
      by_cases hn : n = 0
      · subst hn
        have e : ((((0 : Nat) : Int)) != 0) = false := rfl
        rw [e]
        refine iteF ⟨_, rfl, ?_⟩
        rw [Nat.gcd_zero_right] at hg
        have e2 : (m : Int) = gI t b := by
          unfold gI
          rw [hg]
        rw [e2]
        exact q
      · have e : ((n : Int) != 0) = true := by
          rw [bne_iff_ne]
          omega
        rw [e]
        refine iteT ⟨_, rfl, _, rfl, _, rfl, _, _, rfl, rfl, (by omega), _, _, rfl, ⟨⟨rfl, n, m % n, rfl, ?_⟩, ?_⟩⟩
        · rw [← hg, Nat.gcd_comm n (m % n), ← Nat.gcd_rec n m, Nat.gcd_comm]
        · show ((m : Int) % (n : Int)).toNat < ((n : Int)).toNat
          have := Int.emod_lt_of_pos (m : Int) (show (0 : Int) < n by omega)
          have := Int.emod_nonneg (m : Int) (show (n : Int) ≠ 0 by omega)
          omega
    · obtain ⟨v, e, kk, tv, hq⟩ := hh
      exact ⟨v, e, kk, tv, m _ _ hq⟩
theorem sc_lowest : FnScope ["top", "bottom", "shared"] ["top", "bottom"] (defScope s_lowest) := ⟨rfl, rfl, rfl, by decide +kernel, rfl, by decide +kernel, by decide +kernel⟩
theorem ok_lowest {f : Addr} {fd : FuncData} (F : Fun K "lowest" "lowest" s_lowest f fd) (c_shared_divisor : Cal P w K mg base 1 "shared_divisor" ["top", "bottom"] spShared) : FnOk P w K mg base CX0 2 f fd ["top", "bottom"] spLow := by
  refine F.ok sc_lowest (fun vs H Q E h => ?_) (fun cdv A outer s H vs Q E hr h => ?_)
  · obtain ⟨t, b, rfl, _⟩ := h
    rfl
  · obtain ⟨t, b, rfl, hb, hl, q⟩ := h
    refine ⟨_, (pss_cons (ps_if (pt_cmpR op_lt (pv 1) pe_int (nomark _)) (pss_cons (ps_set (i := 0) sc_lowest.nd rfl (.inl rfl) (pe_un un_neg (pv 0)))
      (pss_one (ps_set (i := 1) sc_lowest.nd rfl (.inl rfl) (pe_un un_neg (pv 1))))) pss_nil)
      (pss_cons (ps_set (i := 2) sc_lowest.nd rfl (.inl rfl) (pe_cal c_shared_divisor hr (pa_cons (pv 0) (pa_cons (pv 1) pa_nil))))
      (pss_one (ps_ret (pe_tup (pa_cons (pe_op op_fdivW (pv 0) (pv 2)) (pa_cons (pe_op op_fdivW (pv 1) (pv 2)) pa_nil))))))), ?_⟩
    have g0 := gI_pos (t := t) hb
    have g1 : (gI t b).natAbs < 2 ^ 4000 := Nat.lt_of_le_of_lt (gI_le hb) hl
    refine ⟨_, rfl, _, _, rfl, rfl, _, rfl, ite2 (fun c => ?_) (fun c => ?_)⟩
    · have hc := toB c
      refine ⟨_, rfl, _, rfl, ?_⟩
      refine ⟨_, rfl, _, rfl, ?_⟩
      refine ⟨_, rfl, _, rfl, -t, -b, rfl, by omega, ?_⟩
      rw [gI_neg]
      refine ⟨_, rfl, _, rfl, _, _, rfl, rfl, wide_div g0 g1 (by decide) (by decide), _, rfl, _, rfl, _, _, rfl, rfl, wide_div g0 g1 (by decide) (by decide), (by show 2 ≤ sizeLine; decide), fun p hp => ?_⟩
      have := q p hp
      unfold lowT lowB at this
      rw [if_pos hc, if_pos hc] at this
      exact this
    · have hc := toNB c
      refine ⟨_, rfl, _, rfl, t, b, rfl, by omega, ?_⟩
      refine ⟨_, rfl, _, rfl, _, _, rfl, rfl, wide_div g0 g1 (by decide) (by decide), _, rfl, _, rfl, _, _, rfl, rfl, wide_div g0 g1 (by decide) (by decide), (by show 2 ≤ sizeLine; decide), fun p hp => ?_⟩
      have := q p hp
      unfold lowT lowB at this
      rw [if_neg hc, if_neg hc] at this
      exact this
theorem sc_fraction : FnScope ["top", "bottom"] ["top", "bottom"] (defScope s_fraction) := ⟨rfl, rfl, rfl, by decide +kernel, rfl, by decide +kernel, by decide +kernel⟩
theorem ok_fraction {f : Addr} {fd : FuncData} {dvs : List V} (F : FunD K "fraction" "fraction" (defArgs s_fraction) (defBody s_fraction) (defScope s_fraction) dvs [] f fd) (c_is_whole : Cal P w K mg base 1 "is_whole" ["thing"] (spWhole K)) (c_lowest : Cal P w K mg base 2 "lowest" ["top", "bottom"] spLow) : FnOk P w K mg base CX0 3 f fd ["top", "bottom"] spLow := by
  refine F.ok sc_fraction (fun vs H Q E h => ?_) (fun cdv A outer s H vs Q E hr h => ?_)
  · obtain ⟨t, b, rfl, _⟩ := h
    rfl
  · obtain ⟨t, b, rfl, hb, hl, q⟩ := h
    refine ⟨_, PSs.nox (pss_cons (ps_if (PW.pt (pw_or (pt_not (pt_val (pe_cal c_is_whole hr (pa_cons (pv 0) pa_nil)))) (pw_or (pt_not (pt_val (pe_cal c_is_whole hr (pa_cons (pv 1) pa_nil)))) (pw_or1 (pt_cmpR op_eq (pv 1) pe_int (nomark _)))))) (pss_one ps_never) pss_nil)
      (pss_one (ps_ret (pe_cal c_lowest hr (pa_cons (pv 0) (pa_cons (pv 1) pa_nil)))))), ?_⟩
    refine ⟨_, rfl, _, _, rfl, .int t, _, rfl, iteF ⟨_, rfl, _, _, rfl, .int b, _, rfl, iteF ⟨_, rfl, rfl, _, rfl, ite2 (fun c => ?_) (fun c => ?_)⟩⟩⟩
    · exact absurd (V.int.inj (toB c)) hb
    · exact ⟨_, rfl, _, rfl, t, b, rfl, hb, hl, q⟩
theorem sc_plus : FnScope ["one", "other"] ["one", "other"] (defScope s_plus) := ⟨rfl, rfl, rfl, by decide +kernel, rfl, by decide +kernel, by decide +kernel⟩
theorem ok_plus {f : Addr} {fd : FuncData} (F : Fun K "plus" "plus" s_plus f fd) (c_lowest : Cal P w K mg base 2 "lowest" ["top", "bottom"] spLow) : FnOk P w K mg base CX0 3 f fd ["one", "other"] (spTwo K (fun t u v x => True) (fun t u v x => t * x + v * u) (fun t u v x => u * x)) := by
  refine F.ok sc_plus (fun vs H Q E h => ?_) (fun cdv A outer s H vs Q E hr h => ?_)
  · obtain ⟨a, c, t, u, v, x, rfl, _⟩ := h
    rfl
  · obtain ⟨a, c, t, u, v, x, rfl, ha, hc, pr, hu, hx, b1, b2, b3, b4, q⟩ := h
    refine ⟨_, (pss_one (ps_ret (pe_cal c_lowest hr (pa_cons (pe_op op_add (pe_op op_mulW (pe_ix ix_tup (pv 0) pe_int (fun _ _ => rfl)) (pe_ix ix_tup (pv 1) pe_int (fun _ _ => rfl))) (pe_op op_mulW (pe_ix ix_tup (pv 1) pe_int (fun _ _ => rfl)) (pe_ix ix_tup (pv 0) pe_int (fun _ _ => rfl)))) (pa_cons (pe_op op_mulW (pe_ix ix_tup (pv 0) pe_int (fun _ _ => rfl)) (pe_ix ix_tup (pv 1) pe_int (fun _ _ => rfl))) pa_nil))))), ?_⟩
    have nz : u * x ≠ 0 := Int.mul_ne_zero (by omega) (by omega)
    refine ⟨_, rfl, a, _, 0, .int t, rfl, rfl, ha, a0, _, rfl, c, _, 1, .int x, rfl, rfl, hc, a1, _, _, rfl, rfl, wide_mul b1 b4 (by decide) (by decide) (by decide), _, rfl, c, _, 0, .int v, rfl, rfl, hc, a0, _, rfl, a, _, 1, .int u, rfl, rfl, ha, a1, _, _, rfl, rfl, wide_mul b3 b2 (by decide) (by decide) (by decide), _, _, rfl, rfl, _, rfl, a, _, 1, .int u, rfl, rfl, ha, a1, _, rfl, c, _, 1, .int x, rfl, rfl, hc, a1, _, _, rfl, rfl, wide_mul b2 b4 (by decide) (by decide) (by decide), _, _, rfl, nz, ?_, q⟩
    exact Nat.lt_of_lt_of_le (wide_lt b2 b4) (Nat.pow_le_pow_right (by decide) (by decide))
theorem sc_minus : FnScope ["one", "other"] ["one", "other"] (defScope s_minus) := ⟨rfl, rfl, rfl, by decide +kernel, rfl, by decide +kernel, by decide +kernel⟩
theorem ok_minus {f : Addr} {fd : FuncData} (F : Fun K "minus" "minus" s_minus f fd) (c_lowest : Cal P w K mg base 2 "lowest" ["top", "bottom"] spLow) : FnOk P w K mg base CX0 3 f fd ["one", "other"] (spTwo K (fun t u v x => True) (fun t u v x => t * x - v * u) (fun t u v x => u * x)) := by
  refine F.ok sc_minus (fun vs H Q E h => ?_) (fun cdv A outer s H vs Q E hr h => ?_)
  · obtain ⟨a, c, t, u, v, x, rfl, _⟩ := h
    rfl
  · obtain ⟨a, c, t, u, v, x, rfl, ha, hc, pr, hu, hx, b1, b2, b3, b4, q⟩ := h
    refine ⟨_, (pss_one (ps_ret (pe_cal c_lowest hr (pa_cons (pe_op op_sub (pe_op op_mulW (pe_ix ix_tup (pv 0) pe_int (fun _ _ => rfl)) (pe_ix ix_tup (pv 1) pe_int (fun _ _ => rfl))) (pe_op op_mulW (pe_ix ix_tup (pv 1) pe_int (fun _ _ => rfl)) (pe_ix ix_tup (pv 0) pe_int (fun _ _ => rfl)))) (pa_cons (pe_op op_mulW (pe_ix ix_tup (pv 0) pe_int (fun _ _ => rfl)) (pe_ix ix_tup (pv 1) pe_int (fun _ _ => rfl))) pa_nil))))), ?_⟩
    have nz : u * x ≠ 0 := Int.mul_ne_zero (by omega) (by omega)
    refine ⟨_, rfl, a, _, 0, .int t, rfl, rfl, ha, a0, _, rfl, c, _, 1, .int x, rfl, rfl, hc, a1, _, _, rfl, rfl, wide_mul b1 b4 (by decide) (by decide) (by decide), _, rfl, c, _, 0, .int v, rfl, rfl, hc, a0, _, rfl, a, _, 1, .int u, rfl, rfl, ha, a1, _, _, rfl, rfl, wide_mul b3 b2 (by decide) (by decide) (by decide), _, _, rfl, rfl, _, rfl, a, _, 1, .int u, rfl, rfl, ha, a1, _, rfl, c, _, 1, .int x, rfl, rfl, hc, a1, _, _, rfl, rfl, wide_mul b2 b4 (by decide) (by decide) (by decide), _, _, rfl, nz, ?_, q⟩
    exact Nat.lt_of_lt_of_le (wide_lt b2 b4) (Nat.pow_le_pow_right (by decide) (by decide))
theorem sc_times : FnScope ["one", "other"] ["one", "other"] (defScope s_times) := ⟨rfl, rfl, rfl, by decide +kernel, rfl, by decide +kernel, by decide +kernel⟩
theorem ok_times {f : Addr} {fd : FuncData} (F : Fun K "times" "times" s_times f fd) (c_lowest : Cal P w K mg base 2 "lowest" ["top", "bottom"] spLow) : FnOk P w K mg base CX0 3 f fd ["one", "other"] (spTwo K (fun t u v x => True) (fun t u v x => t * v) (fun t u v x => u * x)) := by
  refine F.ok sc_times (fun vs H Q E h => ?_) (fun cdv A outer s H vs Q E hr h => ?_)
  · obtain ⟨a, c, t, u, v, x, rfl, _⟩ := h
    rfl
  · obtain ⟨a, c, t, u, v, x, rfl, ha, hc, pr, hu, hx, b1, b2, b3, b4, q⟩ := h
    refine ⟨_, (pss_one (ps_ret (pe_cal c_lowest hr (pa_cons (pe_op op_mulW (pe_ix ix_tup (pv 0) pe_int (fun _ _ => rfl)) (pe_ix ix_tup (pv 1) pe_int (fun _ _ => rfl))) (pa_cons (pe_op op_mulW (pe_ix ix_tup (pv 0) pe_int (fun _ _ => rfl)) (pe_ix ix_tup (pv 1) pe_int (fun _ _ => rfl))) pa_nil))))), ?_⟩
    have nz : u * x ≠ 0 := Int.mul_ne_zero (by omega) (by omega)
    refine ⟨_, rfl, a, _, 0, .int t, rfl, rfl, ha, a0, _, rfl, c, _, 0, .int v, rfl, rfl, hc, a0, _, _, rfl, rfl, wide_mul b1 b3 (by decide) (by decide) (by decide), _, rfl, a, _, 1, .int u, rfl, rfl, ha, a1, _, rfl, c, _, 1, .int x, rfl, rfl, hc, a1, _, _, rfl, rfl, wide_mul b2 b4 (by decide) (by decide) (by decide), _, _, rfl, nz, ?_, q⟩
    exact Nat.lt_of_lt_of_le (wide_lt b2 b4) (Nat.pow_le_pow_right (by decide) (by decide))
theorem sc_divided : FnScope ["one", "other"] ["one", "other"] (defScope s_divided) := ⟨rfl, rfl, rfl, by decide +kernel, rfl, by decide +kernel, by decide +kernel⟩
theorem ok_divided {f : Addr} {fd : FuncData} (F : Fun K "divided" "divided" s_divided f fd) (c_lowest : Cal P w K mg base 2 "lowest" ["top", "bottom"] spLow) : FnOk P w K mg base CX0 3 f fd ["one", "other"] (spTwo K (fun t u v x => v ≠ 0) (fun t u v x => t * x) (fun t u v x => u * v)) := by
  refine F.ok sc_divided (fun vs H Q E h => ?_) (fun cdv A outer s H vs Q E hr h => ?_)
  · obtain ⟨a, c, t, u, v, x, rfl, _⟩ := h
    rfl
  · obtain ⟨a, c, t, u, v, x, rfl, ha, hc, pr, hu, hx, b1, b2, b3, b4, q⟩ := h
    refine ⟨_, (pss_cons (ps_if (pt_cmpR op_eq (pe_ix ix_tup (pv 1) pe_int (fun _ _ => rfl)) pe_int (nomark _)) (pss_one ps_never) pss_nil)
      (pss_one (ps_ret (pe_cal c_lowest hr (pa_cons (pe_op op_mulW (pe_ix ix_tup (pv 0) pe_int (fun _ _ => rfl)) (pe_ix ix_tup (pv 1) pe_int (fun _ _ => rfl))) (pa_cons (pe_op op_mulW (pe_ix ix_tup (pv 0) pe_int (fun _ _ => rfl)) (pe_ix ix_tup (pv 1) pe_int (fun _ _ => rfl))) pa_nil)))))), ?_⟩
    have nz : u * v ≠ 0 := Int.mul_ne_zero (by omega) pr
    refine ⟨_, rfl, c, _, 0, .int v, rfl, rfl, hc, a0, rfl, _, rfl, ite2 (fun c' => absurd (V.int.inj (toB c')) pr) (fun _ => ?_)⟩
    refine ⟨_, rfl, a, _, 0, .int t, rfl, rfl, ha, a0, _, rfl, c, _, 1, .int x, rfl, rfl, hc, a1, _, _, rfl, rfl, wide_mul b1 b4 (by decide) (by decide) (by decide), _, rfl, a, _, 1, .int u, rfl, rfl, ha, a1, _, rfl, c, _, 0, .int v, rfl, rfl, hc, a0, _, _, rfl, rfl, wide_mul b2 b3 (by decide) (by decide) (by decide), _, _, rfl, nz, ?_, q⟩
    exact Nat.lt_of_lt_of_le (wide_lt b2 b3) (Nat.pow_le_pow_right (by decide) (by decide))
theorem sc_size_of : FnScope ["one"] ["one"] (defScope s_size_of) := ⟨rfl, rfl, rfl, by decide +kernel, rfl, by decide +kernel, by decide +kernel⟩
theorem ok_size_of {f : Addr} {fd : FuncData} {k : Nat} (F : Fun K "size_of" "size_of" s_size_of f fd) (z : Zs mg) : FnOk P w K mg base CX0 (k + 1) f fd ["one"] (spSize K) := by
  refine F.ok sc_size_of (fun vs H Q E h => ?_) (fun cdv A outer s H vs Q E hr h => ?_)
  · obtain ⟨a, t, u, rfl, _⟩ := h
    rfl
  · obtain ⟨a, t, u, rfl, ha, q⟩ := h
    refine ⟨_, (pss_one (ps_ret (pe_tup (pa_cons (pe_callB call_abs (by rfl) z.abs (by decide +kernel) (pa_cons (pe_ix ix_tup (pv 0) pe_int (fun _ _ => rfl)) pa_nil)) (pa_cons (pe_ix ix_tup (pv 0) pe_int (fun _ _ => rfl)) pa_nil))))), ?_⟩
    exact ⟨_, rfl, a, _, 0, .int t, rfl, rfl, ha, a0, _, rfl, _, rfl, a, _, 1, .int u, rfl, rfl, ha, a1, (by show 2 ≤ sizeLine; decide), q⟩
theorem sc_under : FnScope ["one", "other"] ["one", "other"] (defScope s_under) := ⟨rfl, rfl, rfl, by decide +kernel, rfl, by decide +kernel, by decide +kernel⟩
theorem ok_under {f : Addr} {fd : FuncData} {k : Nat} (F : Fun K "under" "under" s_under f fd) : FnOk P w K mg base CX0 (k + 1) f fd ["one", "other"] (spUnder K) := by
  refine F.ok sc_under (fun vs H Q E h => ?_) (fun cdv A outer s H vs Q E hr h => ?_)
  · obtain ⟨a, c, t, u, v, x, rfl, _⟩ := h
    rfl
  · obtain ⟨a, c, t, u, v, x, rfl, ha, hc, b1, b2, b3, b4, q⟩ := h
    refine ⟨_, (pss_one (ps_ret (pe_cmpR op_lt (pe_op op_mulW (pe_ix ix_tup (pv 0) pe_int (fun _ _ => rfl)) (pe_ix ix_tup (pv 1) pe_int (fun _ _ => rfl))) (pe_op op_mulW (pe_ix ix_tup (pv 1) pe_int (fun _ _ => rfl)) (pe_ix ix_tup (pv 0) pe_int (fun _ _ => rfl))) (nomark _)))), ?_⟩
    exact ⟨_, rfl, a, _, 0, .int t, rfl, rfl, ha, a0, _, rfl, c, _, 1, .int x, rfl, rfl, hc, a1, _, _, rfl, rfl, wide_mul b1 b4 (by decide) (by decide) (by decide), _, rfl, c, _, 0, .int v, rfl, rfl, hc, a0, _, rfl, a, _, 1, .int u, rfl, rfl, ha, a1, _, _, rfl, rfl, wide_mul b3 b2 (by decide) (by decide) (by decide), _, _, rfl, rfl, q⟩
theorem sc_two_to : FnScope ["many"] ["many"] (defScope s_two_to) := ⟨rfl, rfl, rfl, by decide +kernel, rfl, by decide +kernel, by decide +kernel⟩
theorem ok_two_to {f : Addr} {fd : FuncData} (F : Fun K "two_to" "two_to" s_two_to f fd) (z : Zs mg) (c_is_whole : Cal P w K mg base 1 "is_whole" ["thing"] (spWhole K)) (g_GREATEST_POWER : ∃ t, mg "GREATEST_POWER" = some (.int 400 t)) : FnOk P w K mg base CX0 2 f fd ["many"] spTwoTo := by
  refine F.ok sc_two_to (fun vs H Q E h => ?_) (fun cdv A outer s H vs Q E hr h => ?_)
  · obtain ⟨m, rfl, _⟩ := h
    rfl
  · obtain ⟨m, rfl, m0, m1, q⟩ := h
    obtain ⟨tok, gP⟩ := g_GREATEST_POWER
    refine ⟨_, (pss_cons (ps_if (PW.pt (pw_or (pt_not (pt_val (pe_cal c_is_whole hr (pa_cons (pv 0) pa_nil)))) (pw_or1 (pt_cmpR op_gt (pe_callB call_abs (by rfl) z.abs (by decide +kernel) (pa_cons (pv 0) pa_nil)) (pe_glob (v := .int 400) (by rfl) gP ⟨_, rfl⟩) (nomark _))))) (pss_one ps_never) pss_nil)
      (pss_cons (ps_if (pt_cmpR op_lt (pv 0) pe_int (nomark _)) (pss_one (ps_ret (pe_tup (pa_cons pe_int (pa_cons (pe_op op_shl pe_int (pe_un un_neg (pv 0))) pa_nil))))) pss_nil)
      (pss_one (ps_ret (pe_tup (pa_cons (pe_op op_shl pe_int (pv 0)) (pa_cons pe_int pa_nil))))))), ?_⟩
    refine ⟨_, rfl, _, _, rfl, .int m, _, rfl, iteF ⟨_, rfl, _, rfl, _, _, rfl, rfl, _, rfl, ite2 (fun c => ?_) (fun c => ?_)⟩⟩
    · have := toB c
      split at this <;> omega
    · refine ⟨_, rfl, _, _, rfl, rfl, _, rfl, ite2 (fun c2 => ?_) (fun c2 => ?_)⟩
      · have hm := toB c2
        refine ⟨_, rfl, _, rfl, _, _, rfl, rfl, ⟨by omega, by omega, by decide⟩, (by show 2 ≤ sizeLine; decide), fun p hp => ?_⟩
        have e := q p hp
        unfold twoT twoB at e
        rw [if_pos hm, if_pos hm] at e
        show Q (.ref p) (upd H p (.tup [.int 1, .int (1 * 2 ^ (-m).toNat)]))
        rw [Int.one_mul]
        exact e
      · have hm := toNB c2
        refine ⟨_, rfl, _, _, rfl, rfl, ⟨by omega, by omega, by decide⟩, (by show 2 ≤ sizeLine; decide), fun p hp => ?_⟩
        have e := q p hp
        unfold twoT twoB at e
        rw [if_neg hm, if_neg hm] at e
        show Q (.ref p) (upd H p (.tup [.int (1 * 2 ^ m.toNat), .int 1]))
        rw [Int.one_mul]
        exact e
theorem sc_is_fraction : FnScope ["thing", "top", "bottom"] ["thing"] (defScope s_is_fraction) := ⟨rfl, rfl, rfl, by decide +kernel, rfl, by decide +kernel, by decide +kernel⟩
theorem ok_is_fraction {f : Addr} {fd : FuncData} (F : Fun K "is_fraction" "is_fraction" s_is_fraction f fd) (z : Zs mg) (c_is_whole : Cal P w K mg base 1 "is_whole" ["thing"] (spWhole K)) (c_shared_divisor : Cal P w K mg base 1 "shared_divisor" ["top", "bottom"] spShared) : FnOk P w K mg base CX0 2 f fd ["thing"] spIsFrac := by
  refine F.ok sc_is_fraction (fun vs H Q E h => ?_) (fun cdv A outer s H vs Q E hr h => ?_)
  · obtain ⟨a, t, u, rfl, _⟩ := h
    rfl
  · obtain ⟨a, t, u, rfl, ha, hu, q⟩ := h
    refine ⟨_, (pss_cons (ps_if (PW.pt (pw_or (pt_not (pt_val (pe_callB call_isi (by rfl) z.isinstance (by decide +kernel) (pa_cons (pv 0) (pa_cons (pe_bltn (v := .ty "tuple") (by rfl) z.tuple (by decide +kernel) rfl) pa_nil))))) (pw_or1 (pt_cmpR op_ne (pe_callB call_len_seq (by rfl) z.len PySem.boot_len (pa_cons (pv 0) pa_nil)) pe_int (nomark _))))) (pss_one (ps_ret pe_bl)) pss_nil)
      (pss_cons (ps_asg (pv 0) (pg_tup (by rfl) (pgs_cons (pg_name (i := 1) sc_is_fraction.nd rfl (.inl rfl)) (pgs_cons (pg_name (i := 2) sc_is_fraction.nd rfl (.inl rfl)) pgs_nil))))
      (pss_cons (ps_if (PW.pt (pw_or (pt_not (pt_val (pe_cal c_is_whole hr (pa_cons (pv 1) pa_nil)))) (pw_or (pt_not (pt_val (pe_cal c_is_whole hr (pa_cons (pv 2) pa_nil)))) (pw_or1 (pt_cmpR op_lt (pv 2) pe_int (nomark _)))))) (pss_one (ps_ret pe_bl)) pss_nil)
      (pss_one (ps_ret (pe_cmpR op_eq (pe_cal c_shared_divisor hr (pa_cons (pv 1) (pa_cons (pv 2) pa_nil))) pe_int (nomark _))))))), ?_⟩
    refine ⟨_, rfl, _, .ty "tuple", _, _, true, rfl, .ty _, .base (.tup ha), kit_ty (by decide +kernel), _, rfl, iteF ⟨_, rfl, a, _, rfl, .inr (SqT.of ha), rfl, _, rfl, iteF ?_⟩⟩
    refine ⟨_, rfl, a, _, rfl, SqT.of ha, rfl, _, _, rfl, _, _, rfl, rfl, ?_⟩
    refine ⟨_, rfl, _, _, rfl, .int t, _, rfl, iteF ⟨_, rfl, _, _, rfl, .int u, _, rfl, iteF ⟨_, rfl, _, _, rfl, rfl, _, rfl, ite2 (fun c => ?_) (fun c => ?_)⟩⟩⟩
    · have := toB c
      omega
    · refine ⟨_, rfl, _, rfl, t, u, rfl, by omega, rfl, ?_⟩
      have e : (decide (V.int (gI t u) = V.int 1)) = decide (gI t u = 1) := by
        by_cases h : gI t u = 1
        · rw [h]
          rfl
        · rw [decide_eq_false h, decide_eq_false (fun z => h (V.int.inj z))]
      rw [e]
      exact q
end
end E1

namespace E1
open PySem PySem.Spec PyProof.Rows L2

/-! ### the law's own helpers -/
def CDivA (_ j : Int) : Prop := j ≠ 0 ∧ j.natAbs.log2 < 9000
theorem op_fdivA {X : Cx} : OpR X (binaryOp .FloorDiv) (rI CDivA fun i j => .int (i.fdiv j)) := opI fun i j _ _ _ _ _ hc q => floordiv_int hc.1 q (.inl (PyProof.noPylong_of_log2 hc.2))
theorem wide_divA {i j : Int} {b : Nat} (h : j ≠ 0) (hb : j.natAbs < 2 ^ b) (h0 : 0 < b) (h9 : b ≤ 9000) : CDivA i j := ⟨h, Nat.lt_of_lt_of_le (PySem.Flt.log2_lt_of h0 hb) h9⟩
theorem kit2 {K : PySem.W.Frag} {t a b : String} {r1 r2 : Bool} (h1 : kitB t a = some r1) (h2 : kitB t b = some r2) : PySem.W.kitAny K (.type t) [.type a, .type b] = some (r1 || r2) := by
  refine kitAny_cons (kit_ty h1) (fun e => ?_) (fun e => ?_)
  · subst e
    refine kitAny_cons (kit_ty h2) (fun e => ?_) (fun e => ?_)
    · subst e
      rfl
    · subst e
      rfl
  · subst e
    rfl
def Flat (v : V) : Prop := (∃ i, v = .int i) ∨ ∃ b, v = .bl b
def spSame0 : Sp := fun vs H Q _ => ∃ x, vs = [x, x] ∧ Flat x ∧ ∀ H', Same H H' → Q (.bl true) H'
def spSame : Sp := fun vs H Q _ => ∃ x y, vs = [x, y] ∧ ((x = y ∧ Flat x) ∨ ∃ a c xs, x = .ref a ∧ y = .ref c ∧ (∀ v ∈ xs, Flat v) ∧ xs.length ≤ 1000 ∧ ((H a = some (.tup xs) ∧ H c = some (.tup xs)) ∨ (H a = some (.lst xs) ∧ H c = some (.lst xs)))) ∧ ∀ H', Same H H' → Q (.bl true) H'
theorem flat2 {t b : Int} : ∀ v ∈ [V.int t, V.int b], Flat v := fun v h => by
  rcases List.mem_cons.mp h with e | h
  · exact .inl ⟨_, e⟩
  · rcases List.mem_cons.mp h with e | h
    · exact .inl ⟨_, e⟩
    · cases h
/-- two tuples beside each other: as many turns as the shorter one has places -/
theorem walk_zipT {K : PySem.W.Frag} {a b : Addr} {xs ys : List V} {n : Nat} (hn : n = min xs.length ys.length) : Walk (RZ.ItzT K a b) n (fun H => SqT K H a xs ∧ SqT K H b ys) (YPair (fun i => xs[i]?) (fun i => ys[i]?)) := by
  have less : ∀ i, i < n → i < xs.length ∧ i < ys.length := fun i hi => ⟨by omega, by omega⟩
  constructor
  · intro i G hi both
    obtain ⟨hx, hy⟩ := less i hi
    exact ⟨xs, ys, xs[i]'hx, ys[i]'hy, both.1, both.2, List.getElem?_eq_getElem hx, List.getElem?_eq_getElem hy⟩
  · intro G both
    exact ⟨xs, ys, both.1, both.2, by omega⟩
  · intro i G v G' hi both told
    obtain ⟨T, l, r, e1, e2, e3, gl, gr⟩ := told
    exact ⟨T, l, r, e1, e2, e3, gl _ both.1, gr _ both.2⟩
theorem rep_map (n : Nat) : (List.replicate n true).map V.bl = List.replicate n (V.bl true) := by rw [List.map_replicate]
theorem rep_all (n : Nat) : (List.replicate n true).all id = true := by
  rw [List.all_eq_true]
  intro x h
  exact (List.mem_replicate.mp h).2
theorem rep_more (n : Nat) : List.replicate n (V.bl true) ++ [V.bl true] = List.replicate (n + 1) (V.bl true) := by rw [List.replicate_succ']
/-- all draws of one well: other things as they were, nothing new -/
structure Drw (a : Addr) (H H' : Hp) : Prop where
  but : SameBut a H H'
  new : ∀ b, H b = none → H' b = none
theorem Drw.refl (a : Addr) (H : Hp) : Drw a H H := ⟨SameBut.refl a H, fun _ h => h⟩
theorem Drw.trans {a : Addr} {H H1 H2 : Hp} (x : Drw a H H1) (y : Drw a H1 H2) : Drw a H H2 := ⟨x.but.trans y.but, fun b h => y.new b (x.new b h)⟩
def spGreat : Sp := fun vs H Q _ => ∃ (a : Addr) (c : Int), vs = [.ref a] ∧ WellAt H a c ∧ c ≤ 1000000 ∧ ∀ (r : Int) (H' : Hp), 0 ≤ r → r < 10 ^ 40 → Drw a H H' → WellAt H' a (c + 10) → Q (.int r) H'
def spDrawn : Sp := fun vs H Q _ => ∃ (a : Addr) (c : Int), vs = [.ref a] ∧ WellAt H a c ∧ c ≤ 10000 ∧ ∀ (t b : Int) (p : Addr) (H' : Hp), b ≠ 0 → t.natAbs < 2 ^ 140 → b.natAbs < 2 ^ 140 → H p = none → SameBut a H H' → H' p = some (.tup [.int t, .int b]) → WellAt H' a (c + 30) → Q (.ref p) H'
theorem lowT_div {t b : Int} (hb : b ≠ 0) : t.fdiv (if b < 0 then 0 - gI t b else gI t b) = lowT t b := by
  have g0 := gI_pos (t := t) hb
  unfold lowT
  split
  · have e := Int.neg_fdiv_neg (-t) (gI t b)
    rw [Int.neg_neg] at e
    rw [Int.zero_sub, e, Int.fdiv_eq_ediv_of_nonneg _ (by omega)]
  · rw [Int.fdiv_eq_ediv_of_nonneg _ (by omega)]
theorem lowB_div {t b : Int} (hb : b ≠ 0) : b.fdiv (if b < 0 then 0 - gI t b else gI t b) = lowB t b := by
  have g0 := gI_pos (t := t) hb
  unfold lowB
  split
  · have e := Int.neg_fdiv_neg (-b) (gI t b)
    rw [Int.neg_neg] at e
    rw [Int.zero_sub, e, Int.fdiv_eq_ediv_of_nonneg _ (by omega)]
  · rw [Int.fdiv_eq_ediv_of_nonneg _ (by omega)]
section
variable {P : Program} {w : World} {K : PySem.W.Frag} {mg : Str → Option Value} {base : Heap}
theorem sc__law_great : FnScope ["_law_well_here", "_law_sort", "_law_found", "_law_k"] ["_law_well_here"] (defScope s__law_great) := ⟨rfl, rfl, rfl, by decide +kernel, rfl, by decide +kernel, by decide +kernel⟩
theorem ok__law_great {f : Addr} {fd : FuncData} (F : Fun K "_law_great" "_law_great" s__law_great f fd) (z : Zs mg) (c__law_draw : Cal P w K mg base 1 "_law_draw" ["_law_well_here", "_law_much"] spDraw) : FnOk P w K mg base CX0 2 f fd ["_law_well_here"] spGreat := by
  refine F.ok sc__law_great (fun vs H Q E h => ?_) (fun cdv A outer s H vs Q E hr h => ?_)
  · obtain ⟨a, c, rfl, _⟩ := h
    rfl
  · obtain ⟨a, c, rfl, hw, hc, q⟩ := h
    refine ⟨_, (pss_cons (ps_set (i := 1) sc__law_great.nd rfl (.inl rfl) (pe_cal c__law_draw hr (pa_cons (pv 0) (pa_cons pe_int pa_nil))))
      (pss_cons (ps_if (pt_cmpR op_eq (pv 1) pe_int (nomark _)) (pss_one (ps_ret (pe_cal c__law_draw hr (pa_cons (pv 0) (pa_cons pe_int pa_nil))))) pss_nil)
      (pss_cons (ps_if (pt_cmpR op_eq (pv 1) pe_int (nomark _)) (pss_one (ps_ret (pe_cal c__law_draw hr (pa_cons (pv 0) (pa_cons pe_int pa_nil))))) pss_nil)
      (pss_cons (ps_set (i := 2) sc__law_great.nd rfl (.inl rfl) pe_int)
      (pss_cons (ps_for PassesOwn.never rfl (pi_range1 (by rfl) z.range (pa_cons pe_int pa_nil)) (pg_name (i := 3) sc__law_great.nd rfl (.inl rfl)) (pss_one (ps_set (i := 2) sc__law_great.nd rfl (.inl rfl) (pe_op op_add (pe_op op_mul (pv 2) (pe_op op_pow pe_int pe_int)) (pe_cal c__law_draw hr (pa_cons (pv 0) (pa_cons (pe_op op_pow pe_int pe_int) pa_nil)))))))
      (pss_one (ps_ret (pv 2)))))))), ?_⟩
    refine ⟨_, rfl, a, c, 4, rfl, hw, by omega, by decide, by decide, fun s0 H1 s1 s2 d1 d1' w1 => ?_⟩
    have D1 : Drw a H H1 := ⟨d1, d1'⟩
    refine ⟨_, rfl, rfl, _, rfl, ite2 (fun e => ?_) (fun e => ?_)⟩
    · refine ⟨_, rfl, a, c + 1, 4, rfl, w1, by omega, by decide, by decide, fun r H2 r0 r1 d2 d2' w2 => ?_⟩
      exact q r H2 r0 (Int.lt_of_lt_of_le r1 (by decide)) (D1.trans ⟨d2, d2'⟩) (w2.mono (by omega))
    · refine ⟨_, rfl, rfl, _, rfl, ite2 (fun e => ?_) (fun e => ?_)⟩
      · refine ⟨_, rfl, a, c + 1, 1000, rfl, w1, by omega, by decide, by decide, fun r H2 r0 r1 d2 d2' w2 => ?_⟩
        exact q r H2 r0 (Int.lt_of_lt_of_le r1 (by decide)) (D1.trans ⟨d2, d2'⟩) (w2.mono (by omega))
      · refine ⟨5, rfl, by decide, by decide, for_range (n := 5) (fun i σ H' => ∃ (v : Int) (y : Option V), σ = [some (.ref a), some (.int s0), some (.int v), y] ∧ 0 ≤ v ∧ v < 10 ^ (8 * i) ∧ Drw a H H' ∧ WellAt H' a (c + 1 + i)) ⟨0, none, rfl, Int.le_refl _, by decide, D1, w1.mono (by omega)⟩ (fun i σ H2 hi hP => ?_) (fun σ H2 hP => ?_)⟩
        · obtain ⟨v, y, rfl, v0, v1, D2, w2⟩ := hP
          refine ⟨_, rfl, _, _, rfl, rfl, ⟨by decide, by decide, by decide⟩, _, _, rfl, rfl, .inr ⟨by decide, by decide⟩, _, rfl, _, _, rfl, rfl, ⟨by decide, by decide, by decide⟩, a, c + 1 + i, _, rfl, w2, by omega, by decide, by decide, fun r H3 r0 r1 d3 d3' w3 => ?_⟩
          refine ⟨_, _, rfl, rfl, ⟨_, _, rfl, ?_, ?_, D2.trans ⟨d3, d3'⟩, w3.mono (by omega)⟩⟩
          · exact Int.add_nonneg (Int.mul_nonneg v0 (by decide)) r0
          · have e8 : (10 : Int) ^ (8 * (i + 1)) = 10 ^ (8 * i) * 100000000 := by
              rw [show 8 * (i + 1) = 8 * i + 8 by omega, Int.pow_add]
              rfl
            rw [e8]
            have h1 : v + 1 ≤ 10 ^ (8 * i) := by omega
            have h2 : (v + 1) * 100000000 ≤ 10 ^ (8 * i) * 100000000 := Int.mul_le_mul_of_nonneg_right h1 (by decide)
            have h3 : r < 100000000 := r1
            show v * 100000000 + r < 10 ^ (8 * i) * 100000000
            omega
        · obtain ⟨v, y, rfl, v0, v1, D2, w2⟩ := hP
          exact ⟨_, rfl, q v H2 v0 v1 D2 (w2.mono (by omega))⟩
theorem sc__law_same : FnScope ["_law_found", "_law_due", "_law_this", "_law_that"] ["_law_found", "_law_due"] (defScope s__law_same) := ⟨rfl, rfl, rfl, by decide +kernel, rfl, by decide +kernel, by decide +kernel⟩
theorem ok_same0 {f : Addr} {fd : FuncData} {k : Nat} (F : Fun K "_law_same" "_law_same" s__law_same f fd) (z : Zs mg) : FnOk P w K mg base CX0 (k + 1) f fd ["_law_found", "_law_due"] spSame0 := by
  refine F.ok sc__law_same (fun vs H Q E h => ?_) (fun cdv A outer s H vs Q E hr h => ?_)
  · obtain ⟨x, rfl, _⟩ := h
    rfl
  · obtain ⟨x, rfl, hf, q⟩ := h
    refine ⟨_, (pss_cons (ps_if (pt_val (pe_callB call_isiT (by rfl) z.isinstance (by decide +kernel) (pa_cons (pv 1) (pa_cons (pe_tup (pa_cons (pe_bltn (v := .ty "list") (by rfl) z.list (by decide +kernel) rfl) (pa_cons (pe_bltn (v := .ty "tuple") (by rfl) z.tuple (by decide +kernel) rfl) pa_nil))) pa_nil)))) (pss_cons ps_never (pss_one ps_never)) pss_nil) (pss_cons (ps_if (pt_val (pe_callB call_isi (by rfl) z.isinstance (by decide +kernel) (pa_cons (pv 1) (pa_cons (pe_bltn (v := .ty "bool") (by rfl) z.bool (by decide +kernel) rfl) pa_nil)))) (pss_one (ps_ret (pe_and (pe_callB call_isi (by rfl) z.isinstance (by decide +kernel) (pa_cons (pv 0) (pa_cons (pe_bltn (v := .ty "bool") (by rfl) z.bool (by decide +kernel) rfl) pa_nil))) (pe_one (pe_cmpR op_eq (pv 0) (pv 1) (nomark _)))))) pss_nil)
      (pss_one (ps_ret (pe_and (pe_callB call_isi (by rfl) z.isinstance (by decide +kernel) (pa_cons (pv 0) (pa_cons (pe_bltn (v := .ty "int") (by rfl) z.int (by decide +kernel) rfl) pa_nil))) (pe_and (pe_not (pe_callB call_isi (by rfl) z.isinstance (by decide +kernel) (pa_cons (pv 0) (pa_cons (pe_bltn (v := .ty "bool") (by rfl) z.bool (by decide +kernel) rfl) pa_nil)))) (pe_one (pe_cmpR op_eq (pv 0) (pv 1) (nomark _))))))))), ?_⟩
    rcases hf with ⟨i, rfl⟩ | ⟨b, rfl⟩
    · refine ⟨_, rfl, (by show 2 ≤ sizeLine; decide), fun p hp => ⟨_, p, _, _, _, false, rfl, upd_same, .cons (.ty _) (.cons (.ty _) .nil), .base (.int i), kit2 (t := "int") (a := "list") (b := "tuple") (r1 := false) (r2 := false) (by decide +kernel) (by decide +kernel), _, rfl, iteF ?_⟩⟩
      refine ⟨_, rfl, _, .ty "bool", _, _, false, rfl, .ty _, .base (.int i), kit_ty (by decide +kernel), _, rfl, iteF ?_⟩
      refine ⟨_, rfl, _, .ty "int", _, _, true, rfl, .ty _, .base (.int i), kit_ty (by decide +kernel), _, rfl, iteT ⟨_, rfl, _, .ty "bool", _, _, false, rfl, .ty _, .base (.int i), kit_ty (by decide +kernel), _, rfl, _, rfl, iteT ⟨_, rfl, _, rfl, rfl, ?_⟩⟩⟩
      rw [decide_eq_true rfl]
      exact q _ (same_new hp)
    · refine ⟨_, rfl, (by show 2 ≤ sizeLine; decide), fun p hp => ⟨_, p, _, _, _, false, rfl, upd_same, .cons (.ty _) (.cons (.ty _) .nil), .base (.bl b), kit2 (t := "bool") (a := "list") (b := "tuple") (r1 := false) (r2 := false) (by decide +kernel) (by decide +kernel), _, rfl, iteF ?_⟩⟩
      refine ⟨_, rfl, _, .ty "bool", _, _, true, rfl, .ty _, .base (.bl b), kit_ty (by decide +kernel), _, rfl, iteT ?_⟩
      refine ⟨_, rfl, _, .ty "bool", _, _, true, rfl, .ty _, .base (.bl b), kit_ty (by decide +kernel), _, rfl, iteT ⟨_, rfl, _, rfl, rfl, ?_⟩⟩
      rw [decide_eq_true rfl]
      exact q _ (same_new hp)

theorem ok__law_same {f : Addr} {fd : FuncData} (F : Fun K "_law_same" "_law_same" s__law_same f fd) (z : Zs mg) (c_same0 : Cal P w K mg base 1 "_law_same" ["_law_found", "_law_due"] spSame0) : FnOk P w K mg base CX0 2 f fd ["_law_found", "_law_due"] spSame := by
  refine F.ok sc__law_same (fun vs H Q E h => ?_) (fun cdv A outer s H vs Q E hr h => ?_)
  · obtain ⟨x, y, rfl, _⟩ := h
    rfl
  · obtain ⟨x, y, rfl, hh, q⟩ := h
    rcases hh with ⟨rfl, hf⟩ | ⟨a, c, xs, rfl, rfl, hx, hlen, hk⟩
    · -- flat
      refine ⟨_, (pss_cons (ps_if (pt_val (pe_callB call_isiT (by rfl) z.isinstance (by decide +kernel) (pa_cons (pv 1) (pa_cons (pe_tup (pa_cons (pe_bltn (v := .ty "list") (by rfl) z.list (by decide +kernel) rfl) (pa_cons (pe_bltn (v := .ty "tuple") (by rfl) z.tuple (by decide +kernel) rfl) pa_nil))) pa_nil)))) (pss_cons ps_never (pss_one ps_never)) pss_nil) (pss_cons (ps_if (pt_val (pe_callB call_isi (by rfl) z.isinstance (by decide +kernel) (pa_cons (pv 1) (pa_cons (pe_bltn (v := .ty "bool") (by rfl) z.bool (by decide +kernel) rfl) pa_nil)))) (pss_one (ps_ret (pe_and (pe_callB call_isi (by rfl) z.isinstance (by decide +kernel) (pa_cons (pv 0) (pa_cons (pe_bltn (v := .ty "bool") (by rfl) z.bool (by decide +kernel) rfl) pa_nil))) (pe_one (pe_cmpR op_eq (pv 0) (pv 1) (nomark _)))))) pss_nil)
      (pss_one (ps_ret (pe_and (pe_callB call_isi (by rfl) z.isinstance (by decide +kernel) (pa_cons (pv 0) (pa_cons (pe_bltn (v := .ty "int") (by rfl) z.int (by decide +kernel) rfl) pa_nil))) (pe_and (pe_not (pe_callB call_isi (by rfl) z.isinstance (by decide +kernel) (pa_cons (pv 0) (pa_cons (pe_bltn (v := .ty "bool") (by rfl) z.bool (by decide +kernel) rfl) pa_nil)))) (pe_one (pe_cmpR op_eq (pv 0) (pv 1) (nomark _))))))))), ?_⟩
      rcases hf with ⟨i, rfl⟩ | ⟨b, rfl⟩
      · refine ⟨_, rfl, (by show 2 ≤ sizeLine; decide), fun p hp => ⟨_, p, _, _, _, false, rfl, upd_same, .cons (.ty _) (.cons (.ty _) .nil), .base (.int i), kit2 (t := "int") (a := "list") (b := "tuple") (r1 := false) (r2 := false) (by decide +kernel) (by decide +kernel), _, rfl, iteF ?_⟩⟩
        refine ⟨_, rfl, _, .ty "bool", _, _, false, rfl, .ty _, .base (.int i), kit_ty (by decide +kernel), _, rfl, iteF ?_⟩
        refine ⟨_, rfl, _, .ty "int", _, _, true, rfl, .ty _, .base (.int i), kit_ty (by decide +kernel), _, rfl, iteT ⟨_, rfl, _, .ty "bool", _, _, false, rfl, .ty _, .base (.int i), kit_ty (by decide +kernel), _, rfl, _, rfl, iteT ⟨_, rfl, _, rfl, rfl, ?_⟩⟩⟩
        rw [decide_eq_true rfl]
        exact q _ (same_new hp)
      · refine ⟨_, rfl, (by show 2 ≤ sizeLine; decide), fun p hp => ⟨_, p, _, _, _, false, rfl, upd_same, .cons (.ty _) (.cons (.ty _) .nil), .base (.bl b), kit2 (t := "bool") (a := "list") (b := "tuple") (r1 := false) (r2 := false) (by decide +kernel) (by decide +kernel), _, rfl, iteF ?_⟩⟩
        refine ⟨_, rfl, _, .ty "bool", _, _, true, rfl, .ty _, .base (.bl b), kit_ty (by decide +kernel), _, rfl, iteT ?_⟩
        refine ⟨_, rfl, _, .ty "bool", _, _, true, rfl, .ty _, .base (.bl b), kit_ty (by decide +kernel), _, rfl, iteT ⟨_, rfl, _, rfl, rfl, ?_⟩⟩
        rw [decide_eq_true rfl]
        exact q _ (same_new hp)
    · rcases hk with ⟨h1, h2⟩ | ⟨h1, h2⟩
      · refine ⟨_, (pss_cons (ps_if (pt_val (pe_callB call_isiT (by rfl) z.isinstance (by decide +kernel) (pa_cons (pv 1) (pa_cons (pe_tup (pa_cons (pe_bltn (v := .ty "list") (by rfl) z.list (by decide +kernel) rfl) (pa_cons (pe_bltn (v := .ty "tuple") (by rfl) z.tuple (by decide +kernel) rfl) pa_nil))) pa_nil)))) (pss_cons (ps_if (PW.pt (pw_or (pt_cmpR op_ne (pe_callB call_isi (by rfl) z.isinstance (by decide +kernel) (pa_cons (pv 1) (pa_cons (pe_bltn (v := .ty "list") (by rfl) z.list (by decide +kernel) rfl) pa_nil))) (pe_callB call_isi (by rfl) z.isinstance (by decide +kernel) (pa_cons (pv 0) (pa_cons (pe_bltn (v := .ty "list") (by rfl) z.list (by decide +kernel) rfl) pa_nil))) (nomark _)) (pw_or1 (pt_cmpR op_ne (pe_callB call_isi (by rfl) z.isinstance (by decide +kernel) (pa_cons (pv 1) (pa_cons (pe_bltn (v := .ty "tuple") (by rfl) z.tuple (by decide +kernel) rfl) pa_nil))) (pe_callB call_isi (by rfl) z.isinstance (by decide +kernel) (pa_cons (pv 0) (pa_cons (pe_bltn (v := .ty "tuple") (by rfl) z.tuple (by decide +kernel) rfl) pa_nil))) (nomark _))))) (pss_one (ps_ret pe_bl)) pss_nil)
      (pss_one (ps_ret (pe_and (pe_cmpR op_eq (pe_callB call_len_seq (by rfl) z.len PySem.boot_len (pa_cons (pv 0) pa_nil)) (pe_callB call_len_seq (by rfl) z.len PySem.boot_len (pa_cons (pv 1) pa_nil)) (nomark _)) (pe_one (pe_callB (cr_all rfl) (by rfl) z.all (by decide +kernel) (pa_cons (pe_lc (own := [("_law_this", 2), ("_law_that", 3)]) (g := gTup K 2 (gCons (gName 2) (gCons (gName 3) gNil))) (tt := tYes) (by rfl) sc__law_same.nd (RZ.pi_zipA (by rfl) z.zip (pa_cons (pv 0) (pa_cons (pv 1) pa_nil))) (blkOk_by (own := [("_law_this", 2), ("_law_that", 3)]) (N := ["_law_found", "_law_due", "_law_this", "_law_that"]) (sc := defScope s__law_same) (by decide +kernel)) (fun _ _ _ _ _ => by exact (pg_tup (by rfl) (pgs_cons (pg_name (i := 2) sc__law_same.nd rfl (.inl rfl)) (pgs_cons (pg_name (i := 3) sc__law_same.nd rfl (.inl rfl)) pgs_nil)))) (fun _ _ _ _ _ => by exact pts_nil) (fun _ _ _ _ _ => by exact (pe_cal c_same0 hr (pa_cons (pv 2) (pa_cons (pv 3) pa_nil))))) pa_nil))))))) pss_nil) (pss_cons ps_never (pss_one ps_never))), ?_⟩
        refine ⟨_, rfl, (by show 2 ≤ sizeLine; decide), fun p hp => ⟨_, p, _, _, _, true, rfl, upd_same, .cons (.ty _) (.cons (.ty _) .nil), .base (.tup (same_new hp _ _ h2)), kit2 (t := "tuple") (a := "list") (b := "tuple") (r1 := false) (r2 := true) (by decide +kernel) (by decide +kernel), _, rfl, iteT ?_⟩⟩
        have s1 : Same H (upd H p (.tup [V.ty "list", V.ty "tuple"])) := same_new hp
        have k1 := s1 _ _ h1
        have k2 := s1 _ _ h2
        refine ⟨_, rfl, _, .ty "list", _, _, false, rfl, .ty _, .base (.tup k2), kit_ty (by decide +kernel), _, rfl, _, .ty "list", _, _, false, rfl, .ty _, .base (.tup k1), kit_ty (by decide +kernel), rfl, _, rfl, iteNS rfl ?_⟩
        refine ⟨_, rfl, _, .ty "tuple", _, _, true, rfl, .ty _, .base (.tup k2), kit_ty (by decide +kernel), _, rfl, _, .ty "tuple", _, _, true, rfl, .ty _, .base (.tup k1), kit_ty (by decide +kernel), rfl, _, rfl, iteNS rfl ?_⟩
        refine ⟨_, rfl, a, xs, rfl, .inr (SqT.of k1), _, rfl, c, xs, rfl, .inr (SqT.of k2), rfl, _, rfl, ?_⟩
        rw [decide_eq_true rfl]
        refine iteT ⟨_, rfl, _, rfl, a, c, xs, xs, rfl, .inr ⟨SqT.of k1, SqT.of k2, fun D hD => ?_⟩⟩
        refine lc_it (walk_zipT (K := K) (a := a) (b := c) (xs := xs) (ys := xs) rfl) (fun i H2 => Same (upd H p (.tup [V.ty "list", V.ty "tuple"])) H2 ∧ H2 D = some (.lst (List.replicate i (V.bl true))))
          ⟨same_new hD, upd_same⟩ (fun i H2 _ hP => ⟨SqT.of (hP.1 _ _ k1), SqT.of (hP.1 _ _ k2)⟩) (fun i x H2 H3 hi hP hY => ?_) (fun H2 hP => ?_)
        · obtain ⟨s2, hD2⟩ := hP
          obtain ⟨Tp, u, v, rfl, nT, rfl, e1, e2⟩ := hY
          have euv : u = v := Option.some.inj (e1.symm.trans e2)
          subst euv
          have fu : Flat u := hx u (List.mem_of_getElem? e1)
          refine ⟨Tp, [u, u], rfl, SqT.of upd_same, rfl, _, _, rfl, _, _, rfl, rfl, rfl, ?_⟩
          refine ⟨_, rfl, _, rfl, u, rfl, fu, fun H4 s4 => ?_⟩
          have s5 : Same H2 H4 := (same_new nT).trans s4
          have hil : i < 1001 := by
            rw [Nat.min_self] at hi
            omega
          refine ⟨_, s5 _ _ hD2, ?_, fun b o e => ?_, ?_⟩
          · rw [List.length_replicate]
            exact small1000 (by omega)
          · rw [upd_ne (ne_of_none e hD)]
            exact s5 _ _ (s2 _ _ e)
          · rw [upd_same, rep_more]
        · obtain ⟨s2, hD2⟩ := hP
          refine ⟨D, List.replicate _ true, rfl, SqL.of (by rw [rep_map]; exact hD2), ?_⟩
          rw [rep_all]
          exact q _ (s1.trans s2)
      · refine ⟨_, (pss_cons (ps_if (pt_val (pe_callB call_isiT (by rfl) z.isinstance (by decide +kernel) (pa_cons (pv 1) (pa_cons (pe_tup (pa_cons (pe_bltn (v := .ty "list") (by rfl) z.list (by decide +kernel) rfl) (pa_cons (pe_bltn (v := .ty "tuple") (by rfl) z.tuple (by decide +kernel) rfl) pa_nil))) pa_nil)))) (pss_cons (ps_if (PW.pt (pw_or (pt_cmpR op_ne (pe_callB call_isi (by rfl) z.isinstance (by decide +kernel) (pa_cons (pv 1) (pa_cons (pe_bltn (v := .ty "list") (by rfl) z.list (by decide +kernel) rfl) pa_nil))) (pe_callB call_isi (by rfl) z.isinstance (by decide +kernel) (pa_cons (pv 0) (pa_cons (pe_bltn (v := .ty "list") (by rfl) z.list (by decide +kernel) rfl) pa_nil))) (nomark _)) (pw_or1 (pt_cmpR op_ne (pe_callB call_isi (by rfl) z.isinstance (by decide +kernel) (pa_cons (pv 1) (pa_cons (pe_bltn (v := .ty "tuple") (by rfl) z.tuple (by decide +kernel) rfl) pa_nil))) (pe_callB call_isi (by rfl) z.isinstance (by decide +kernel) (pa_cons (pv 0) (pa_cons (pe_bltn (v := .ty "tuple") (by rfl) z.tuple (by decide +kernel) rfl) pa_nil))) (nomark _))))) (pss_one (ps_ret pe_bl)) pss_nil)
      (pss_one (ps_ret (pe_and (pe_cmpR op_eq (pe_callB call_len_seq (by rfl) z.len PySem.boot_len (pa_cons (pv 0) pa_nil)) (pe_callB call_len_seq (by rfl) z.len PySem.boot_len (pa_cons (pv 1) pa_nil)) (nomark _)) (pe_one (pe_callB (cr_all rfl) (by rfl) z.all (by decide +kernel) (pa_cons (pe_lc (own := [("_law_this", 2), ("_law_that", 3)]) (g := gTup K 2 (gCons (gName 2) (gCons (gName 3) gNil))) (tt := tYes) (by rfl) sc__law_same.nd (RZ.pi_zipA (by rfl) z.zip (pa_cons (pv 0) (pa_cons (pv 1) pa_nil))) (blkOk_by (own := [("_law_this", 2), ("_law_that", 3)]) (N := ["_law_found", "_law_due", "_law_this", "_law_that"]) (sc := defScope s__law_same) (by decide +kernel)) (fun _ _ _ _ _ => by exact (pg_tup (by rfl) (pgs_cons (pg_name (i := 2) sc__law_same.nd rfl (.inl rfl)) (pgs_cons (pg_name (i := 3) sc__law_same.nd rfl (.inl rfl)) pgs_nil)))) (fun _ _ _ _ _ => by exact pts_nil) (fun _ _ _ _ _ => by exact (pe_cal c_same0 hr (pa_cons (pv 2) (pa_cons (pv 3) pa_nil))))) pa_nil))))))) pss_nil) (pss_cons ps_never (pss_one ps_never))), ?_⟩
        refine ⟨_, rfl, (by show 2 ≤ sizeLine; decide), fun p hp => ⟨_, p, _, _, _, true, rfl, upd_same, .cons (.ty _) (.cons (.ty _) .nil), .base (.lst (same_new hp _ _ h2)), kit2 (t := "list") (a := "list") (b := "tuple") (r1 := true) (r2 := false) (by decide +kernel) (by decide +kernel), _, rfl, iteT ?_⟩⟩
        have s1 : Same H (upd H p (.tup [V.ty "list", V.ty "tuple"])) := same_new hp
        have k1 := s1 _ _ h1
        have k2 := s1 _ _ h2
        refine ⟨_, rfl, _, .ty "list", _, _, true, rfl, .ty _, .base (.lst k2), kit_ty (by decide +kernel), _, rfl, _, .ty "list", _, _, true, rfl, .ty _, .base (.lst k1), kit_ty (by decide +kernel), rfl, _, rfl, iteNS rfl ?_⟩
        refine ⟨_, rfl, _, .ty "tuple", _, _, false, rfl, .ty _, .base (.lst k2), kit_ty (by decide +kernel), _, rfl, _, .ty "tuple", _, _, false, rfl, .ty _, .base (.lst k1), kit_ty (by decide +kernel), rfl, _, rfl, iteNS rfl ?_⟩
        refine ⟨_, rfl, a, xs, rfl, .inl (SqL.of k1), _, rfl, c, xs, rfl, .inl (SqL.of k2), rfl, _, rfl, ?_⟩
        rw [decide_eq_true rfl]
        refine iteT ⟨_, rfl, _, rfl, a, c, xs, xs, rfl, .inl ⟨SqL.of k1, SqL.of k2, fun D hD => ?_⟩⟩
        refine lc_it (walk_zip (K := K) (a := a) (b := c) (xs := xs) (ys := xs) rfl) (fun i H2 => Same (upd H p (.tup [V.ty "list", V.ty "tuple"])) H2 ∧ H2 D = some (.lst (List.replicate i (V.bl true))))
          ⟨same_new hD, upd_same⟩ (fun i H2 _ hP => ⟨SqL.of (hP.1 _ _ k1), SqL.of (hP.1 _ _ k2)⟩) (fun i x H2 H3 hi hP hY => ?_) (fun H2 hP => ?_)
        · obtain ⟨s2, hD2⟩ := hP
          obtain ⟨Tp, u, v, rfl, nT, rfl, e1, e2⟩ := hY
          have euv : u = v := Option.some.inj (e1.symm.trans e2)
          subst euv
          have fu : Flat u := hx u (List.mem_of_getElem? e1)
          refine ⟨Tp, [u, u], rfl, SqT.of upd_same, rfl, _, _, rfl, _, _, rfl, rfl, rfl, ?_⟩
          refine ⟨_, rfl, _, rfl, u, rfl, fu, fun H4 s4 => ?_⟩
          have s5 : Same H2 H4 := (same_new nT).trans s4
          have hil : i < 1001 := by
            rw [Nat.min_self] at hi
            omega
          refine ⟨_, s5 _ _ hD2, ?_, fun b o e => ?_, ?_⟩
          · rw [List.length_replicate]
            exact small1000 (by omega)
          · rw [upd_ne (ne_of_none e hD)]
            exact s5 _ _ (s2 _ _ e)
          · rw [upd_same, rep_more]
        · obtain ⟨s2, hD2⟩ := hP
          refine ⟨D, List.replicate _ true, rfl, SqL.of (by rw [rep_map]; exact hD2), ?_⟩
          rw [rep_all]
          exact q _ (s1.trans s2)

theorem sc__law_low : FnScope ["_law_upper", "_law_base", "_law_this", "_law_that"] ["_law_upper", "_law_base"] (defScope s__law_low) := ⟨rfl, rfl, rfl, by decide +kernel, rfl, by decide +kernel, by decide +kernel⟩
theorem ok__law_low {f : Addr} {fd : FuncData} {k : Nat} (F : Fun K "_law_low" "_law_low" s__law_low f fd) (z : Zs mg) : FnOk P w K mg base CX0 (k + 1) f fd ["_law_upper", "_law_base"] spLow := by
  refine F.ok sc__law_low (fun vs H Q E h => ?_) (fun cdv A outer s H vs Q E hr h => ?_)
  · obtain ⟨t, b, rfl, _⟩ := h
    rfl
  · obtain ⟨t, b, rfl, hb, hl, q⟩ := h
    refine ⟨_, (pss_cons (ps_set (i := 2) sc__law_low.nd rfl (.inl rfl) (pe_callB call_abs (by rfl) z.abs (by decide +kernel) (pa_cons (pv 0) pa_nil)))
      (pss_cons (ps_set (i := 3) sc__law_low.nd rfl (.inl rfl) (pe_callB call_abs (by rfl) z.abs (by decide +kernel) (pa_cons (pv 1) pa_nil)))
      (pss_cons (ps_while PassesOwn.never (pt_cmpR op_gt (pv 3) pe_int (nomark _)) (pss_one (ps_par (i := 2) (j := 3) (by rfl) sc__law_low.nd rfl rfl (by decide) rfl rfl (pa_cons (pv 3) (pa_cons (pe_op op_mod (pv 2) (pv 3)) pa_nil)) (by rfl))))
      (pss_cons (ps_if (pt_cmpR op_lt (pv 1) pe_int (nomark _)) (pss_one (ps_set (i := 2) sc__law_low.nd rfl (.inl rfl) (pe_op op_sub pe_int (pv 2)))) pss_nil)
      (pss_one (ps_ret (pe_tup (pa_cons (pe_op op_fdivA (pv 0) (pv 2)) (pa_cons (pe_op op_fdivA (pv 1) (pv 2)) pa_nil))))))))), ?_⟩
    have g0 := gI_pos (t := t) hb
    have g1 : (gI t b).natAbs < 2 ^ 4000 := Nat.lt_of_le_of_lt (gI_le hb) hl
    refine ⟨_, rfl, _, rfl, ?_⟩
    refine ⟨_, rfl, _, rfl, ?_⟩
    dsimp only [gName, tSeq]
    refine while_by (fun σ H' => H' = H ∧ ∃ m n : Nat, σ = [some (.int t), some (.int b), some (.int (m : Int)), some (.int (n : Int))] ∧ Nat.gcd m n = Int.gcd t b)
      (fun σ _ => match σ with | [_, _, _, some (.int r)] => r.toNat | _ => 0) ⟨rfl, t.natAbs, b.natAbs, ?_, rfl⟩ (fun σ H1 hP => ?_) (fun σ H Q Q' m hh => ?_)
    · have e1 : (if t < 0 then -t else t) = (t.natAbs : Int) := by split <;> omega
      have e2 : (if b < 0 then -b else b) = (b.natAbs : Int) := by split <;> omega
      show [some (V.int t), some (V.int b), some (V.int (if t < 0 then -t else t)), some (V.int (if b < 0 then -b else b))] = _
      rw [e1, e2]
    · obtain ⟨rfl, m, n, rfl, hg⟩ := hP
      refine ⟨_, rfl, _, _, rfl, rfl, _, rfl, ite2 (fun c => ?_) (fun c => ?_)⟩
      · have hn := toB c
        refine ⟨_, rfl, _, rfl, _, rfl, _, _, rfl, rfl, (by omega), _, _, rfl, ⟨⟨rfl, n, m % n, rfl, ?_⟩, ?_⟩⟩
        · rw [← hg, Nat.gcd_comm n (m % n), ← Nat.gcd_rec n m, Nat.gcd_comm]
        · show ((m : Int) % (n : Int)).toNat < ((n : Int)).toNat
          have := Int.emod_lt_of_pos (m : Int) (show (0 : Int) < n by omega)
          have := Int.emod_nonneg (m : Int) (show (n : Int) ≠ 0 by omega)
          omega
      · have hn := toNB c
        have e0 : n = 0 := by omega
        subst e0
        rw [Nat.gcd_zero_right] at hg
        have e2 : (m : Int) = gI t b := by
          unfold gI
          rw [hg]
        have l1 := lowT_div (t := t) hb
        have l2 := lowB_div (t := t) hb
        refine ⟨_, rfl, _, _, rfl, rfl, _, rfl, ite2 (fun c => ?_) (fun c => ?_)⟩
        · have hc := toB c
          rw [if_pos hc] at l1 l2
          have g2 : (0 - gI t b).natAbs < 2 ^ 4000 := by
            rw [Int.zero_sub, Int.natAbs_neg]
            exact g1
          rw [e2]
          refine ⟨_, rfl, _, _, rfl, rfl, ?_⟩
          refine ⟨_, rfl, _, rfl, _, _, rfl, rfl, wide_divA (by omega) g2 (by decide) (by decide), _, rfl, _, rfl, _, _, rfl, rfl, wide_divA (by omega) g2 (by decide) (by decide), (by show 2 ≤ sizeLine; decide), fun p hp => ?_⟩
          have := q p hp
          rw [← l1, ← l2] at this
          exact this
        · have hc := toNB c
          rw [if_neg hc] at l1 l2
          rw [e2]
          refine ⟨_, rfl, _, rfl, _, _, rfl, rfl, wide_divA (by omega) g1 (by decide) (by decide), _, rfl, _, rfl, _, _, rfl, rfl, wide_divA (by omega) g1 (by decide) (by decide), (by show 2 ≤ sizeLine; decide), fun p hp => ?_⟩
          have := q p hp
          rw [← l1, ← l2] at this
          exact this
    · obtain ⟨v, e, i, j, e1, e2, kk, ek, hq⟩ := hh
      exact ⟨v, e, i, j, e1, e2, kk, ek, m _ _ hq⟩
theorem sc__law_drawn : FnScope ["_law_well_here", "_law_upper", "_law_base"] ["_law_well_here"] (defScope s__law_drawn) := ⟨rfl, rfl, rfl, by decide +kernel, rfl, by decide +kernel, by decide +kernel⟩
theorem ok__law_drawn {f : Addr} {fd : FuncData} (F : Fun K "_law_drawn" "_law_drawn" s__law_drawn f fd) (c__law_draw : Cal P w K mg base 1 "_law_draw" ["_law_well_here", "_law_much"] spDraw) (c__law_great : Cal P w K mg base 2 "_law_great" ["_law_well_here"] spGreat) : FnOk P w K mg base CX0 3 f fd ["_law_well_here"] spDrawn := by
  refine F.ok sc__law_drawn (fun vs H Q E h => ?_) (fun cdv A outer s H vs Q E hr h => ?_)
  · obtain ⟨a, c, rfl, _⟩ := h
    rfl
  · obtain ⟨a, c, rfl, hw, hc, q⟩ := h
    refine ⟨_, (pss_cons (ps_set (i := 1) sc__law_drawn.nd rfl (.inl rfl) (pe_op op_mul (pe_cal c__law_great hr (pa_cons (pv 0) pa_nil)) (pe_op op_sub pe_int (pe_op op_mul pe_int (pe_cal c__law_draw hr (pa_cons (pv 0) (pa_cons pe_int pa_nil)))))))
      (pss_cons (ps_set (i := 2) sc__law_drawn.nd rfl (.inl rfl) (pe_op op_mul (pe_op op_add pe_int (pe_cal c__law_great hr (pa_cons (pv 0) pa_nil))) (pe_op op_sub pe_int (pe_op op_mul pe_int (pe_cal c__law_draw hr (pa_cons (pv 0) (pa_cons pe_int pa_nil)))))))
      (pss_one (ps_ret (pe_tup (pa_cons (pv 1) (pa_cons (pv 2) pa_nil))))))), ?_⟩
    refine ⟨_, rfl, a, c, rfl, hw, by omega, fun r1 H1 r10 r11 D1 w1 => ?_⟩
    refine ⟨_, rfl, a, c + 10, 2, rfl, w1, by omega, by decide, by decide, fun x1 H2 x10 x11 d2 d2' w2 => ?_⟩
    have D2 : Drw a H H2 := D1.trans ⟨d2, d2'⟩
    refine ⟨_, _, rfl, rfl, .inl ⟨by decide, by decide⟩, _, _, rfl, rfl, _, _, rfl, rfl, .inr ⟨by omega, by omega⟩, ?_⟩
    refine ⟨_, rfl, a, c + 10 + 1, rfl, w2, by omega, fun r2 H3 r20 r21 D3 w3 => ?_⟩
    refine ⟨_, _, rfl, rfl, _, rfl, a, c + 10 + 1 + 10, 2, rfl, w3, by omega, by decide, by decide, fun x2 H4 x20 x21 d4 d4' w4 => ?_⟩
    have D4 : Drw a H H4 := (D2.trans D3).trans ⟨d4, d4'⟩
    refine ⟨_, _, rfl, rfl, .inl ⟨by decide, by decide⟩, _, _, rfl, rfl, _, _, rfl, rfl, .inr ⟨by omega, by omega⟩, ?_⟩
    refine ⟨_, rfl, _, rfl, (by show 2 ≤ sizeLine; decide), fun p hp => ?_⟩
    have e1 : 1 - 2 * x1 = 1 ∨ 1 - 2 * x1 = -1 := by omega
    have e2 : 1 - 2 * x2 = 1 ∨ 1 - 2 * x2 = -1 := by omega
    have hpn : H p = none := by
      cases hh : H p with
      | none => rfl
      | some o =>
        by_cases ep : p = a
        · subst ep
          obtain ⟨_, _, _, z, _⟩ := w4
          rw [hp] at z
          cases z
        · rw [D4.but _ _ ep hh] at hp
          cases hp
    have big : (10 : Int) ^ 40 < 2 ^ 140 := by decide
    have nab : ∀ {x y : Int}, 0 ≤ x → x ≤ 10 ^ 40 → (y = 1 ∨ y = -1) → (x * y).natAbs < 2 ^ 140 := fun {x y} h0 h1 hy => by
      have e : (x * y).natAbs = x.natAbs := by
        rw [Int.natAbs_mul]
        rcases hy with rfl | rfl
        · exact Nat.mul_one _
        · exact Nat.mul_one _
      rw [e]
      have : (x.natAbs : Int) < 2 ^ 140 := by
        rw [Int.natAbs_of_nonneg h0]
        exact Int.lt_of_le_of_lt h1 big
      exact_mod_cast this
    refine q _ _ p _ ?_ (nab r10 (by omega) e1) (nab (by omega) (by omega) e2) hpn (D4.but.trans (SameBut.of (same_new hp))) upd_same ((w4.same (same_new hp)).mono (by omega))
    rcases e2 with e | e
    · show (1 + r2) * (1 - 2 * x2) ≠ 0
      rw [e]
      omega
    · show (1 + r2) * (1 - 2 * x2) ≠ 0
      rw [e]
      omega
end
end E1

namespace E1
open PySem PySem.Spec PyProof.Rows L2

theorem gI_mul {t b m : Int} (hm : 0 < m) : gI (t * m) (b * m) = gI t b * m := by
  unfold gI
  rw [Int.gcd_mul_right, Int.natCast_mul]
  congr 1
  omega
theorem lowB_pos {t b : Int} (hb : b ≠ 0) : 1 ≤ lowB t b := by
  have g0 := gI_pos (t := t) hb
  have g1 := gI_le (t := t) hb
  unfold lowB
  refine (Int.le_ediv_iff_mul_le g0).mpr ?_
  split <;> omega
theorem low_gcd {t b : Int} (hb : b ≠ 0) : gI (lowT t b) (lowB t b) = 1 := by
  have h1 : ∀ {x y : Int}, y ≠ 0 → gI (x / gI x y) (y / gI x y) = 1 := fun {x y} h => by
    have := Int.gcd_ediv_gcd_ediv_gcd (i := x) (j := y) (Int.gcd_pos_of_ne_zero_right x h)
    unfold gI
    rw [this]
    rfl
  unfold lowT lowB
  split
  · rw [← gI_neg t b]
    exact h1 (by omega)
  · exact h1 hb
theorem low_mul {t b m : Int} (hm : 0 < m) : lowT (t * m) (b * m) = lowT t b ∧ lowB (t * m) (b * m) = lowB t b := by
  have e : b * m < 0 ↔ b < 0 := by
    constructor
    · intro h
      refine Int.not_le.mp fun z => ?_
      have := Int.mul_nonneg z (Int.le_of_lt hm)
      omega
    · intro h
      exact Int.mul_neg_of_neg_of_pos h hm
  unfold lowT lowB
  rw [gI_mul hm]
  by_cases hb : b < 0
  · rw [if_pos hb, if_pos hb, if_pos (e.mpr hb), if_pos (e.mpr hb), ← Int.neg_mul, ← Int.neg_mul]
    exact ⟨Int.mul_ediv_mul_of_pos_left _ _ hm, Int.mul_ediv_mul_of_pos_left _ _ hm⟩
  · have hb' : ¬ b * m < 0 := fun z => hb (e.mp z)
    rw [if_neg hb, if_neg hb, if_neg hb', if_neg hb']
    exact ⟨Int.mul_ediv_mul_of_pos_left _ _ hm, Int.mul_ediv_mul_of_pos_left _ _ hm⟩
theorem low_neg {t b : Int} (hb : b ≠ 0) : lowT (0 - t) (0 - b) = lowT t b ∧ lowB (0 - t) (0 - b) = lowB t b := by
  unfold lowT lowB
  rw [Int.zero_sub, Int.zero_sub, gI_neg]
  by_cases h : b < 0
  · rw [if_pos h, if_pos h, if_neg (by omega), if_neg (by omega)]
    exact ⟨rfl, rfl⟩
  · rw [if_neg h, if_neg h, if_pos (by omega), if_pos (by omega), Int.neg_neg, Int.neg_neg]
    exact ⟨rfl, rfl⟩
theorem low_one {t : Int} : lowT t 1 = t ∧ lowB t 1 = 1 := by
  have e : gI t 1 = 1 := by
    unfold gI
    rw [Int.gcd_one]
    rfl
  unfold lowT lowB
  rw [e, if_neg (by decide), if_neg (by decide), Int.ediv_one]
  exact ⟨rfl, rfl⟩
theorem lowT_le {t b : Int} : (lowT t b).natAbs ≤ t.natAbs := by
  unfold lowT
  refine Nat.le_trans (Int.natAbs_ediv_le_natAbs _ _) ?_
  split <;> omega
theorem lowB_le {t b : Int} : (lowB t b).natAbs ≤ b.natAbs := by
  unfold lowB
  refine Nat.le_trans (Int.natAbs_ediv_le_natAbs _ _) ?_
  split <;> omega
theorem up {x : Nat} {a b : Nat} (h : x < 2 ^ a) (l : a ≤ b) : x < 2 ^ b := Nat.lt_of_lt_of_le h (Nat.pow_le_pow_right (by decide) l)
theorem up2 {x y : Nat} {a b : Nat} (h : x ≤ y) (h2 : y < 2 ^ a) (l : a ≤ b) : x < 2 ^ b := Nat.lt_of_le_of_lt h (up h2 l)
theorem same_but {H H1 H2 : Hp} {p : Addr} (s : Same H H1) (b : SameBut p H1 H2) (hp : H p = none) : Same H H2 := fun a o e => b a o (ne_of_none e hp) (s a o e)
def spMade : Sp := fun vs H Q _ => ∃ (a wl : Addr) (c t b : Int), vs = [.ref a, .ref wl] ∧ H a = some (.tup [.int t, .int b]) ∧ b ≠ 0 ∧ t.natAbs < 2 ^ 140 ∧ b.natAbs < 2 ^ 140 ∧ WellAt H wl c ∧ c ≤ 100000 ∧ ∀ H', SameBut wl H H' → WellAt H' wl (c + 1) → Q (.bl true) H'
def spTwoR : Sp := fun vs H Q _ => ∃ m : Int, vs = [.int m] ∧ -400 ≤ m ∧ m ≤ 400 ∧ ∀ H', Same H H' → Q (.bl true) H'
/-- four tuples are told, all alike -/
theorem rep4 : ([true, true, true, true] : List Bool).map V.bl = List.replicate 4 (V.bl true) := rfl
section
variable {P : Program} {w : World} {K : PySem.W.Frag} {mg : Str → Option Value} {base : Heap}
theorem sc__law_made_right : FnScope ["_law_this", "_law_well_here", "_law_due", "_law_more", "_law_some", "_law_found"] ["_law_this", "_law_well_here"] (defScope s__law_made_right) := ⟨rfl, rfl, rfl, by decide +kernel, rfl, by decide +kernel, by decide +kernel⟩
theorem ok__law_made_right {f : Addr} {fd : FuncData} (F : Fun K "_law_made_right" "_law_made_right" s__law_made_right f fd) (z : Zs mg) (c__law_draw : Cal P w K mg base 1 "_law_draw" ["_law_well_here", "_law_much"] spDraw) (c__law_low : Cal P w K mg base 1 "_law_low" ["_law_upper", "_law_base"] spLow) (c__law_same : Cal P w K mg base 2 "_law_same" ["_law_found", "_law_due"] spSame) (c_fraction : Cal P w K mg base 3 "fraction" ["top", "bottom"] spLow) (c_fraction_1 : CalD P w K mg base 3 "fraction" ["top", "bottom"] [.int 1] spLow) (c_fraction_0_bottom_top : CalK P w K mg base 3 "fraction" ["top", "bottom"] 0 ["bottom", "top"] (fun vs zs => vs ++ zs.reverse) spLow) (c_fraction_1_bottom : CalK P w K mg base 3 "fraction" ["top", "bottom"] 1 ["bottom"] (fun vs zs => vs ++ zs) spLow) (c_is_fraction : Cal P w K mg base 2 "is_fraction" ["thing"] spIsFrac) : FnOk P w K mg base CX0 4 f fd ["_law_this", "_law_well_here"] spMade := by
  refine F.ok sc__law_made_right (fun vs H Q E h => ?_) (fun cdv A outer s H vs Q E hr h => ?_)
  · obtain ⟨a, wl, c, t, b, rfl, _⟩ := h
    rfl
  · obtain ⟨a, wl, c, t, b, rfl, ha, hb, bt, bb, hw, hc, q⟩ := h
    have b4 : b.natAbs < 2 ^ 4000 := up bb (by decide)
    have nwa : wl ≠ a := fun e => by
      obtain ⟨_, _, _, z, _⟩ := hw
      rw [e, ha] at z
      cases z
    have l2 := low_neg (t := t) hb
    refine ⟨_, (pss_cons (ps_set (i := 2) sc__law_made_right.nd rfl (.inr rfl) (pe_cal c__law_low hr (pa_cons (pe_ix ix_tup (pv 0) pe_int (fun _ _ => rfl)) (pa_cons (pe_ix ix_tup (pv 0) pe_int (fun _ _ => rfl)) pa_nil))))
      (pss_cons (ps_set (i := 3) sc__law_made_right.nd rfl (.inl rfl) (pe_op op_add pe_int (pe_cal c__law_draw hr (pa_cons (pv 1) (pa_cons pe_int pa_nil)))))
      (pss_cons (ps_set (i := 4) sc__law_made_right.nd rfl (.inl rfl) (pe_lst (pa_cons (pe_cal c_fraction hr (pa_cons (pe_ix ix_tup (pv 0) pe_int (fun _ _ => rfl)) (pa_cons (pe_ix ix_tup (pv 0) pe_int (fun _ _ => rfl)) pa_nil))) (pa_cons (pe_calk0 c_fraction_0_bottom_top hr (pk_cons (pe_ix ix_tup (pv 0) pe_int (fun _ _ => rfl)) (pk_cons (pe_ix ix_tup (pv 0) pe_int (fun _ _ => rfl)) pk_nil))) (pa_cons (pe_cal c_fraction hr (pa_cons (pe_op op_mul (pe_ix ix_tup (pv 0) pe_int (fun _ _ => rfl)) (pv 3)) (pa_cons (pe_op op_mul (pe_ix ix_tup (pv 0) pe_int (fun _ _ => rfl)) (pv 3)) pa_nil))) pa_nil)))))
      (pss_cons (ps_expr (pe_bm PySem.F.plainAttrs_list PySem.F.slot_list_append PySem.F.type_list_append mt_append (pv 4) (pa_cons (pe_calk c_fraction_1_bottom hr (pa_cons (pe_op op_sub pe_int (pe_ix ix_tup (pv 0) pe_int (fun _ _ => rfl))) pa_nil) (pk_cons (pe_op op_sub pe_int (pe_ix ix_tup (pv 0) pe_int (fun _ _ => rfl))) pk_nil)) pa_nil)))
      (pss_cons (ps_if (PW.pt (pw_or (pt_not (pt_val (pe_callB (cr_all rfl) (by rfl) z.all (by decide +kernel) (pa_cons (pe_lc (own := [("_law_found", 5)]) (g := gName 5) (tt := tYes) (by rfl) sc__law_made_right.nd (pi_list (pv 4)) (blkOk_by (own := [("_law_found", 5)]) (N := ["_law_this", "_law_well_here", "_law_due", "_law_more", "_law_some", "_law_found"]) (sc := defScope s__law_made_right) (by decide +kernel)) (fun _ _ _ _ _ => by exact (pg_name (i := 5) sc__law_made_right.nd rfl (.inl rfl))) (fun _ _ _ _ _ => by exact pts_nil) (fun _ _ _ _ _ => by exact (pe_cal c__law_same hr (pa_cons (pv 5) (pa_cons (pv 2) pa_nil))))) pa_nil)))) (pw_or1 (pt_not (pt_val (pe_cal c__law_same hr (pa_cons (pe_cald c_fraction_1 hr (pa_cons (pe_ix ix_tup (pv 0) pe_int (fun _ _ => rfl)) pa_nil)) (pa_cons (pe_tup (pa_cons (pe_ix ix_tup (pv 0) pe_int (fun _ _ => rfl)) (pa_cons pe_int pa_nil))) pa_nil)))))))) (pss_one (ps_ret pe_bl)) pss_nil)
      (pss_one (ps_ret (pe_and (pe_cmpR op_isBl (pe_cal c_is_fraction hr (pa_cons (pv 2) pa_nil)) pe_bl (nomark _)) (pe_one (pe_cmpR op_isBl (pe_cal c_is_fraction hr (pa_cons (pe_tup (pa_cons (pe_op op_mul (pe_ix ix_tup (pv 2) pe_int (fun _ _ => rfl)) pe_int) (pa_cons (pe_op op_mul (pe_ix ix_tup (pv 2) pe_int (fun _ _ => rfl)) pe_int) pa_nil))) pa_nil)) pe_bl (nomark _))))))))))), ?_⟩
    refine ⟨_, rfl, a, _, 0, .int t, rfl, rfl, SqT.of ha, a0, _, rfl, a, _, 1, .int b, rfl, rfl, SqT.of ha, a1, t, b, rfl, hb, b4, fun d hd => ?_⟩
    have s1 : Same H (upd H d (.tup [.int (lowT t b), .int (lowB t b)])) := same_new hd
    generalize e1 : upd H d (.tup [.int (lowT t b), .int (lowB t b)]) = H1 at s1 ⊢
    have hd1 : H1 d = some (.tup [.int (lowT t b), .int (lowB t b)]) := by rw [← e1]; exact upd_same
    have nwd : d ≠ wl := fun e => by
      obtain ⟨_, _, _, z, _⟩ := hw
      rw [e, z] at hd
      cases hd
    refine ⟨_, rfl, wl, c, 60, rfl, hw.same s1, by omega, by decide, by decide, fun r H2 r0 r1 d2 d2' w2 => ⟨_, _, rfl, rfl, ?_⟩⟩
    have sb2 : SameBut wl H H2 := (SameBut.of s1).trans d2
    have ha2 : H2 a = some (.tup [.int t, .int b]) := sb2 _ _ nwa.symm ha
    have hd2 : H2 d = some (.tup [.int (lowT t b), .int (lowB t b)]) := d2 _ _ nwd hd1
    have m0 : 0 < 1 + r := by omega
    obtain ⟨m1, m2⟩ := low_mul (t := t) (b := b) m0
    have bm : (b * (1 + r)).natAbs < 2 ^ 4000 := up (wide_lt bb (show (1 + r).natAbs < 2 ^ 6 by omega)) (by decide)
    have nz : b * (1 + r) ≠ 0 := Int.mul_ne_zero hb (by omega)
    -- three told
    refine ⟨_, rfl, a, _, 0, .int t, rfl, rfl, SqT.of ha2, a0, _, rfl, a, _, 1, .int b, rfl, rfl, SqT.of ha2, a1, t, b, rfl, hb, b4, fun p1 hp1 => ?_⟩
    have s3 := same_new (o := .tup [.int (lowT t b), .int (lowB t b)]) hp1
    have ha3 := s3 _ _ ha2
    refine ⟨_, rfl, a, _, 1, .int b, rfl, rfl, SqT.of ha3, a1, _, rfl, a, _, 0, .int t, rfl, rfl, SqT.of ha3, a0, rfl, rfl, t, b, rfl, hb, b4, fun p2 hp2 => ?_⟩
    have s4 := same_new (o := .tup [.int (lowT t b), .int (lowB t b)]) hp2
    have ha4 := s4 _ _ ha3
    refine ⟨_, rfl, a, _, 0, .int t, rfl, rfl, SqT.of ha4, a0, _, rfl, _, _, rfl, rfl, .inr ⟨by omega, by omega⟩, _, rfl, a, _, 1, .int b, rfl, rfl, SqT.of ha4, a1, _, rfl, _, _, rfl, rfl, .inr ⟨by omega, by omega⟩, t * (1 + r), b * (1 + r), rfl, nz, bm, fun p3 hp3 => ?_⟩
    rw [m1, m2]
    have s5 := same_new (o := .tup [.int (lowT t b), .int (lowB t b)]) hp3
    have ha5 := s5 _ _ ha4
    refine ⟨(by show 3 ≤ sizeLine; decide), fun l hl => ?_⟩
    have s6 := same_new (o := .lst [.ref p1, .ref p2, .ref p3]) hl
    have ha6 := s6 _ _ ha5
    -- append
    refine ⟨_, rfl, .inl ⟨rfl, _, SqL.of upd_same⟩, _, rfl, a, _, 0, .int t, rfl, rfl, SqT.of ha6, a0, _, _, rfl, rfl, _, rfl, a, _, 1, .int b, rfl, rfl, SqT.of ha6, a1, _, _, rfl, rfl, rfl, rfl, 0 - t, 0 - b, rfl, by omega, by rw [Int.zero_sub, Int.natAbs_neg]; exact b4, fun p4 hp4 => ?_⟩
    rw [l2.1, l2.2]
    have s7 := same_new (o := .tup [.int (lowT t b), .int (lowB t b)]) hp4
    refine ⟨l, _, _, rfl, rfl, s7 _ _ upd_same, (by show 3 < sizeLine; decide), ?_⟩
    have S5 : Same H2 _ := (s3.trans s4).trans s5
    have hl5 := hl
    generalize e8 : upd (upd (upd (upd (upd (upd H2 p1 (.tup [.int (lowT t b), .int (lowB t b)])) p2 (.tup [.int (lowT t b), .int (lowB t b)])) p3 (.tup [.int (lowT t b), .int (lowB t b)])) l (.lst [.ref p1, .ref p2, .ref p3])) p4 (.tup [.int (lowT t b), .int (lowB t b)])) l (.lst ([.ref p1, .ref p2, .ref p3] ++ [.ref p4])) = H8
    have S8 : Same (upd (upd (upd H2 p1 (.tup [.int (lowT t b), .int (lowB t b)])) p2 (.tup [.int (lowT t b), .int (lowB t b)])) p3 (.tup [.int (lowT t b), .int (lowB t b)])) H8 := fun x o e => by
      rw [← e8, upd_ne (ne_of_none e hl)]
      exact s7 _ _ (s6 _ _ e)
    have hl8 : H8 l = some (.lst [.ref p1, .ref p2, .ref p3, .ref p4]) := by rw [← e8]; exact upd_same
    have k1 : H8 p1 = some (.tup [.int (lowT t b), .int (lowB t b)]) := S8 _ _ (s5 _ _ (s4 _ _ upd_same))
    have k2 : H8 p2 = some (.tup [.int (lowT t b), .int (lowB t b)]) := S8 _ _ (s5 _ _ upd_same)
    have k3 : H8 p3 = some (.tup [.int (lowT t b), .int (lowB t b)]) := S8 _ _ upd_same
    have n4 : p4 ≠ l := fun e => by
      rw [e, upd_same] at hp4
      cases hp4
    have k4 : H8 p4 = some (.tup [.int (lowT t b), .int (lowB t b)]) := by
      rw [← e8, upd_ne n4]
      exact upd_same
    have S28 : Same H2 H8 := S5.trans S8
    have kd := S28 _ _ hd2
    have ka := S28 _ _ ha2
    have kw := w2.same S28
    clear e8 S8 hl5 s7 hp4 s6 hl s5 hp3 s4 hp2 s3 hp1 ha3 ha4 ha5 ha6 n4
    -- all alike
    refine ⟨_, rfl, l, rfl, ⟨_, SqL.of hl8⟩, fun D hD => ?_⟩
    refine lc_list (K := K) (a := l) (xs := [.ref p1, .ref p2, .ref p3, .ref p4]) (fun i H9 => Same H8 H9 ∧ H9 D = some (.lst (List.replicate i (V.bl true)))) ⟨same_new hD, upd_same⟩ (fun i H9 _ hP => SqL.of (hP.1 _ _ hl8)) (fun i x H9 hi hP => ?_) (fun H9 hP => ?_)
    · obtain ⟨s9, hD9⟩ := hP
      have kx : ∃ y : Addr, x = .ref y ∧ H8 y = some (.tup [.int (lowT t b), .int (lowB t b)]) ∧ i < 4 := by
        match i, hi with
        | 0, hi => exact ⟨p1, (Option.some.inj hi).symm, k1, by decide⟩
        | 1, hi => exact ⟨p2, (Option.some.inj hi).symm, k2, by decide⟩
        | 2, hi => exact ⟨p3, (Option.some.inj hi).symm, k3, by decide⟩
        | 3, hi => exact ⟨p4, (Option.some.inj hi).symm, k4, by decide⟩
        | n + 4, hi => simp at hi
      obtain ⟨y, rfl, ky, i4⟩ := kx
      refine ⟨rfl, _, rfl, _, rfl, _, _, rfl, .inr ⟨_, _, _, rfl, rfl, flat2, (by show 2 ≤ 1000; decide), .inl ⟨s9 _ _ ky, s9 _ _ kd⟩⟩, fun H10 s10 => ⟨_, s10 _ _ hD9, ?_, fun b' o' e' => ?_, ?_⟩⟩
      · rw [List.length_replicate]
        exact small1000 (by omega)
      · rw [upd_ne (ne_of_none e' hD)]
        exact s10 _ _ (s9 _ _ e')
      · rw [upd_same, rep_more]
    · obtain ⟨s9, hD9⟩ := hP
      refine ⟨D, [true, true, true, true], rfl, SqL.of hD9, _, rfl, iteF ?_⟩
      have ka9 := s9 _ _ ka
      refine ⟨_, rfl, a, _, 0, .int t, rfl, rfl, SqT.of ka9, a0, t, 1, rfl, by decide, by decide, fun p5 hp5 => ?_⟩
      have s10 := same_new (o := .tup [.int (lowT t 1), .int (lowB t 1)]) hp5
      refine ⟨_, rfl, a, _, 0, .int t, rfl, rfl, SqT.of (s10 _ _ ka9), a0, (by show 2 ≤ sizeLine; decide), fun p6 hp6 => ?_⟩
      have s11 := same_new (o := .tup [.int t, .int 1]) hp6
      have k5 : (upd (upd H9 p5 (.tup [.int (lowT t 1), .int (lowB t 1)])) p6 (.tup [.int t, .int 1])) p5 = some (.tup [.int t, .int 1]) := by
        rw [s11 _ _ upd_same, low_one.1, low_one.2]
      refine ⟨_, _, rfl, .inr ⟨_, _, _, rfl, rfl, flat2, (by show 2 ≤ 1000; decide), .inl ⟨k5, upd_same⟩⟩, fun H12 s12 => ?_⟩
      refine ⟨_, rfl, iteF ?_⟩
      have S12 : Same H8 H12 := ((s9.trans s10).trans s11).trans s12
      have kd12 := S12 _ _ kd
      refine ⟨_, rfl, d, _, _, rfl, kd12, lowB_pos hb, _, _, rfl, rfl, _, rfl, ?_⟩
      rw [low_gcd hb]
      refine iteT ?_
      refine ⟨_, rfl, d, _, 0, .int (lowT t b), rfl, rfl, SqT.of kd12, a0, _, _, rfl, rfl, .inr ⟨by decide, by decide⟩, _, rfl, d, _, 1, .int (lowB t b), rfl, rfl, SqT.of kd12, a1, _, _, rfl, rfl, .inr ⟨by decide, by decide⟩, (by show 2 ≤ sizeLine; decide), fun p7 hp7 => ?_⟩
      refine ⟨p7, lowT t b * 7, lowB t b * 7, rfl, upd_same, by have := lowB_pos (t := t) hb; omega, _, _, rfl, rfl, ?_⟩
      rw [gI_mul (by decide), low_gcd hb]
      exact q _ (sb2.trans (SameBut.of (S28.trans (S12.trans (same_new hp7))))) ((kw.same (S12.trans (same_new hp7))))
theorem sc__law_two_right : FnScope ["_law_power", "_law_due", "_law_k"] ["_law_power"] (defScope s__law_two_right) := ⟨rfl, rfl, rfl, by decide +kernel, rfl, by decide +kernel, by decide +kernel⟩
theorem ok__law_two_right {f : Addr} {fd : FuncData} (F : Fun K "_law_two_right" "_law_two_right" s__law_two_right f fd) (z : Zs mg) (c__law_same : Cal P w K mg base 2 "_law_same" ["_law_found", "_law_due"] spSame) (c_two_to : Cal P w K mg base 2 "two_to" ["many"] spTwoTo) (c_two_to_0_many : CalK P w K mg base 2 "two_to" ["many"] 0 ["many"] (fun vs zs => vs ++ zs) spTwoTo) : FnOk P w K mg base CX0 3 f fd ["_law_power"] spTwoR := by
  refine F.ok sc__law_two_right (fun vs H Q E h => ?_) (fun cdv A outer s H vs Q E hr h => ?_)
  · obtain ⟨m, rfl, _⟩ := h
    rfl
  · obtain ⟨m, rfl, m0, m1, q⟩ := h
    refine ⟨_, (pss_cons (ps_set (i := 1) sc__law_two_right.nd rfl (.inl rfl) pe_int)
      (pss_cons (ps_for PassesOwn.never rfl (pi_range1 (by rfl) z.range (pa_cons (pe_callB call_abs (by rfl) z.abs (by decide +kernel) (pa_cons (pv 0) pa_nil)) pa_nil)) (pg_name (i := 2) sc__law_two_right.nd rfl (.inl rfl)) (pss_one (ps_set (i := 1) sc__law_two_right.nd rfl (.inl rfl) (pe_op op_mul (pv 1) pe_int))))
      (pss_cons (ps_if (pt_cmpR op_lt (pv 0) pe_int (nomark _)) (pss_one (ps_ret (pe_cal c__law_same hr (pa_cons (pe_cal c_two_to hr (pa_cons (pv 0) pa_nil)) (pa_cons (pe_tup (pa_cons pe_int (pa_cons (pv 1) pa_nil))) pa_nil))))) pss_nil)
      (pss_one (ps_ret (pe_cal c__law_same hr (pa_cons (pe_calk0 c_two_to_0_many hr (pk_cons (pv 0) pk_nil)) (pa_cons (pe_tup (pa_cons (pv 1) (pa_cons pe_int pa_nil))) pa_nil)))))))), ?_⟩
    refine ⟨_, rfl, _, rfl, _, rfl, ?_, ?_, for_range (n := (if m < 0 then -m else m).toNat) (fun i σ H' => H' = H ∧ ∃ y : Option V, σ = [some (.int m), some (.int (2 ^ i)), y]) ⟨rfl, none, rfl⟩ (fun i σ H2 hi hP => ?_) (fun σ H2 hP => ?_)⟩
    · show _ ≤ (if m < 0 then -m else m)
      split <;> omega
    · show (if m < 0 then -m else m) < _
      split <;> omega
    · obtain ⟨rfl, y, rfl⟩ := hP
      refine ⟨_, rfl, _, _, rfl, rfl, .inr ⟨by decide, by decide⟩, rfl, some (.int (0 + i)), ?_⟩
      rw [Int.pow_succ]
      rfl
    · obtain ⟨rfl, y, rfl⟩ := hP
      have en : (if m < 0 then -m else m).toNat = m.natAbs := by split <;> omega
      rw [en]
      refine ⟨_, rfl, _, _, rfl, rfl, _, rfl, ite2 (fun c => ?_) (fun c => ?_)⟩
      · have hm := toB c
        refine ⟨_, rfl, m, rfl, m0, m1, fun p hp => ⟨_, rfl, (by show 2 ≤ sizeLine; decide), fun p2 hp2 => ?_⟩⟩
        have e1 : twoT m = 1 := if_pos hm
        have e2 : twoB m = 2 ^ m.natAbs := by
          unfold twoB
          rw [if_pos hm]
          congr 1
          omega
        rw [e1, e2] at hp2 ⊢
        exact ⟨_, _, rfl, .inr ⟨_, _, _, rfl, rfl, flat2, (by show 2 ≤ 1000; decide), .inl ⟨same_new hp2 _ _ upd_same, upd_same⟩⟩, fun H' s' => q H' (((same_new hp).trans (same_new hp2)).trans s')⟩
      · have hm := toNB c
        refine ⟨_, rfl, rfl, rfl, m, rfl, m0, m1, fun p hp => ⟨_, rfl, (by show 2 ≤ sizeLine; decide), fun p2 hp2 => ?_⟩⟩
        have e1 : twoB m = 1 := if_neg hm
        have e2 : twoT m = 2 ^ m.natAbs := by
          unfold twoT
          rw [if_neg hm]
          congr 1
          omega
        rw [e1, e2] at hp2 ⊢
        exact ⟨_, _, rfl, .inr ⟨_, _, _, rfl, rfl, flat2, (by show 2 ≤ 1000; decide), .inl ⟨same_new hp2 _ _ upd_same, upd_same⟩⟩, fun H' s' => q H' (((same_new hp).trans (same_new hp2)).trans s')⟩
end
end E1

namespace E1
open PySem PySem.Spec PyProof.Rows L2

structure Two (H : Hp) (u v wl : Addr) (a b c d n : Int) : Prop where
  h1 : H u = some (.tup [.int a, .int b])
  h2 : H v = some (.tup [.int c, .int d])
  w : WellAt H wl n
theorem Two.same {H H' : Hp} {u v wl : Addr} {a b c d n : Int} (t : Two H u v wl a b c d n) (s : Same H H') : Two H' u v wl a b c d n := ⟨s _ _ t.h1, s _ _ t.h2, t.w.same s⟩
def spLaw (K : PySem.W.Frag) : Sp := fun vs H Q _ => ∃ (a : Addr) (ns : List Int), vs = [.ref a] ∧ SqL K H a (ns.map V.int) ∧ ns.length ≤ 63 ∧ ∀ H', Q (.bl true) H'
theorem eqv2 (a b : Int) : PyData.eqv (.tuple [.int a, .int b]) (.tuple [.int a, .int b]) = true := SeqAt.eqv_refl _ (by rfl)
theorem flatB2 {x y : Bool} : ∀ v ∈ [V.bl x, V.bl y], Flat v := fun v h => by
  rcases List.mem_cons.mp h with e | h
  · exact .inr ⟨_, e⟩
  · rcases List.mem_cons.mp h with e | h
    · exact .inr ⟨_, e⟩
    · cases h
theorem flatBs {l : List Bool} : ∀ v ∈ l.map V.bl, Flat v := fun v h => by
  obtain ⟨b, _, e⟩ := List.mem_map.mp h
  exact .inr ⟨b, e.symm⟩
theorem flatB5 {x y z p q : Bool} : ∀ v ∈ [V.bl x, V.bl y, V.bl z, V.bl p, V.bl q], Flat v := flatBs (l := [x, y, z, p, q])
section
variable {P : Program} {w : World} {K : PySem.W.Frag} {mg : Str → Option Value} {base : Heap}
theorem sc_law : FnScope ["_law_script", "_law_well_here", "_law_first", "_law_second", "_law_a", "_law_b", "_law_c", "_law_d", "_law_this", "_law_that", "_law_whole"] ["_law_script"] (defScope s_law) := ⟨rfl, rfl, rfl, by decide +kernel, rfl, by decide +kernel, by decide +kernel⟩
theorem ok_law {f : Addr} {fd : FuncData} (F : Fun K "law" "law" s_law f fd) (z : Zs mg) (c__law_draw : Cal P w K mg base 1 "_law_draw" ["_law_well_here", "_law_much"] spDraw) (c__law_low : Cal P w K mg base 1 "_law_low" ["_law_upper", "_law_base"] spLow) (c__law_same : Cal P w K mg base 2 "_law_same" ["_law_found", "_law_due"] spSame) (c__law_cell_at : Cal P w K mg base 1 "_law_cell_at" ["_law_script", "_law_k"] (spCell K)) (c__law_well : Cal P w K mg base 1 "_law_well" ["_law_cell"] spWell) (c__law_drawn : Cal P w K mg base 3 "_law_drawn" ["_law_well_here"] spDrawn) (c__law_made_right : Cal P w K mg base 4 "_law_made_right" ["_law_this", "_law_well_here"] spMade) (c_plus : Cal P w K mg base 3 "plus" ["one", "other"] (spTwo K (fun t u v x => True) (fun t u v x => t * x + v * u) (fun t u v x => u * x))) (c_minus_0_one_other : CalK P w K mg base 3 "minus" ["one", "other"] 0 ["one", "other"] (fun vs zs => vs ++ zs) (spTwo K (fun t u v x => True) (fun t u v x => t * x - v * u) (fun t u v x => u * x))) (c_times : Cal P w K mg base 3 "times" ["one", "other"] (spTwo K (fun t u v x => True) (fun t u v x => t * v) (fun t u v x => u * x))) (c_divided : Cal P w K mg base 3 "divided" ["one", "other"] (spTwo K (fun t u v x => v ≠ 0) (fun t u v x => t * x) (fun t u v x => u * v))) (c_size_of : Cal P w K mg base 1 "size_of" ["one"] (spSize K)) (c_under : Cal P w K mg base 1 "under" ["one", "other"] (spUnder K)) (c_is_whole : Cal P w K mg base 1 "is_whole" ["thing"] (spWhole K)) (c__law_two_right : Cal P w K mg base 3 "_law_two_right" ["_law_power"] spTwoR) : FnOk P w K mg base CX0 5 f fd ["_law_script"] (spLaw K) := by
  refine F.ok sc_law (fun vs H Q E h => ?_) (fun cdv A outer s H vs Q E hr h => ?_)
  · obtain ⟨a, ns, rfl, _⟩ := h
    rfl
  · obtain ⟨as, ns, rfl, hS, hlen, q⟩ := h
    refine ⟨_, (pss_cons (ps_set (i := 1) sc_law.nd rfl (.inl rfl) (pe_cal c__law_well hr (pa_cons (pe_cal c__law_cell_at hr (pa_cons (pv 0) (pa_cons pe_int pa_nil))) pa_nil)))
      (pss_cons (ps_set (i := 2) sc_law.nd rfl (.inl rfl) (pe_cal c__law_drawn hr (pa_cons (pv 1) pa_nil)))
      (pss_cons (ps_set (i := 1) sc_law.nd rfl (.inl rfl) (pe_cal c__law_well hr (pa_cons (pe_cal c__law_cell_at hr (pa_cons (pv 0) (pa_cons pe_int pa_nil))) pa_nil)))
      (pss_cons (ps_set (i := 3) sc_law.nd rfl (.inl rfl) (pe_ix ix_list (pe_lst (pa_cons (pe_cal c__law_drawn hr (pa_cons (pv 1) pa_nil)) (pa_cons (pv 2) pa_nil))) (pe_callTy call_int1 (by rfl) z.int (by decide +kernel) (pa_cons (pe_cmpR op_eq (pe_cal c__law_draw hr (pa_cons (pv 1) (pa_cons pe_int pa_nil))) pe_int (nomark _)) pa_nil)) (fun _ _ => rfl)))
      (pss_cons (ps_if (PW.pt (pw_or (pt_not (pt_val (pe_cal c__law_made_right hr (pa_cons (pv 2) (pa_cons (pv 1) pa_nil))))) (pw_or1 (pt_not (pt_val (pe_cal c__law_made_right hr (pa_cons (pv 3) (pa_cons (pv 1) pa_nil)))))))) (pss_one (ps_ret pe_bl)) pss_nil)
      (pss_cons (ps_asg (pe_cal c__law_low hr (pa_cons (pe_ix ix_tup (pv 2) pe_int (fun _ _ => rfl)) (pa_cons (pe_ix ix_tup (pv 2) pe_int (fun _ _ => rfl)) pa_nil))) (pg_tup (by rfl) (pgs_cons (pg_name (i := 4) sc_law.nd rfl (.inl rfl)) (pgs_cons (pg_name (i := 5) sc_law.nd rfl (.inl rfl)) pgs_nil))))
      (pss_cons (ps_asg (pe_cal c__law_low hr (pa_cons (pe_ix ix_tup (pv 3) pe_int (fun _ _ => rfl)) (pa_cons (pe_ix ix_tup (pv 3) pe_int (fun _ _ => rfl)) pa_nil))) (pg_tup (by rfl) (pgs_cons (pg_name (i := 6) sc_law.nd rfl (.inl rfl)) (pgs_cons (pg_name (i := 7) sc_law.nd rfl (.inl rfl)) pgs_nil))))
      (pss_cons (ps_set (i := 8) sc_law.nd rfl (.inl rfl) (pe_tup (pa_cons (pv 4) (pa_cons (pv 5) pa_nil))))
      (pss_cons (ps_set (i := 9) sc_law.nd rfl (.inl rfl) (pe_tup (pa_cons (pv 6) (pa_cons (pv 7) pa_nil))))
      (pss_cons (ps_if (pt_not (pt_val (pe_cal c__law_same hr (pa_cons (pe_cal c_plus hr (pa_cons (pv 8) (pa_cons (pv 9) pa_nil))) (pa_cons (pe_cal c__law_low hr (pa_cons (pe_op op_add (pe_op op_mulW (pv 4) (pv 7)) (pe_op op_mulW (pv 6) (pv 5))) (pa_cons (pe_op op_mulW (pv 5) (pv 7)) pa_nil))) pa_nil))))) (pss_one (ps_ret pe_bl)) pss_nil)
      (pss_cons (ps_if (pt_not (pt_val (pe_cal c__law_same hr (pa_cons (pe_calk0 c_minus_0_one_other hr (pk_cons (pv 8) (pk_cons (pv 9) pk_nil))) (pa_cons (pe_cal c__law_low hr (pa_cons (pe_op op_sub (pe_op op_mulW (pv 4) (pv 7)) (pe_op op_mulW (pv 6) (pv 5))) (pa_cons (pe_op op_mulW (pv 5) (pv 7)) pa_nil))) pa_nil))))) (pss_one (ps_ret pe_bl)) pss_nil)
      (pss_cons (ps_if (pt_not (pt_val (pe_cal c__law_same hr (pa_cons (pe_cal c_times hr (pa_cons (pv 8) (pa_cons (pv 9) pa_nil))) (pa_cons (pe_cal c__law_low hr (pa_cons (pe_op op_mulW (pv 4) (pv 6)) (pa_cons (pe_op op_mulW (pv 5) (pv 7)) pa_nil))) pa_nil))))) (pss_one (ps_ret pe_bl)) pss_nil)
      (pss_cons (ps_if (PW.pt (pw_and (pt_cmpR op_ne (pv 6) pe_int (nomark _)) (pw_and1 (pt_not (pt_val (pe_cal c__law_same hr (pa_cons (pe_cal c_divided hr (pa_cons (pv 8) (pa_cons (pv 9) pa_nil))) (pa_cons (pe_cal c__law_low hr (pa_cons (pe_op op_mulW (pv 4) (pv 7)) (pa_cons (pe_op op_mulW (pv 5) (pv 6)) pa_nil))) pa_nil)))))))) (pss_one (ps_ret pe_bl)) pss_nil)
      (pss_cons (ps_if (PW.pt (pw_or (pt_not (pt_val (pe_cal c__law_same hr (pa_cons (pe_cal c_size_of hr (pa_cons (pv 8) pa_nil)) (pa_cons (pe_tup (pa_cons (pe_callB call_abs (by rfl) z.abs (by decide +kernel) (pa_cons (pv 4) pa_nil)) (pa_cons (pv 5) pa_nil))) pa_nil))))) (pw_or1 (pt_not (pt_val (pe_cal c__law_same hr (pa_cons (pe_cal c_size_of hr (pa_cons (pv 9) pa_nil)) (pa_cons (pe_tup (pa_cons (pe_callB call_abs (by rfl) z.abs (by decide +kernel) (pa_cons (pv 6) pa_nil)) (pa_cons (pv 7) pa_nil))) pa_nil)))))))) (pss_one (ps_ret pe_bl)) pss_nil)
      (pss_cons (ps_if (pt_not (pt_val (pe_cal c__law_same hr (pa_cons (pe_lst (pa_cons (pe_cal c_under hr (pa_cons (pv 8) (pa_cons (pv 9) pa_nil))) (pa_cons (pe_cal c_under hr (pa_cons (pv 9) (pa_cons (pv 8) pa_nil))) pa_nil))) (pa_cons (pe_lst (pa_cons (pe_cmpR op_lt (pe_op op_mulW (pv 4) (pv 7)) (pe_op op_mulW (pv 6) (pv 5)) (nomark _)) (pa_cons (pe_cmpR op_lt (pe_op op_mulW (pv 6) (pv 5)) (pe_op op_mulW (pv 4) (pv 7)) (nomark _)) pa_nil))) pa_nil))))) (pss_one (ps_ret pe_bl)) pss_nil)
      (pss_cons (ps_set (i := 10) sc_law.nd rfl (.inl rfl) (pe_lst (pa_cons (pe_cal c_is_whole hr (pa_cons (pv 4) pa_nil)) (pa_cons (pe_cal c_is_whole hr (pa_cons (pv 8) pa_nil)) (pa_cons (pe_cal c_is_whole hr (pa_cons (pe_cmpR op_eq (pv 4) (pv 5) (nomark _)) pa_nil)) (pa_cons (pe_cal c_is_whole hr (pa_cons (pe_callTy call_str_int (by rfl) z.str (by decide +kernel) (pa_cons (pv 5) pa_nil)) pa_nil)) (pa_cons (pe_cal c_is_whole hr (pa_cons pe_non pa_nil)) pa_nil)))))))
      (pss_cons (ps_if (PW.pt (pw_or (pt_not (pt_val (pe_cal c__law_same hr (pa_cons (pv 10) (pa_cons (pe_lst (pa_cons pe_bl (pa_cons pe_bl (pa_cons pe_bl (pa_cons pe_bl (pa_cons pe_bl pa_nil)))))) pa_nil))))) (pw_or (pt_cmpR (op_neD hr.units) (pv 8) (pe_tup (pa_cons (pv 4) (pa_cons (pv 5) pa_nil))) (nomark _)) (pw_or1 (pt_cmpR (op_neD hr.units) (pv 9) (pe_tup (pa_cons (pv 6) (pa_cons (pv 7) pa_nil))) (nomark _)))))) (pss_one (ps_ret pe_bl)) pss_nil)
      (pss_one (ps_ret (pe_cal c__law_two_right hr (pa_cons (pe_op op_sub (pe_cal c__law_draw hr (pa_cons (pv 1) (pa_cons pe_int pa_nil))) pe_int) pa_nil))))))))))))))))))))), ?_⟩
    refine ⟨_, rfl, as, ns, 0, rfl, hS, _, rfl, fun w1 hw1 H1 s1 k1 => ?_⟩
    refine ⟨_, rfl, w1, 0, rfl, k1, by decide, fun t1 b1 p1 H2 nb1 bt1 bb1 np1 sb2 e1 k2 => ?_⟩
    have s2 : Same H H2 := same_but s1 sb2 hw1
    refine ⟨_, rfl, as, ns, 1, rfl, s2.seq hS, _, rfl, fun w2 hw2 H3 s3 k3 => ?_⟩
    refine ⟨_, rfl, w2, 0, rfl, k3, by decide, fun t2 b2 p2 H4 nb2 bt2 bb2 np2 sb4 e2 k4 => ?_⟩
    have s4 : Same H2 H4 := same_but s3 sb4 hw2
    refine ⟨_, rfl, (by show 2 ≤ sizeLine; decide), fun l hl => ?_⟩
    have nl : l ≠ w2 := fun e => by
      obtain ⟨_, _, _, z, _⟩ := k4
      rw [e, z] at hl
      cases hl
    refine ⟨_, rfl, w2, 30, 8, rfl, k4.same (same_new hl), by decide, by decide, by decide, fun r H6 r0 r1 sb6 _ k6 => ?_⟩
    have n1 : p1 ≠ w2 := fun e => by
      rw [e, hw2] at e1
      cases e1
    have n2 : p2 ≠ w2 := fun e => by
      obtain ⟨_, _, _, z, _⟩ := k4
      rw [e, z] at e2
      cases e2
    have s46 : SameBut w2 H4 H6 := (SameBut.of (same_new hl)).trans sb6
    have f1 : H6 p1 = some (.tup [.int t1, .int b1]) := s46 _ _ n1 (s4 _ _ e1)
    have f2 : H6 p2 = some (.tup [.int t2, .int b2]) := s46 _ _ n2 e2
    have fl : H6 l = some (.lst [.ref p2, .ref p1]) := sb6 _ _ nl upd_same
    have pick : ∃ (q2 : Addr) (t3 b3 : Int), atI [V.ref p2, V.ref p1] (if decide (V.int r = V.int 0) = true then 1 else 0) = some (.ref q2) ∧ H6 q2 = some (.tup [.int t3, .int b3]) ∧ b3 ≠ 0 ∧ t3.natAbs < 2 ^ 140 ∧ b3.natAbs < 2 ^ 140 := by
      by_cases h : decide (V.int r = V.int 0) = true
      · rw [if_pos h]
        exact ⟨p1, t1, b1, a1, f1, nb1, bt1, bb1⟩
      · rw [if_neg h]
        exact ⟨p2, t2, b2, a0, f2, nb2, bt2, bb2⟩
    obtain ⟨q2, t3, b3, hat, f3, nb3, bt3, bb3⟩ := pick
    refine ⟨rfl, .inr ⟨_, rfl, l, _, _, _, rfl, rfl, SqL.of fl, hat, ?_⟩⟩
    refine ⟨_, rfl, _, rfl, p1, w2, 31, t1, b1, rfl, f1, nb1, bt1, bb1, k6, by decide, fun H7 sb7 k7 => ⟨_, rfl, iteF ?_⟩⟩
    have nq : q2 ≠ w2 := fun e => by
      obtain ⟨_, _, _, z, _⟩ := k6
      rw [e, z] at f3
      cases f3
    refine ⟨_, rfl, _, rfl, q2, w2, 32, t3, b3, rfl, sb7 _ _ nq f3, nb3, bt3, bb3, k7, by decide, fun H8 sb8 k8 => ⟨_, rfl, iteF ?_⟩⟩
    have g1 : H8 p1 = some (.tup [.int t1, .int b1]) := sb8 _ _ n1 (sb7 _ _ n1 f1)
    have g3 : H8 q2 = some (.tup [.int t3, .int b3]) := sb8 _ _ nq (sb7 _ _ nq f3)
    refine ⟨_, rfl, p1, _, 0, .int t1, rfl, rfl, SqT.of g1, a0, _, rfl, p1, _, 1, .int b1, rfl, rfl, SqT.of g1, a1, t1, b1, rfl, nb1, up bb1 (by decide), fun x1 hx1 => ⟨x1, _, rfl, SqT.of upd_same, rfl, _, _, rfl, _, _, rfl, rfl, ?_⟩⟩
    have g3' := same_new (o := .tup [.int (lowT t1 b1), .int (lowB t1 b1)]) hx1 _ _ g3
    refine ⟨_, rfl, q2, _, 0, .int t3, rfl, rfl, SqT.of g3', a0, _, rfl, q2, _, 1, .int b3, rfl, rfl, SqT.of g3', a1, t3, b3, rfl, nb3, up bb3 (by decide), fun x2 hx2 => ⟨x2, _, rfl, SqT.of upd_same, rfl, _, _, rfl, _, _, rfl, rfl, ?_⟩⟩
    have b0 : 0 < lowB t1 b1 := by have := lowB_pos (t := t1) nb1; omega
    have d0 : 0 < lowB t3 b3 := by have := lowB_pos (t := t3) nb3; omega
    have A : (lowT t1 b1).natAbs < 2 ^ 1900 := up2 lowT_le bt1 (by decide)
    have B : (lowB t1 b1).natAbs < 2 ^ 1900 := up2 lowB_le bb1 (by decide)
    have C : (lowT t3 b3).natAbs < 2 ^ 1900 := up2 lowT_le bt3 (by decide)
    have D : (lowB t3 b3).natAbs < 2 ^ 1900 := up2 lowB_le bb3 (by decide)
    have B' : (lowB t1 b1).natAbs.log2 < 1920 := Nat.lt_of_lt_of_le (PySem.Flt.log2_lt_of (by decide) B) (by decide)
    have k9 := (k8.same (same_new (o := .tup [.int (lowT t1 b1), .int (lowB t1 b1)]) hx1)).same (same_new (o := .tup [.int (lowT t3 b3), .int (lowB t3 b3)]) hx2)
    generalize upd (upd H8 x1 (.tup [.int (lowT t1 b1), .int (lowB t1 b1)])) x2 (.tup [.int (lowT t3 b3), .int (lowB t3 b3)]) = H9 at k9 ⊢
    generalize lowT t1 b1 = a at *
    generalize lowB t1 b1 = b at *
    generalize lowT t3 b3 = c at *
    generalize lowB t3 b3 = d at *
    refine ⟨_, rfl, _, rfl, (by show 2 ≤ sizeLine; decide), fun u hu => ?_⟩
    refine ⟨_, rfl, _, rfl, (by show 2 ≤ sizeLine; decide), fun v hv => ?_⟩
    have S : Two (upd (upd H9 u (.tup [.int a, .int b])) v (.tup [.int c, .int d])) u v w2 a b c d 33 := ⟨same_new hv _ _ upd_same, upd_same, (k9.same (same_new hu)).same (same_new hv)⟩
    generalize upd (upd H9 u (.tup [.int a, .int b])) v (.tup [.int c, .int d]) = G0 at S ⊢
    clear hu hv k9 g3' hx2 hx1 g1 g3 k8 sb8 k7 sb7 nq f3 f1 f2 fl hat s46 n1 n2 k6 sb6 nl hl k4 e2 sb4 np2 k3 s3 hw2 s2 k2 e1 sb2 np1 k1 s1 hw1
    have bd0 : b * d ≠ 0 := Int.mul_ne_zero (by omega) (by omega)
    have BD : (b * d).natAbs < 2 ^ 4000 := up (wide_lt B D) (by decide)
    refine ⟨_, rfl, _, rfl, u, v, a, b, c, d, rfl, SqT.of S.h1, SqT.of S.h2, trivial, b0, d0, A, B, C, D, fun p1 hp1 => ?_⟩
    refine ⟨_, rfl, _, rfl, _, _, rfl, rfl, wide_mul A D (by decide) (by decide) (by decide), _, rfl, _, rfl, _, _, rfl, rfl, wide_mul C B (by decide) (by decide) (by decide), _, _, rfl, rfl, _, rfl, _, rfl, _, _, rfl, rfl, wide_mul B D (by decide) (by decide) (by decide), _, _, rfl, bd0, BD, fun r1 hr1 => ?_⟩
    refine ⟨_, _, rfl, .inr ⟨_, _, _, rfl, rfl, flat2, (by show 2 ≤ 1000; decide), .inl ⟨same_new hr1 _ _ upd_same, upd_same⟩⟩, fun G1 t1 => ⟨_, rfl, iteF ?_⟩⟩
    replace S := S.same (((same_new hp1).trans (same_new hr1)).trans t1)
    refine ⟨_, rfl, _, rfl, rfl, rfl, u, v, a, b, c, d, rfl, SqT.of S.h1, SqT.of S.h2, trivial, b0, d0, A, B, C, D, fun p2 hp2 => ?_⟩
    refine ⟨_, rfl, _, rfl, _, _, rfl, rfl, wide_mul A D (by decide) (by decide) (by decide), _, rfl, _, rfl, _, _, rfl, rfl, wide_mul C B (by decide) (by decide) (by decide), _, _, rfl, rfl, _, rfl, _, rfl, _, _, rfl, rfl, wide_mul B D (by decide) (by decide) (by decide), _, _, rfl, bd0, BD, fun r2 hr2 => ?_⟩
    refine ⟨_, _, rfl, .inr ⟨_, _, _, rfl, rfl, flat2, (by show 2 ≤ 1000; decide), .inl ⟨same_new hr2 _ _ upd_same, upd_same⟩⟩, fun G2 t2 => ⟨_, rfl, iteF ?_⟩⟩
    replace S := S.same (((same_new hp2).trans (same_new hr2)).trans t2)
    refine ⟨_, rfl, _, rfl, u, v, a, b, c, d, rfl, SqT.of S.h1, SqT.of S.h2, trivial, b0, d0, A, B, C, D, fun p3 hp3 => ?_⟩
    refine ⟨_, rfl, _, rfl, _, _, rfl, rfl, wide_mul A C (by decide) (by decide) (by decide), _, rfl, _, rfl, _, _, rfl, rfl, wide_mul B D (by decide) (by decide) (by decide), _, _, rfl, bd0, BD, fun r3 hr3 => ?_⟩
    refine ⟨_, _, rfl, .inr ⟨_, _, _, rfl, rfl, flat2, (by show 2 ≤ 1000; decide), .inl ⟨same_new hr3 _ _ upd_same, upd_same⟩⟩, fun G3 t3 => ⟨_, rfl, iteF ?_⟩⟩
    replace S := S.same (((same_new hp3).trans (same_new hr3)).trans t3)
    -- divided, where there is something to divide by
    refine ⟨_, rfl, rfl, _, rfl, ?_⟩
    by_cases hc0 : c = 0
    · have e0 : (!decide (V.int c = V.int 0)) = false := by
        rw [hc0, decide_eq_true rfl]
        rfl
      rw [e0]
      refine iteF ?_
      refine ⟨_, rfl, u, _, _, rfl, SqT.of S.h1, fun p5 hp5 => ?_⟩
      refine ⟨_, rfl, _, rfl, _, rfl, (by show 2 ≤ sizeLine; decide), fun r5 hr5 => ?_⟩
      refine ⟨_, _, rfl, .inr ⟨_, _, _, rfl, rfl, flat2, (by show 2 ≤ 1000; decide), .inl ⟨same_new hr5 _ _ upd_same, upd_same⟩⟩, fun G5 t5 => ⟨_, rfl, iteF ?_⟩⟩
      replace S := S.same (((same_new hp5).trans (same_new hr5)).trans t5)
      refine ⟨_, rfl, v, _, _, rfl, SqT.of S.h2, fun p6 hp6 => ?_⟩
      refine ⟨_, rfl, _, rfl, _, rfl, (by show 2 ≤ sizeLine; decide), fun r6 hr6 => ?_⟩
      refine ⟨_, _, rfl, .inr ⟨_, _, _, rfl, rfl, flat2, (by show 2 ≤ 1000; decide), .inl ⟨same_new hr6 _ _ upd_same, upd_same⟩⟩, fun G6 t6 => ⟨_, rfl, iteF ?_⟩⟩
      replace S := S.same (((same_new hp6).trans (same_new hr6)).trans t6)
      -- under
      refine ⟨_, rfl, _, rfl, u, v, a, b, c, d, rfl, SqT.of S.h1, SqT.of S.h2, A, B, C, D, _, rfl, _, rfl, v, u, c, d, a, b, rfl, SqT.of S.h2, SqT.of S.h1, C, D, A, B, (by show 2 ≤ sizeLine; decide), fun p7 hp7 => ?_⟩
      refine ⟨_, rfl, _, rfl, _, _, rfl, rfl, wide_mul A D (by decide) (by decide) (by decide), _, rfl, _, rfl, _, _, rfl, rfl, wide_mul C B (by decide) (by decide) (by decide), _, _, rfl, rfl, _, rfl, _, rfl, _, _, rfl, rfl, wide_mul C B (by decide) (by decide) (by decide), _, rfl, _, rfl, _, _, rfl, rfl, wide_mul A D (by decide) (by decide) (by decide), _, _, rfl, rfl, (by show 2 ≤ sizeLine; decide), fun r7 hr7 => ?_⟩
      refine ⟨_, _, rfl, .inr ⟨p7, r7, _, rfl, rfl, flatB2, (by show 2 ≤ 1000; decide), .inr ⟨same_new hr7 _ _ upd_same, upd_same⟩⟩, fun G7 t7 => ⟨_, rfl, iteF ?_⟩⟩
      replace S := S.same (((same_new hp7).trans (same_new hr7)).trans t7)
      -- is_whole
      refine ⟨_, rfl, _, true, rfl, .int _, _, rfl, _, false, rfl, .inr (.inr ⟨rfl, "tuple", .base (.tup S.h1), by decide +kernel⟩), _, rfl, _, rfl, rfl, _, false, rfl, .inr (.inl ⟨_, rfl, rfl⟩), _, rfl, _, rfl, B', _, false, rfl, .inr (.inr ⟨rfl, "str", .base (.str _), by decide +kernel⟩), _, false, rfl, .inr (.inr ⟨rfl, "NoneType", .base .non, by decide +kernel⟩), (by show 5 ≤ sizeLine; decide), fun p8 hp8 => ?_⟩
      refine ⟨_, rfl, (by show 5 ≤ sizeLine; decide), fun r8 hr8 => ?_⟩
      refine ⟨_, _, rfl, .inr ⟨p8, r8, _, rfl, rfl, flatB5, (by show 5 ≤ 1000; decide), .inr ⟨same_new hr8 _ _ upd_same, upd_same⟩⟩, fun G8 t8 => ⟨_, rfl, iteF ?_⟩⟩
      replace S := S.same (((same_new hp8).trans (same_new hr8)).trans t8)
      refine ⟨_, rfl, _, rfl, _, rfl, (by show 2 ≤ sizeLine; decide), fun r9 hr9 => ⟨.tuple [.int a, .int b], .tuple [.int a, .int b], .tup (SqT.of (same_new hr9 _ _ S.h1)) (.cons (.int a) (.cons (.int b) .nil)), .tup (SqT.of upd_same) (.cons (.int a) (.cons (.int b) .nil)), rfl, rfl, _, rfl, ?_⟩⟩
      rw [eqv2]
      refine iteF ?_
      replace S := S.same (same_new (o := .tup [.int a, .int b]) hr9)
      refine ⟨_, rfl, _, rfl, _, rfl, (by show 2 ≤ sizeLine; decide), fun r10 hr10 => ⟨.tuple [.int c, .int d], .tuple [.int c, .int d], .tup (SqT.of (same_new hr10 _ _ S.h2)) (.cons (.int c) (.cons (.int d) .nil)), .tup (SqT.of upd_same) (.cons (.int c) (.cons (.int d) .nil)), rfl, rfl, _, rfl, ?_⟩⟩
      rw [eqv2]
      refine iteF ?_
      replace S := S.same (same_new (o := .tup [.int c, .int d]) hr10)
      refine ⟨_, rfl, w2, 33, 801, rfl, S.w, by decide, by decide, by decide, fun x G10 x0 x1 _ _ _ => ⟨_, _, rfl, rfl, _, rfl, by omega, by omega, fun G11 _ => q G11⟩⟩

    · have e0 : (!decide (V.int c = V.int 0)) = true := by
        rw [decide_eq_false (fun z => hc0 (V.int.inj z))]
        rfl
      rw [e0]
      refine iteT ?_
      have bc0 : b * c ≠ 0 := Int.mul_ne_zero (by omega) hc0
      have BC : (b * c).natAbs < 2 ^ 4000 := up (wide_lt B C) (by decide)
      refine ⟨_, rfl, _, rfl, u, v, a, b, c, d, rfl, SqT.of S.h1, SqT.of S.h2, hc0, b0, d0, A, B, C, D, fun p4 hp4 => ?_⟩
      refine ⟨_, rfl, _, rfl, _, _, rfl, rfl, wide_mul A D (by decide) (by decide) (by decide), _, rfl, _, rfl, _, _, rfl, rfl, wide_mul B C (by decide) (by decide) (by decide), _, _, rfl, bc0, BC, fun r4 hr4 => ?_⟩
      refine ⟨_, _, rfl, .inr ⟨_, _, _, rfl, rfl, flat2, (by show 2 ≤ 1000; decide), .inl ⟨same_new hr4 _ _ upd_same, upd_same⟩⟩, fun G4 t4 => ⟨_, rfl, iteF ?_⟩⟩
      replace S := S.same (((same_new hp4).trans (same_new hr4)).trans t4)
      refine ⟨_, rfl, u, _, _, rfl, SqT.of S.h1, fun p5 hp5 => ?_⟩
      refine ⟨_, rfl, _, rfl, _, rfl, (by show 2 ≤ sizeLine; decide), fun r5 hr5 => ?_⟩
      refine ⟨_, _, rfl, .inr ⟨_, _, _, rfl, rfl, flat2, (by show 2 ≤ 1000; decide), .inl ⟨same_new hr5 _ _ upd_same, upd_same⟩⟩, fun G5 t5 => ⟨_, rfl, iteF ?_⟩⟩
      replace S := S.same (((same_new hp5).trans (same_new hr5)).trans t5)
      refine ⟨_, rfl, v, _, _, rfl, SqT.of S.h2, fun p6 hp6 => ?_⟩
      refine ⟨_, rfl, _, rfl, _, rfl, (by show 2 ≤ sizeLine; decide), fun r6 hr6 => ?_⟩
      refine ⟨_, _, rfl, .inr ⟨_, _, _, rfl, rfl, flat2, (by show 2 ≤ 1000; decide), .inl ⟨same_new hr6 _ _ upd_same, upd_same⟩⟩, fun G6 t6 => ⟨_, rfl, iteF ?_⟩⟩
      replace S := S.same (((same_new hp6).trans (same_new hr6)).trans t6)
      -- under
      refine ⟨_, rfl, _, rfl, u, v, a, b, c, d, rfl, SqT.of S.h1, SqT.of S.h2, A, B, C, D, _, rfl, _, rfl, v, u, c, d, a, b, rfl, SqT.of S.h2, SqT.of S.h1, C, D, A, B, (by show 2 ≤ sizeLine; decide), fun p7 hp7 => ?_⟩
      refine ⟨_, rfl, _, rfl, _, _, rfl, rfl, wide_mul A D (by decide) (by decide) (by decide), _, rfl, _, rfl, _, _, rfl, rfl, wide_mul C B (by decide) (by decide) (by decide), _, _, rfl, rfl, _, rfl, _, rfl, _, _, rfl, rfl, wide_mul C B (by decide) (by decide) (by decide), _, rfl, _, rfl, _, _, rfl, rfl, wide_mul A D (by decide) (by decide) (by decide), _, _, rfl, rfl, (by show 2 ≤ sizeLine; decide), fun r7 hr7 => ?_⟩
      refine ⟨_, _, rfl, .inr ⟨p7, r7, _, rfl, rfl, flatB2, (by show 2 ≤ 1000; decide), .inr ⟨same_new hr7 _ _ upd_same, upd_same⟩⟩, fun G7 t7 => ⟨_, rfl, iteF ?_⟩⟩
      replace S := S.same (((same_new hp7).trans (same_new hr7)).trans t7)
      -- is_whole
      refine ⟨_, rfl, _, true, rfl, .int _, _, rfl, _, false, rfl, .inr (.inr ⟨rfl, "tuple", .base (.tup S.h1), by decide +kernel⟩), _, rfl, _, rfl, rfl, _, false, rfl, .inr (.inl ⟨_, rfl, rfl⟩), _, rfl, _, rfl, B', _, false, rfl, .inr (.inr ⟨rfl, "str", .base (.str _), by decide +kernel⟩), _, false, rfl, .inr (.inr ⟨rfl, "NoneType", .base .non, by decide +kernel⟩), (by show 5 ≤ sizeLine; decide), fun p8 hp8 => ?_⟩
      refine ⟨_, rfl, (by show 5 ≤ sizeLine; decide), fun r8 hr8 => ?_⟩
      refine ⟨_, _, rfl, .inr ⟨p8, r8, _, rfl, rfl, flatB5, (by show 5 ≤ 1000; decide), .inr ⟨same_new hr8 _ _ upd_same, upd_same⟩⟩, fun G8 t8 => ⟨_, rfl, iteF ?_⟩⟩
      replace S := S.same (((same_new hp8).trans (same_new hr8)).trans t8)
      refine ⟨_, rfl, _, rfl, _, rfl, (by show 2 ≤ sizeLine; decide), fun r9 hr9 => ⟨.tuple [.int a, .int b], .tuple [.int a, .int b], .tup (SqT.of (same_new hr9 _ _ S.h1)) (.cons (.int a) (.cons (.int b) .nil)), .tup (SqT.of upd_same) (.cons (.int a) (.cons (.int b) .nil)), rfl, rfl, _, rfl, ?_⟩⟩
      rw [eqv2]
      refine iteF ?_
      replace S := S.same (same_new (o := .tup [.int a, .int b]) hr9)
      refine ⟨_, rfl, _, rfl, _, rfl, (by show 2 ≤ sizeLine; decide), fun r10 hr10 => ⟨.tuple [.int c, .int d], .tuple [.int c, .int d], .tup (SqT.of (same_new hr10 _ _ S.h2)) (.cons (.int c) (.cons (.int d) .nil)), .tup (SqT.of upd_same) (.cons (.int c) (.cons (.int d) .nil)), rfl, rfl, _, rfl, ?_⟩⟩
      rw [eqv2]
      refine iteF ?_
      replace S := S.same (same_new (o := .tup [.int c, .int d]) hr10)
      refine ⟨_, rfl, w2, 33, 801, rfl, S.w, by decide, by decide, by decide, fun x G10 x0 x1 _ _ _ => ⟨_, _, rfl, rfl, _, rfl, by omega, by omega, fun G11 _ => q G11⟩⟩

end
end E1

namespace E1
open PySem PySem.Spec PyProof.Rows L2

theorem Vals.rev : ∀ {xs : List V} {us : List Value}, Vals xs us → Vals xs.reverse us.reverse
  | _, _, .nil => .nil
  | _, _, .cons r t => by
    rw [List.reverse_cons, List.reverse_cons]
    exact Vals.append (Vals.rev t) (.cons r .nil)
section
variable {P : Program} {w : World} {K : PySem.W.Frag} {mg : Str → Option Value} {base : Heap} {x : Str} {st : Stmt} {f : Addr} {fd : FuncData} {ps ks : List Str} {k n : Nat} {sp : Sp}
/-- a def without defaults: its arguments by keywords alone or behind others -/
theorem Fun.kbn {qual : Str} (F : Fun K x qual st f fd) {g : List Value → List Value → List Value} {gV : List V → List V → List V} (hrel : ∀ {vs : List V} {us : List Value} {zs : List V} {ws : List Value}, Vals vs us → Vals zs ws → Vals (gV vs zs) (g us ws))
    (h : ∀ (kV doc pm : Value) (an : Option Addr) (cdv ct : Value) (us ws : List Value), us.length = n → ws.length = ks.length → bindArgs (PySem.W.fnOf x qual (defArgs st) (defBody st) (defScope st) .none kV doc pm an cdv ct) ⟨us, ks.zip ws⟩ = pure (ps.zip (g us ws))) : KBn K fd ps n ks g gV := by
  obtain ⟨oc, od, kV, doc, pm, an, cdv, ct, osl, rfl, lk, hcd⟩ := F.ex
  exact ⟨fun s us ws _ h1 h2 => .of_eq (h kV doc pm an cdv ct us ws h1 h2), hrel⟩
/-- a def with defaults, all arguments given -/
theorem FunD.kbn {qual : Str} {params : Arguments} {body : List Stmt} {scope : Scope} {dvs : List V} {kws : List (Str × V)} (F : FunD K x qual params body scope dvs kws f fd) (hd : dvs ≠ []) {g : List Value → List Value → List Value} {gV : List V → List V → List V} (hrel : ∀ {vs : List V} {us : List Value} {zs : List V} {ws : List Value}, Vals vs us → Vals zs ws → Vals (gV vs zs) (g us ws))
    (h : ∀ (T : Addr) (kV doc pm : Value) (an : Option Addr) (cdv ct : Value) (us ws its : List Value), us.length = n → ws.length = ks.length → its.length = dvs.length → ∃ k, bindArgs (PySem.W.fnOf x qual params body scope (.ref T) kV doc pm an cdv ct) ⟨us, ks.zip ws⟩ = seqItems? (.ref T) >>= k ∧ k (some its.toArray) = pure (ps.zip (g us ws))) : KBn K fd ps n ks g gV := by
  obtain ⟨oc, od, dV, kV, doc, pm, an, cdv, ct, osl, rfl, lk, hcd, hD, hK⟩ := F.ex
  rcases hD with ⟨e, _⟩ | ⟨_, T, o, its, m, rfl, lT, oT, rT⟩
  · exact absurd e hd
  · refine ⟨fun s us ws X h1 h2 => ?_, hrel⟩
    obtain ⟨k, e1, e2⟩ := h T kV doc pm an cdv ct us ws its h1 h2 rT.length.symm
    refine BindsTo.of_looks fun M => ?_
    rw [e1]
    exact looks_items X lT oT (.of_pure e2)
end
theorem all_mk {l : PySem.W.OpenLaw} {w : World} {K : PySem.W.Frag} {h : Heap} {mg : Str → Option Value} {fa f_is_whole f_is_fraction f_shared_divisor f_lowest f_fraction f_plus f_minus f_times f_divided f_size_of f_two_to f_under f__law_cell_at f__law_well f__law_draw f__law_great f__law_same f__law_low f__law_drawn f__law_made_right f__law_two_right f_law T_fraction : Addr} (X : K.In h) (G : h.Ns mainGlobals mg) (hfa : mg "law" = some (.ref fa))
    {od_is_whole an_is_whole : Option Addr} {sl_is_whole : Array (Option Value)} {oc_is_whole kV_is_whole dc_is_whole pm_is_whole cd_is_whole ct_is_whole : Value}
    (a_is_whole : PySem.W.nsIn K mainGlobals "is_whole" = some (some (.ref f_is_whole))) (l_is_whole : K.lookup f_is_whole = some ⟨oc_is_whole, od_is_whole, .func (PySem.W.fnOf "is_whole" "is_whole" (defArgs s_is_whole) (defBody s_is_whole) (defScope s_is_whole) .none kV_is_whole dc_is_whole pm_is_whole an_is_whole cd_is_whole ct_is_whole), sl_is_whole⟩) (c_is_whole : PySem.W.codeIn K cd_is_whole "is_whole" = true) (k_is_whole : PySem.W.keepIn K (.ref f_is_whole) = true)
    {od_is_fraction an_is_fraction : Option Addr} {sl_is_fraction : Array (Option Value)} {oc_is_fraction kV_is_fraction dc_is_fraction pm_is_fraction cd_is_fraction ct_is_fraction : Value}
    (a_is_fraction : PySem.W.nsIn K mainGlobals "is_fraction" = some (some (.ref f_is_fraction))) (l_is_fraction : K.lookup f_is_fraction = some ⟨oc_is_fraction, od_is_fraction, .func (PySem.W.fnOf "is_fraction" "is_fraction" (defArgs s_is_fraction) (defBody s_is_fraction) (defScope s_is_fraction) .none kV_is_fraction dc_is_fraction pm_is_fraction an_is_fraction cd_is_fraction ct_is_fraction), sl_is_fraction⟩) (c_is_fraction : PySem.W.codeIn K cd_is_fraction "is_fraction" = true) (k_is_fraction : PySem.W.keepIn K (.ref f_is_fraction) = true)
    {od_shared_divisor an_shared_divisor : Option Addr} {sl_shared_divisor : Array (Option Value)} {oc_shared_divisor kV_shared_divisor dc_shared_divisor pm_shared_divisor cd_shared_divisor ct_shared_divisor : Value}
    (a_shared_divisor : PySem.W.nsIn K mainGlobals "shared_divisor" = some (some (.ref f_shared_divisor))) (l_shared_divisor : K.lookup f_shared_divisor = some ⟨oc_shared_divisor, od_shared_divisor, .func (PySem.W.fnOf "shared_divisor" "shared_divisor" (defArgs s_shared_divisor) (defBody s_shared_divisor) (defScope s_shared_divisor) .none kV_shared_divisor dc_shared_divisor pm_shared_divisor an_shared_divisor cd_shared_divisor ct_shared_divisor), sl_shared_divisor⟩) (c_shared_divisor : PySem.W.codeIn K cd_shared_divisor "shared_divisor" = true) (k_shared_divisor : PySem.W.keepIn K (.ref f_shared_divisor) = true)
    {od_lowest an_lowest : Option Addr} {sl_lowest : Array (Option Value)} {oc_lowest kV_lowest dc_lowest pm_lowest cd_lowest ct_lowest : Value}
    (a_lowest : PySem.W.nsIn K mainGlobals "lowest" = some (some (.ref f_lowest))) (l_lowest : K.lookup f_lowest = some ⟨oc_lowest, od_lowest, .func (PySem.W.fnOf "lowest" "lowest" (defArgs s_lowest) (defBody s_lowest) (defScope s_lowest) .none kV_lowest dc_lowest pm_lowest an_lowest cd_lowest ct_lowest), sl_lowest⟩) (c_lowest : PySem.W.codeIn K cd_lowest "lowest" = true) (k_lowest : PySem.W.keepIn K (.ref f_lowest) = true)
    {od_fraction an_fraction : Option Addr} {sl_fraction : Array (Option Value)} {oc_fraction kV_fraction dc_fraction pm_fraction cd_fraction ct_fraction : Value}
    {to_fraction : Value} {td_fraction : Option Addr} {tn_fraction : Nat} {ts_fraction : Array (Option Value)} {tk_fraction_0 : Tok}
    (a_fraction : PySem.W.nsIn K mainGlobals "fraction" = some (some (.ref f_fraction))) (l_fraction : K.lookup f_fraction = some ⟨oc_fraction, od_fraction, .func (PySem.W.fnOf "fraction" "fraction" (defArgs s_fraction) (defBody s_fraction) (defScope s_fraction) (.ref T_fraction) kV_fraction dc_fraction pm_fraction an_fraction cd_fraction ct_fraction), sl_fraction⟩) (c_fraction : PySem.W.codeIn K cd_fraction "fraction" = true) (k_fraction : PySem.W.keepIn K (.ref f_fraction) = true)
    (t_fraction : K.lookup T_fraction = some ⟨to_fraction, td_fraction, .seq [Value.int 1 tk_fraction_0].toArray tn_fraction, ts_fraction⟩)
    {od_plus an_plus : Option Addr} {sl_plus : Array (Option Value)} {oc_plus kV_plus dc_plus pm_plus cd_plus ct_plus : Value}
    (a_plus : PySem.W.nsIn K mainGlobals "plus" = some (some (.ref f_plus))) (l_plus : K.lookup f_plus = some ⟨oc_plus, od_plus, .func (PySem.W.fnOf "plus" "plus" (defArgs s_plus) (defBody s_plus) (defScope s_plus) .none kV_plus dc_plus pm_plus an_plus cd_plus ct_plus), sl_plus⟩) (c_plus : PySem.W.codeIn K cd_plus "plus" = true) (k_plus : PySem.W.keepIn K (.ref f_plus) = true)
    {od_minus an_minus : Option Addr} {sl_minus : Array (Option Value)} {oc_minus kV_minus dc_minus pm_minus cd_minus ct_minus : Value}
    (a_minus : PySem.W.nsIn K mainGlobals "minus" = some (some (.ref f_minus))) (l_minus : K.lookup f_minus = some ⟨oc_minus, od_minus, .func (PySem.W.fnOf "minus" "minus" (defArgs s_minus) (defBody s_minus) (defScope s_minus) .none kV_minus dc_minus pm_minus an_minus cd_minus ct_minus), sl_minus⟩) (c_minus : PySem.W.codeIn K cd_minus "minus" = true) (k_minus : PySem.W.keepIn K (.ref f_minus) = true)
    {od_times an_times : Option Addr} {sl_times : Array (Option Value)} {oc_times kV_times dc_times pm_times cd_times ct_times : Value}
    (a_times : PySem.W.nsIn K mainGlobals "times" = some (some (.ref f_times))) (l_times : K.lookup f_times = some ⟨oc_times, od_times, .func (PySem.W.fnOf "times" "times" (defArgs s_times) (defBody s_times) (defScope s_times) .none kV_times dc_times pm_times an_times cd_times ct_times), sl_times⟩) (c_times : PySem.W.codeIn K cd_times "times" = true) (k_times : PySem.W.keepIn K (.ref f_times) = true)
    {od_divided an_divided : Option Addr} {sl_divided : Array (Option Value)} {oc_divided kV_divided dc_divided pm_divided cd_divided ct_divided : Value}
    (a_divided : PySem.W.nsIn K mainGlobals "divided" = some (some (.ref f_divided))) (l_divided : K.lookup f_divided = some ⟨oc_divided, od_divided, .func (PySem.W.fnOf "divided" "divided" (defArgs s_divided) (defBody s_divided) (defScope s_divided) .none kV_divided dc_divided pm_divided an_divided cd_divided ct_divided), sl_divided⟩) (c_divided : PySem.W.codeIn K cd_divided "divided" = true) (k_divided : PySem.W.keepIn K (.ref f_divided) = true)
    {od_size_of an_size_of : Option Addr} {sl_size_of : Array (Option Value)} {oc_size_of kV_size_of dc_size_of pm_size_of cd_size_of ct_size_of : Value}
    (a_size_of : PySem.W.nsIn K mainGlobals "size_of" = some (some (.ref f_size_of))) (l_size_of : K.lookup f_size_of = some ⟨oc_size_of, od_size_of, .func (PySem.W.fnOf "size_of" "size_of" (defArgs s_size_of) (defBody s_size_of) (defScope s_size_of) .none kV_size_of dc_size_of pm_size_of an_size_of cd_size_of ct_size_of), sl_size_of⟩) (c_size_of : PySem.W.codeIn K cd_size_of "size_of" = true) (k_size_of : PySem.W.keepIn K (.ref f_size_of) = true)
    {od_two_to an_two_to : Option Addr} {sl_two_to : Array (Option Value)} {oc_two_to kV_two_to dc_two_to pm_two_to cd_two_to ct_two_to : Value}
    (a_two_to : PySem.W.nsIn K mainGlobals "two_to" = some (some (.ref f_two_to))) (l_two_to : K.lookup f_two_to = some ⟨oc_two_to, od_two_to, .func (PySem.W.fnOf "two_to" "two_to" (defArgs s_two_to) (defBody s_two_to) (defScope s_two_to) .none kV_two_to dc_two_to pm_two_to an_two_to cd_two_to ct_two_to), sl_two_to⟩) (c_two_to : PySem.W.codeIn K cd_two_to "two_to" = true) (k_two_to : PySem.W.keepIn K (.ref f_two_to) = true)
    {od_under an_under : Option Addr} {sl_under : Array (Option Value)} {oc_under kV_under dc_under pm_under cd_under ct_under : Value}
    (a_under : PySem.W.nsIn K mainGlobals "under" = some (some (.ref f_under))) (l_under : K.lookup f_under = some ⟨oc_under, od_under, .func (PySem.W.fnOf "under" "under" (defArgs s_under) (defBody s_under) (defScope s_under) .none kV_under dc_under pm_under an_under cd_under ct_under), sl_under⟩) (c_under : PySem.W.codeIn K cd_under "under" = true) (k_under : PySem.W.keepIn K (.ref f_under) = true)
    {od__law_cell_at an__law_cell_at : Option Addr} {sl__law_cell_at : Array (Option Value)} {oc__law_cell_at kV__law_cell_at dc__law_cell_at pm__law_cell_at cd__law_cell_at ct__law_cell_at : Value}
    (a__law_cell_at : PySem.W.nsIn K mainGlobals "_law_cell_at" = some (some (.ref f__law_cell_at))) (l__law_cell_at : K.lookup f__law_cell_at = some ⟨oc__law_cell_at, od__law_cell_at, .func (PySem.W.fnOf "_law_cell_at" "_law_cell_at" (defArgs s__law_cell_at) (defBody s__law_cell_at) (defScope s__law_cell_at) .none kV__law_cell_at dc__law_cell_at pm__law_cell_at an__law_cell_at cd__law_cell_at ct__law_cell_at), sl__law_cell_at⟩) (c__law_cell_at : PySem.W.codeIn K cd__law_cell_at "_law_cell_at" = true) (k__law_cell_at : PySem.W.keepIn K (.ref f__law_cell_at) = true)
    {od__law_well an__law_well : Option Addr} {sl__law_well : Array (Option Value)} {oc__law_well kV__law_well dc__law_well pm__law_well cd__law_well ct__law_well : Value}
    (a__law_well : PySem.W.nsIn K mainGlobals "_law_well" = some (some (.ref f__law_well))) (l__law_well : K.lookup f__law_well = some ⟨oc__law_well, od__law_well, .func (PySem.W.fnOf "_law_well" "_law_well" (defArgs s__law_well) (defBody s__law_well) (defScope s__law_well) .none kV__law_well dc__law_well pm__law_well an__law_well cd__law_well ct__law_well), sl__law_well⟩) (c__law_well : PySem.W.codeIn K cd__law_well "_law_well" = true) (k__law_well : PySem.W.keepIn K (.ref f__law_well) = true)
    {od__law_draw an__law_draw : Option Addr} {sl__law_draw : Array (Option Value)} {oc__law_draw kV__law_draw dc__law_draw pm__law_draw cd__law_draw ct__law_draw : Value}
    (a__law_draw : PySem.W.nsIn K mainGlobals "_law_draw" = some (some (.ref f__law_draw))) (l__law_draw : K.lookup f__law_draw = some ⟨oc__law_draw, od__law_draw, .func (PySem.W.fnOf "_law_draw" "_law_draw" (defArgs s__law_draw) (defBody s__law_draw) (defScope s__law_draw) .none kV__law_draw dc__law_draw pm__law_draw an__law_draw cd__law_draw ct__law_draw), sl__law_draw⟩) (c__law_draw : PySem.W.codeIn K cd__law_draw "_law_draw" = true) (k__law_draw : PySem.W.keepIn K (.ref f__law_draw) = true)
    {od__law_great an__law_great : Option Addr} {sl__law_great : Array (Option Value)} {oc__law_great kV__law_great dc__law_great pm__law_great cd__law_great ct__law_great : Value}
    (a__law_great : PySem.W.nsIn K mainGlobals "_law_great" = some (some (.ref f__law_great))) (l__law_great : K.lookup f__law_great = some ⟨oc__law_great, od__law_great, .func (PySem.W.fnOf "_law_great" "_law_great" (defArgs s__law_great) (defBody s__law_great) (defScope s__law_great) .none kV__law_great dc__law_great pm__law_great an__law_great cd__law_great ct__law_great), sl__law_great⟩) (c__law_great : PySem.W.codeIn K cd__law_great "_law_great" = true) (k__law_great : PySem.W.keepIn K (.ref f__law_great) = true)
    {od__law_same an__law_same : Option Addr} {sl__law_same : Array (Option Value)} {oc__law_same kV__law_same dc__law_same pm__law_same cd__law_same ct__law_same : Value}
    (a__law_same : PySem.W.nsIn K mainGlobals "_law_same" = some (some (.ref f__law_same))) (l__law_same : K.lookup f__law_same = some ⟨oc__law_same, od__law_same, .func (PySem.W.fnOf "_law_same" "_law_same" (defArgs s__law_same) (defBody s__law_same) (defScope s__law_same) .none kV__law_same dc__law_same pm__law_same an__law_same cd__law_same ct__law_same), sl__law_same⟩) (c__law_same : PySem.W.codeIn K cd__law_same "_law_same" = true) (k__law_same : PySem.W.keepIn K (.ref f__law_same) = true)
    {od__law_low an__law_low : Option Addr} {sl__law_low : Array (Option Value)} {oc__law_low kV__law_low dc__law_low pm__law_low cd__law_low ct__law_low : Value}
    (a__law_low : PySem.W.nsIn K mainGlobals "_law_low" = some (some (.ref f__law_low))) (l__law_low : K.lookup f__law_low = some ⟨oc__law_low, od__law_low, .func (PySem.W.fnOf "_law_low" "_law_low" (defArgs s__law_low) (defBody s__law_low) (defScope s__law_low) .none kV__law_low dc__law_low pm__law_low an__law_low cd__law_low ct__law_low), sl__law_low⟩) (c__law_low : PySem.W.codeIn K cd__law_low "_law_low" = true) (k__law_low : PySem.W.keepIn K (.ref f__law_low) = true)
    {od__law_drawn an__law_drawn : Option Addr} {sl__law_drawn : Array (Option Value)} {oc__law_drawn kV__law_drawn dc__law_drawn pm__law_drawn cd__law_drawn ct__law_drawn : Value}
    (a__law_drawn : PySem.W.nsIn K mainGlobals "_law_drawn" = some (some (.ref f__law_drawn))) (l__law_drawn : K.lookup f__law_drawn = some ⟨oc__law_drawn, od__law_drawn, .func (PySem.W.fnOf "_law_drawn" "_law_drawn" (defArgs s__law_drawn) (defBody s__law_drawn) (defScope s__law_drawn) .none kV__law_drawn dc__law_drawn pm__law_drawn an__law_drawn cd__law_drawn ct__law_drawn), sl__law_drawn⟩) (c__law_drawn : PySem.W.codeIn K cd__law_drawn "_law_drawn" = true) (k__law_drawn : PySem.W.keepIn K (.ref f__law_drawn) = true)
    {od__law_made_right an__law_made_right : Option Addr} {sl__law_made_right : Array (Option Value)} {oc__law_made_right kV__law_made_right dc__law_made_right pm__law_made_right cd__law_made_right ct__law_made_right : Value}
    (a__law_made_right : PySem.W.nsIn K mainGlobals "_law_made_right" = some (some (.ref f__law_made_right))) (l__law_made_right : K.lookup f__law_made_right = some ⟨oc__law_made_right, od__law_made_right, .func (PySem.W.fnOf "_law_made_right" "_law_made_right" (defArgs s__law_made_right) (defBody s__law_made_right) (defScope s__law_made_right) .none kV__law_made_right dc__law_made_right pm__law_made_right an__law_made_right cd__law_made_right ct__law_made_right), sl__law_made_right⟩) (c__law_made_right : PySem.W.codeIn K cd__law_made_right "_law_made_right" = true) (k__law_made_right : PySem.W.keepIn K (.ref f__law_made_right) = true)
    {od__law_two_right an__law_two_right : Option Addr} {sl__law_two_right : Array (Option Value)} {oc__law_two_right kV__law_two_right dc__law_two_right pm__law_two_right cd__law_two_right ct__law_two_right : Value}
    (a__law_two_right : PySem.W.nsIn K mainGlobals "_law_two_right" = some (some (.ref f__law_two_right))) (l__law_two_right : K.lookup f__law_two_right = some ⟨oc__law_two_right, od__law_two_right, .func (PySem.W.fnOf "_law_two_right" "_law_two_right" (defArgs s__law_two_right) (defBody s__law_two_right) (defScope s__law_two_right) .none kV__law_two_right dc__law_two_right pm__law_two_right an__law_two_right cd__law_two_right ct__law_two_right), sl__law_two_right⟩) (c__law_two_right : PySem.W.codeIn K cd__law_two_right "_law_two_right" = true) (k__law_two_right : PySem.W.keepIn K (.ref f__law_two_right) = true)
    {od_law an_law : Option Addr} {sl_law : Array (Option Value)} {oc_law kV_law dc_law pm_law cd_law ct_law : Value}
    (a_law : PySem.W.nsIn K mainGlobals "law" = some (some (.ref f_law))) (l_law : K.lookup f_law = some ⟨oc_law, od_law, .func (PySem.W.fnOf "law" "law" (defArgs s_law) (defBody s_law) (defScope s_law) .none kV_law dc_law pm_law an_law cd_law ct_law), sl_law⟩) (c_law : PySem.W.codeIn K cd_law "law" = true) (k_law : PySem.W.keepIn K (.ref f_law) = true)
    {tk_GREATEST_POWER : Tok}
    (g_GREATEST_POWER : PySem.W.nsIn K mainGlobals "GREATEST_POWER" = some (some (.int 400 tk_GREATEST_POWER)))
    (z_isinstance : PySem.W.nsIn K mainGlobals "isinstance" = some none)
    (z_int : PySem.W.nsIn K mainGlobals "int" = some none)
    (z_bool : PySem.W.nsIn K mainGlobals "bool" = some none)
    (z_tuple : PySem.W.nsIn K mainGlobals "tuple" = some none)
    (z_len : PySem.W.nsIn K mainGlobals "len" = some none)
    (z_abs : PySem.W.nsIn K mainGlobals "abs" = some none)
    (z_range : PySem.W.nsIn K mainGlobals "range" = some none)
    (z_list : PySem.W.nsIn K mainGlobals "list" = some none)
    (z_all : PySem.W.nsIn K mainGlobals "all" = some none)
    (z_zip : PySem.W.nsIn K mainGlobals "zip" = some none)
    (z_str : PySem.W.nsIn K mainGlobals "str" = some none) :
    ∃ fd : FuncData, (∀ (s : Shared) (v : Value), BindsTo s fd ⟨[v], []⟩ [("_law_script", v)]) ∧ ∀ base : Heap, K.In base → base.Ns mainGlobals mg → FnOk l.prog w K mg base CX0 5 fa fd ["_law_script"] (spLaw K) := by
  have F_is_whole := fun_mk (st := s_is_whole) l_is_whole c_is_whole k_is_whole
  have b_is_whole := F_is_whole.binds (ps := ["thing"]) fun _ _ _ _ _ _ us hl => match us, hl with | [_], _ => rfl
  have F_is_fraction := fun_mk (st := s_is_fraction) l_is_fraction c_is_fraction k_is_fraction
  have b_is_fraction := F_is_fraction.binds (ps := ["thing"]) fun _ _ _ _ _ _ us hl => match us, hl with | [_], _ => rfl
  have F_shared_divisor := fun_mk (st := s_shared_divisor) l_shared_divisor c_shared_divisor k_shared_divisor
  have b_shared_divisor := F_shared_divisor.binds (ps := ["top", "bottom"]) fun _ _ _ _ _ _ us hl => match us, hl with | [_, _], _ => rfl
  have F_lowest := fun_mk (st := s_lowest) l_lowest c_lowest k_lowest
  have b_lowest := F_lowest.binds (ps := ["top", "bottom"]) fun _ _ _ _ _ _ us hl => match us, hl with | [_, _], _ => rfl
  have F_plus := fun_mk (st := s_plus) l_plus c_plus k_plus
  have b_plus := F_plus.binds (ps := ["one", "other"]) fun _ _ _ _ _ _ us hl => match us, hl with | [_, _], _ => rfl
  have F_minus := fun_mk (st := s_minus) l_minus c_minus k_minus
  have b_minus := F_minus.binds (ps := ["one", "other"]) fun _ _ _ _ _ _ us hl => match us, hl with | [_, _], _ => rfl
  have F_times := fun_mk (st := s_times) l_times c_times k_times
  have b_times := F_times.binds (ps := ["one", "other"]) fun _ _ _ _ _ _ us hl => match us, hl with | [_, _], _ => rfl
  have F_divided := fun_mk (st := s_divided) l_divided c_divided k_divided
  have b_divided := F_divided.binds (ps := ["one", "other"]) fun _ _ _ _ _ _ us hl => match us, hl with | [_, _], _ => rfl
  have F_size_of := fun_mk (st := s_size_of) l_size_of c_size_of k_size_of
  have b_size_of := F_size_of.binds (ps := ["one"]) fun _ _ _ _ _ _ us hl => match us, hl with | [_], _ => rfl
  have F_two_to := fun_mk (st := s_two_to) l_two_to c_two_to k_two_to
  have b_two_to := F_two_to.binds (ps := ["many"]) fun _ _ _ _ _ _ us hl => match us, hl with | [_], _ => rfl
  have F_under := fun_mk (st := s_under) l_under c_under k_under
  have b_under := F_under.binds (ps := ["one", "other"]) fun _ _ _ _ _ _ us hl => match us, hl with | [_, _], _ => rfl
  have F__law_cell_at := fun_mk (st := s__law_cell_at) l__law_cell_at c__law_cell_at k__law_cell_at
  have b__law_cell_at := F__law_cell_at.binds (ps := ["_law_script", "_law_k"]) fun _ _ _ _ _ _ us hl => match us, hl with | [_, _], _ => rfl
  have F__law_well := fun_mk (st := s__law_well) l__law_well c__law_well k__law_well
  have b__law_well := F__law_well.binds (ps := ["_law_cell"]) fun _ _ _ _ _ _ us hl => match us, hl with | [_], _ => rfl
  have F__law_draw := fun_mk (st := s__law_draw) l__law_draw c__law_draw k__law_draw
  have b__law_draw := F__law_draw.binds (ps := ["_law_well_here", "_law_much"]) fun _ _ _ _ _ _ us hl => match us, hl with | [_, _], _ => rfl
  have F__law_great := fun_mk (st := s__law_great) l__law_great c__law_great k__law_great
  have b__law_great := F__law_great.binds (ps := ["_law_well_here"]) fun _ _ _ _ _ _ us hl => match us, hl with | [_], _ => rfl
  have F__law_same := fun_mk (st := s__law_same) l__law_same c__law_same k__law_same
  have b__law_same := F__law_same.binds (ps := ["_law_found", "_law_due"]) fun _ _ _ _ _ _ us hl => match us, hl with | [_, _], _ => rfl
  have F__law_low := fun_mk (st := s__law_low) l__law_low c__law_low k__law_low
  have b__law_low := F__law_low.binds (ps := ["_law_upper", "_law_base"]) fun _ _ _ _ _ _ us hl => match us, hl with | [_, _], _ => rfl
  have F__law_drawn := fun_mk (st := s__law_drawn) l__law_drawn c__law_drawn k__law_drawn
  have b__law_drawn := F__law_drawn.binds (ps := ["_law_well_here"]) fun _ _ _ _ _ _ us hl => match us, hl with | [_], _ => rfl
  have F__law_made_right := fun_mk (st := s__law_made_right) l__law_made_right c__law_made_right k__law_made_right
  have b__law_made_right := F__law_made_right.binds (ps := ["_law_this", "_law_well_here"]) fun _ _ _ _ _ _ us hl => match us, hl with | [_, _], _ => rfl
  have F__law_two_right := fun_mk (st := s__law_two_right) l__law_two_right c__law_two_right k__law_two_right
  have b__law_two_right := F__law_two_right.binds (ps := ["_law_power"]) fun _ _ _ _ _ _ us hl => match us, hl with | [_], _ => rfl
  have F_law := fun_mk (st := s_law) l_law c_law k_law
  have b_law := F_law.binds (ps := ["_law_script"]) fun _ _ _ _ _ _ us hl => match us, hl with | [_], _ => rfl
  have F_fraction : FunD K "fraction" "fraction" (defArgs s_fraction) (defBody s_fraction) (defScope s_fraction) [.int 1] [] f_fraction _ := ⟨⟨_, _, _, _, _, _, _, _, _, _, rfl, l_fraction, c_fraction, .inr ⟨by simp, T_fraction, _, [Value.int 1 tk_fraction_0], _, rfl, t_fraction, rfl, .cons ⟨_, rfl⟩ .nil⟩, .inl rfl⟩, k_fraction⟩
  obtain ⟨ds2, dv2, b_fraction⟩ := F_fraction.binds1 (ps := ["top", "bottom"]) 2 1 (by simp) rfl fun _ _ _ _ _ _ _ us its h1 h2 => match us, its, h1, h2 with | [_, _], [_], _, _ => ⟨_, rfl, rfl⟩
  obtain ⟨ds1, dv1, b_fraction1⟩ := F_fraction.binds1 (ps := ["top", "bottom"]) 1 0 (by simp) rfl fun _ _ _ _ _ _ _ us its h1 h2 => match us, its, h1, h2 with | [_], [_], _, _ => ⟨_, rfl, rfl⟩
  cases dv2
  have kb0 := FunD.kbn (n := 0) (ks := ["bottom", "top"]) (ps := ["top", "bottom"]) F_fraction (by simp) (g := fun us ws => us ++ ws.reverse) (gV := fun vs zs => vs ++ zs.reverse) (fun r s => Vals.append r (Vals.rev s)) fun _ _ _ _ _ _ _ us ws its h1 h2 h3 => match us, ws, its, h1, h2, h3 with | [], [_, _], [_], _, _, _ => ⟨_, rfl, rfl⟩
  have kb1 := FunD.kbn (n := 1) (ks := ["bottom"]) (ps := ["top", "bottom"]) F_fraction (by simp) (g := fun us ws => us ++ ws) (gV := fun vs zs => vs ++ zs) (fun r s => Vals.append r s) fun _ _ _ _ _ _ _ us ws its h1 h2 h3 => match us, ws, its, h1, h2, h3 with | [_], [_], [_], _, _, _ => ⟨_, rfl, rfl⟩
  have kbm := Fun.kbn (n := 0) (ks := ["one", "other"]) (ps := ["one", "other"]) F_minus (g := fun us ws => us ++ ws) (gV := fun vs zs => vs ++ zs) (fun r s => Vals.append r s) fun _ _ _ _ _ _ us ws h1 h2 => match us, ws, h1, h2 with | [], [_, _], _, _ => rfl
  have kbt := Fun.kbn (n := 0) (ks := ["many"]) (ps := ["many"]) F_two_to (g := fun us ws => us ++ ws) (gV := fun vs zs => vs ++ zs) (fun r s => Vals.append r s) fun _ _ _ _ _ _ us ws h1 h2 => match us, ws, h1, h2 with | [], [_], _, _ => rfl
  have z : Zs mg := ⟨PySem.W.mg_none_of X G z_isinstance, PySem.W.mg_none_of X G z_int, PySem.W.mg_none_of X G z_bool, PySem.W.mg_none_of X G z_tuple, PySem.W.mg_none_of X G z_len, PySem.W.mg_none_of X G z_abs, PySem.W.mg_none_of X G z_range, PySem.W.mg_none_of X G z_list, PySem.W.mg_none_of X G z_all, PySem.W.mg_none_of X G z_zip, PySem.W.mg_none_of X G z_str⟩
  have e := hfa.symm.trans (PySem.W.mg_of X G a_law)
  cases e
  refine ⟨PySem.W.fnOf "law" "law" (defArgs s_law) (defBody s_law) (defScope s_law) .none kV_law dc_law pm_law an_law cd_law ct_law, fun s v => .of_eq rfl, fun base _ _ => ?_⟩
  have c_is_whole : Cal l.prog w K mg base 1 "is_whole" ["thing"] _ := ⟨f_is_whole, _, PySem.W.mg_of X G a_is_whole, k_is_whole, b_is_whole, ok_is_whole (k := 0) F_is_whole z⟩
  have c_shared_divisor : Cal l.prog w K mg base 1 "shared_divisor" ["top", "bottom"] _ := ⟨f_shared_divisor, _, PySem.W.mg_of X G a_shared_divisor, k_shared_divisor, b_shared_divisor, ok_shared_divisor (k := 0) F_shared_divisor z⟩
  have c_lowest : Cal l.prog w K mg base 2 "lowest" ["top", "bottom"] _ := ⟨f_lowest, _, PySem.W.mg_of X G a_lowest, k_lowest, b_lowest, ok_lowest F_lowest c_shared_divisor⟩
  have c_fraction : Cal l.prog w K mg base 3 "fraction" ["top", "bottom"] _ := ⟨f_fraction, _, PySem.W.mg_of X G a_fraction, k_fraction, b_fraction, ok_fraction F_fraction c_is_whole c_lowest⟩
  have c_fraction_1 : CalD l.prog w K mg base 3 "fraction" ["top", "bottom"] [.int 1] _ := ⟨f_fraction, _, ds1, PySem.W.mg_of X G a_fraction, k_fraction, dv1, b_fraction1, ok_fraction F_fraction c_is_whole c_lowest⟩
  have c_fraction_0 : CalK l.prog w K mg base 3 "fraction" ["top", "bottom"] 0 ["bottom", "top"] _ _ := ⟨f_fraction, _, _, PySem.W.mg_of X G a_fraction, k_fraction, kb0, ok_fraction F_fraction c_is_whole c_lowest⟩
  have c_fraction_b : CalK l.prog w K mg base 3 "fraction" ["top", "bottom"] 1 ["bottom"] _ _ := ⟨f_fraction, _, _, PySem.W.mg_of X G a_fraction, k_fraction, kb1, ok_fraction F_fraction c_is_whole c_lowest⟩
  have c_plus : Cal l.prog w K mg base 3 "plus" ["one", "other"] _ := ⟨f_plus, _, PySem.W.mg_of X G a_plus, k_plus, b_plus, ok_plus F_plus c_lowest⟩
  have c_minus : CalK l.prog w K mg base 3 "minus" ["one", "other"] 0 ["one", "other"] _ _ := ⟨f_minus, _, _, PySem.W.mg_of X G a_minus, k_minus, kbm, ok_minus F_minus c_lowest⟩
  have c_times : Cal l.prog w K mg base 3 "times" ["one", "other"] _ := ⟨f_times, _, PySem.W.mg_of X G a_times, k_times, b_times, ok_times F_times c_lowest⟩
  have c_divided : Cal l.prog w K mg base 3 "divided" ["one", "other"] _ := ⟨f_divided, _, PySem.W.mg_of X G a_divided, k_divided, b_divided, ok_divided F_divided c_lowest⟩
  have c_size_of : Cal l.prog w K mg base 1 "size_of" ["one"] _ := ⟨f_size_of, _, PySem.W.mg_of X G a_size_of, k_size_of, b_size_of, ok_size_of (k := 0) F_size_of z⟩
  have c_under : Cal l.prog w K mg base 1 "under" ["one", "other"] _ := ⟨f_under, _, PySem.W.mg_of X G a_under, k_under, b_under, ok_under (k := 0) F_under⟩
  have c_two_to : Cal l.prog w K mg base 2 "two_to" ["many"] _ := ⟨f_two_to, _, PySem.W.mg_of X G a_two_to, k_two_to, b_two_to, ok_two_to F_two_to z c_is_whole ⟨_, PySem.W.mg_of X G g_GREATEST_POWER⟩⟩
  have c_two_to_k : CalK l.prog w K mg base 2 "two_to" ["many"] 0 ["many"] _ _ := ⟨f_two_to, _, _, PySem.W.mg_of X G a_two_to, k_two_to, kbt, ok_two_to F_two_to z c_is_whole ⟨_, PySem.W.mg_of X G g_GREATEST_POWER⟩⟩
  have c_is_fraction : Cal l.prog w K mg base 2 "is_fraction" ["thing"] _ := ⟨f_is_fraction, _, PySem.W.mg_of X G a_is_fraction, k_is_fraction, b_is_fraction, ok_is_fraction F_is_fraction z c_is_whole c_shared_divisor⟩
  have c__law_cell_at : Cal l.prog w K mg base 1 "_law_cell_at" ["_law_script", "_law_k"] _ := ⟨f__law_cell_at, _, PySem.W.mg_of X G a__law_cell_at, k__law_cell_at, b__law_cell_at, ok_cell (k := 0) F__law_cell_at z.len⟩
  have c__law_well : Cal l.prog w K mg base 1 "_law_well" ["_law_cell"] _ := ⟨f__law_well, _, PySem.W.mg_of X G a__law_well, k__law_well, b__law_well, ok_well (k := 0) F__law_well z.int⟩
  have c__law_draw : Cal l.prog w K mg base 1 "_law_draw" ["_law_well_here", "_law_much"] _ := ⟨f__law_draw, _, PySem.W.mg_of X G a__law_draw, k__law_draw, b__law_draw, ok_draw (k := 0) F__law_draw⟩
  have c__law_great : Cal l.prog w K mg base 2 "_law_great" ["_law_well_here"] _ := ⟨f__law_great, _, PySem.W.mg_of X G a__law_great, k__law_great, b__law_great, ok__law_great F__law_great z c__law_draw⟩
  have c_same0 : Cal l.prog w K mg base 1 "_law_same" ["_law_found", "_law_due"] _ := ⟨f__law_same, _, PySem.W.mg_of X G a__law_same, k__law_same, b__law_same, ok_same0 (k := 0) F__law_same z⟩
  have c__law_same : Cal l.prog w K mg base 2 "_law_same" ["_law_found", "_law_due"] _ := ⟨f__law_same, _, PySem.W.mg_of X G a__law_same, k__law_same, b__law_same, ok__law_same F__law_same z c_same0⟩
  have c__law_low : Cal l.prog w K mg base 1 "_law_low" ["_law_upper", "_law_base"] _ := ⟨f__law_low, _, PySem.W.mg_of X G a__law_low, k__law_low, b__law_low, ok__law_low (k := 0) F__law_low z⟩
  have c__law_drawn : Cal l.prog w K mg base 3 "_law_drawn" ["_law_well_here"] _ := ⟨f__law_drawn, _, PySem.W.mg_of X G a__law_drawn, k__law_drawn, b__law_drawn, ok__law_drawn F__law_drawn c__law_draw c__law_great⟩
  have c__law_made_right : Cal l.prog w K mg base 4 "_law_made_right" ["_law_this", "_law_well_here"] _ := ⟨f__law_made_right, _, PySem.W.mg_of X G a__law_made_right, k__law_made_right, b__law_made_right, ok__law_made_right F__law_made_right z c__law_draw c__law_low c__law_same c_fraction c_fraction_1 c_fraction_0 c_fraction_b c_is_fraction⟩
  have c__law_two_right : Cal l.prog w K mg base 3 "_law_two_right" ["_law_power"] _ := ⟨f__law_two_right, _, PySem.W.mg_of X G a__law_two_right, k__law_two_right, b__law_two_right, ok__law_two_right F__law_two_right z c__law_same c_two_to c_two_to_k⟩
  exact ok_law F_law z c__law_draw c__law_low c__law_same c__law_cell_at c__law_well c__law_drawn c__law_made_right c_plus c_minus c_times c_divided c_size_of c_under c_is_whole c__law_two_right

end E1

open PySem PySem.W PyProof.Rows
set_option maxRecDepth 100000 in
set_option maxHeartbeats 0 in
theorem PySem.Challenge.cw_echobound_k01_fractions_holds : PySem.Challenge.rw_echobound_k01_fractions.Holds := by
  w_on; o_law; k_head; (case hw => w_witness2)
  k_fill
  refine L2.walk_of (l := PySem.Challenge.rw_echobound_k01_fractions) (n := 63) (k := 5) (x := "_law_script") (CX := fun _ => L2.CX0) (sp := fun w => E1.spLaw _) rfl (by decide) rfl ⟨rfl, by decide, by decide⟩ (fun w h Y => PySem.W.kIn_of Y) ?F (fun _ _ a ns hl _ hS => ⟨a, ns, rfl, hS, hl, fun _ => rfl⟩) (fun _ _ _ _ _ h => h)
  case F =>
    intro w mg fa h KX G hmg
    refine' E1.all_mk KX G hmg ?a_is_whole ?l_is_whole ?c_is_whole ?k_is_whole ?a_is_fraction ?l_is_fraction ?c_is_fraction ?k_is_fraction ?a_shared_divisor ?l_shared_divisor ?c_shared_divisor ?k_shared_divisor ?a_lowest ?l_lowest ?c_lowest ?k_lowest ?a_fraction ?l_fraction ?c_fraction ?k_fraction ?t_fraction ?a_plus ?l_plus ?c_plus ?k_plus ?a_minus ?l_minus ?c_minus ?k_minus ?a_times ?l_times ?c_times ?k_times ?a_divided ?l_divided ?c_divided ?k_divided ?a_size_of ?l_size_of ?c_size_of ?k_size_of ?a_two_to ?l_two_to ?c_two_to ?k_two_to ?a_under ?l_under ?c_under ?k_under ?a__law_cell_at ?l__law_cell_at ?c__law_cell_at ?k__law_cell_at ?a__law_well ?l__law_well ?c__law_well ?k__law_well ?a__law_draw ?l__law_draw ?c__law_draw ?k__law_draw ?a__law_great ?l__law_great ?c__law_great ?k__law_great ?a__law_same ?l__law_same ?c__law_same ?k__law_same ?a__law_low ?l__law_low ?c__law_low ?k__law_low ?a__law_drawn ?l__law_drawn ?c__law_drawn ?k__law_drawn ?a__law_made_right ?l__law_made_right ?c__law_made_right ?k__law_made_right ?a__law_two_right ?l__law_two_right ?c__law_two_right ?k__law_two_right ?a_law ?l_law ?c_law ?k_law ?g_GREATEST_POWER ?z_isinstance ?z_int ?z_bool ?z_tuple ?z_len ?z_abs ?z_range ?z_list ?z_all ?z_zip ?z_str
    (case a_is_whole => k_is)
    (case l_is_whole => k_is)
    (case c_is_whole => k_is)
    (case k_is_whole => k_is)
    (case a_is_fraction => k_is)
    (case l_is_fraction => k_is)
    (case c_is_fraction => k_is)
    (case k_is_fraction => k_is)
    (case a_shared_divisor => k_is)
    (case l_shared_divisor => k_is)
    (case c_shared_divisor => k_is)
    (case k_shared_divisor => k_is)
    (case a_lowest => k_is)
    (case l_lowest => k_is)
    (case c_lowest => k_is)
    (case k_lowest => k_is)
    (case a_fraction => k_is)
    (case l_fraction => k_is)
    (case c_fraction => k_is)
    (case k_fraction => k_is)
    (case t_fraction => k_is)
    (case a_plus => k_is)
    (case l_plus => k_is)
    (case c_plus => k_is)
    (case k_plus => k_is)
    (case a_minus => k_is)
    (case l_minus => k_is)
    (case c_minus => k_is)
    (case k_minus => k_is)
    (case a_times => k_is)
    (case l_times => k_is)
    (case c_times => k_is)
    (case k_times => k_is)
    (case a_divided => k_is)
    (case l_divided => k_is)
    (case c_divided => k_is)
    (case k_divided => k_is)
    (case a_size_of => k_is)
    (case l_size_of => k_is)
    (case c_size_of => k_is)
    (case k_size_of => k_is)
    (case a_two_to => k_is)
    (case l_two_to => k_is)
    (case c_two_to => k_is)
    (case k_two_to => k_is)
    (case a_under => k_is)
    (case l_under => k_is)
    (case c_under => k_is)
    (case k_under => k_is)
    (case a__law_cell_at => k_is)
    (case l__law_cell_at => k_is)
    (case c__law_cell_at => k_is)
    (case k__law_cell_at => k_is)
    (case a__law_well => k_is)
    (case l__law_well => k_is)
    (case c__law_well => k_is)
    (case k__law_well => k_is)
    (case a__law_draw => k_is)
    (case l__law_draw => k_is)
    (case c__law_draw => k_is)
    (case k__law_draw => k_is)
    (case a__law_great => k_is)
    (case l__law_great => k_is)
    (case c__law_great => k_is)
    (case k__law_great => k_is)
    (case a__law_same => k_is)
    (case l__law_same => k_is)
    (case c__law_same => k_is)
    (case k__law_same => k_is)
    (case a__law_low => k_is)
    (case l__law_low => k_is)
    (case c__law_low => k_is)
    (case k__law_low => k_is)
    (case a__law_drawn => k_is)
    (case l__law_drawn => k_is)
    (case c__law_drawn => k_is)
    (case k__law_drawn => k_is)
    (case a__law_made_right => k_is)
    (case l__law_made_right => k_is)
    (case c__law_made_right => k_is)
    (case k__law_made_right => k_is)
    (case a__law_two_right => k_is)
    (case l__law_two_right => k_is)
    (case c__law_two_right => k_is)
    (case k__law_two_right => k_is)
    (case a_law => k_is)
    (case l_law => k_is)
    (case c_law => k_is)
    (case k_law => k_is)
    (case g_GREATEST_POWER => k_is)
    (case z_isinstance => k_is)
    (case z_int => k_is)
    (case z_bool => k_is)
    (case z_tuple => k_is)
    (case z_len => k_is)
    (case z_abs => k_is)
    (case z_range => k_is)
    (case z_list => k_is)
    (case z_all => k_is)
    (case z_zip => k_is)
    (case z_str => k_is)
