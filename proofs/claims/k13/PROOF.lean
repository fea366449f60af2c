import PyProof.Rows.All
import Wide.All
import OpenK.AllK
import Wide.FinOn
import HandS.Codes
import HandS.ForMost
import HandS.Wide
import HandS.Zip
import HandS.IsInst
import HandS.Defaults
import HandS.Style
import HandS.RevRange
import HandS.Star
import HandS.Walk
import HandS.More
import HandS.WideBits
import OpenK.KEqL
import HandS.Flow
import HandS.Conv
import HandS.TupAny
import HandS.Small
import HandS.Deep
import KE.GoesMore
import KE.KRevIter
import HandS.Rev
import KE.RegKSuper
import KE.RegKIsAll
import KE.RegKTryMore
import KE.KNestM
import HandS.EndTab
import KE.KStateDown
import HandS.Words
import HandS.WordsExc
import HandS.Head0
import HandS.Head1
import HandS.Head2
import HandS.HeadEnd
import HandS.HeadHook1
import HandS.HeadHook2
import HandS.HeadHook3
import HandS.HeadHook4
import PySem.Challenge.RW_echobound_k13_solved_or_lost
set_option Elab.async false
set_option linter.all false
set_option maxRecDepth 100000
set_option maxHeartbeats 4000000
namespace E1
open PySem PySem.Spec PyProof.Rows L2
/-! ### a def of the text that is called by its name -/
def Cal (P : Program) (w : World) (K : PySem.W.Frag) (mg : Str → Option Value) (base : Heap) (k : Nat) (x : Str) (ps : List Str) (sp : Sp) : Prop :=
  ∃ (f : Addr) (fd : FuncData), mg x = some (.ref f) ∧ PySem.W.keepIn K (.ref f) = true ∧ Binds K fd ps [] ∧ FnOk P w K mg base CX0 k f fd ps sp
theorem pe_cal {X : Cx} {k j : Nat} {x : Str} {ps : List Str} {sp : Sp} {e : Expr} {es : List Expr} {t : TA} {p pos : Pos} (c : Cal X.prog X.w X.K X.mg X.base k x ps sp) (hr : Room j X.A) (ha : PA X (e :: es) t) (hle : k ≤ j := by decide) (hg : Gl X x := by rfl)
    (hdb : (x == ("__debug__" : Str)) = false := by decide) (he : starEach (e :: es) X.env = (false, eval e X.env) :: starEach es X.env := by rfl) (hpl : (backTo pos (starEach es X.env)).any (·.1) = false := by rfl) :
    PE X (.Call (.Name x p) (e :: es) [] pos) (tCall sp [] E0 t) := by
  obtain ⟨f, fd, h1, h2, h3, h4⟩ := c
  exact pe_call h4 (hr.mono hle) hg h1 h2 h3 .nil pass0 ha hdb he hpl
/-! ### heaps -/
def SameBut (a : Addr) (H H' : Hp) : Prop := ∀ b o, b ≠ a → H b = some o → H' b = some o
theorem SameBut.refl (a : Addr) (H : Hp) : SameBut a H H := fun _ _ _ h => h
theorem SameBut.trans {a : Addr} {H H1 H2 : Hp} (x : SameBut a H H1) (y : SameBut a H1 H2) : SameBut a H H2 := fun b o n h => y b o n (x b o n h)
theorem SameBut.of {a : Addr} {H H' : Hp} (s : Same H H') : SameBut a H H' := fun b o _ h => s b o h
theorem SameBut.upd {a : Addr} {H : Hp} {o : HO} : SameBut a H (upd H a o) := fun b _ n h => by
  rw [upd_ne n]
  exact h
theorem same_new {H : Hp} {p : Addr} {o : HO} (h : H p = none) : Same H (upd H p o) := fun b x e => by
  rw [upd_ne (ne_of_none e h)]
  exact e
theorem Same.tup {K : PySem.W.Frag} {H H' : Hp} {a : Addr} {xs : List V} (e : Same H H') (h : SqT K H a xs) : SqT K H' a xs := by
  rcases h with (h | ⟨o, h⟩) | h
  · exact .inl (.inl (e _ _ h))
  · exact .inl (.inr ⟨o, e _ _ h⟩)
  · exact .inr h
theorem a0 {α : Type} {x : α} {l : List α} : atI (x :: l) 0 = some x := atI_nat (j := 0) rfl
theorem a1 {α : Type} {x y : α} {l : List α} : atI (x :: y :: l) 1 = some y := atI_nat (j := 1) rfl
theorem a2 {α : Type} {x y z : α} {l : List α} : atI (x :: y :: z :: l) 2 = some z := atI_nat (j := 2) rfl
theorem toB {p : Prop} [Decidable p] (h : decide p = true) : p := of_decide_eq_true h
theorem toNB {p : Prop} [Decidable p] (h : ¬ decide p = true) : ¬ p := fun z => h (decide_eq_true z)
/-- a well: the digits left, a number that is mixed, how many were mixed (at most c) -/
def WellAt (H : Hp) (a : Addr) (c : Int) : Prop := ∃ x y z : Int, H a = some (.lst [.int x, .int y, .int z]) ∧ 0 ≤ y ∧ y < 2147483647 ∧ 0 ≤ z ∧ z ≤ c
theorem WellAt.mono {H : Hp} {a : Addr} {c d : Int} (h : WellAt H a c) (l : c ≤ d) : WellAt H a d := by
  obtain ⟨x, y, z, e, h1, h2, h3, h4⟩ := h
  exact ⟨x, y, z, e, h1, h2, h3, by omega⟩
theorem WellAt.same {H H' : Hp} {a : Addr} {c : Int} (h : WellAt H a c) (s : Same H H') : WellAt H' a c := by
  obtain ⟨x, y, z, e, h1, h2, h3, h4⟩ := h
  exact ⟨x, y, z, s _ _ e, h1, h2, h3, h4⟩
theorem WellAt.but {H H' : Hp} {a b : Addr} {c : Int} (h : WellAt H a c) (s : SameBut b H H') (n : a ≠ b) : WellAt H' a c := by
  obtain ⟨x, y, z, e, h1, h2, h3, h4⟩ := h
  exact ⟨x, y, z, s _ _ n e, h1, h2, h3, h4⟩
/-! ### promises of the law's helpers -/
def spCell (K : PySem.W.Frag) : Sp := fun vs H Q _ => ∃ (a : Addr) (ns : List Int) (k : Nat), vs = [.ref a, .int k] ∧ SqL K H a (ns.map V.int) ∧ Q (.int (ns.getD k 0)) H
def spWell : Sp := fun vs H Q _ => ∃ c : Int, vs = [.int c] ∧ ∀ p : Addr, H p = none → ∀ H', Same H H' → WellAt H' p 0 → Q (.ref p) H'
/-- a number from 0 to below m; the well has at most one more -/
def spDraw : Sp := fun vs H Q _ => ∃ (a : Addr) (c m : Int), vs = [.ref a, .int m] ∧ WellAt H a c ∧ c ≤ 1000000000 ∧ 0 < m ∧ m.natAbs < 2 ^ 9000 ∧
  ∀ (r : Int) (H' : Hp), 0 ≤ r → r < m → SameBut a H H' → (∀ b, H b = none → H' b = none) → WellAt H' a (c + 1) → Q (.int r) H'
def topS (i : Nat) : Stmt := PySem.Challenge.pw_echobound_k13_solved_or_lost.main.body.getD i (.Pass ⟨0, 0, 0, 0⟩)
abbrev s_is_whole : Stmt := topS 6
abbrev s_is_fraction : Stmt := topS 7
abbrev s_shared_divisor : Stmt := topS 8
abbrev s_lowest : Stmt := topS 9
abbrev s_is_fractions : Stmt := topS 11
abbrev s_common_bottom : Stmt := topS 12
abbrev s_cleared : Stmt := topS 13
abbrev s_dot : Stmt := topS 14
abbrev s_below_cleared : Stmt := topS 15
abbrev s_row_that_leads : Stmt := topS 16
abbrev s_exchanged : Stmt := topS 17
abbrev s_stepped : Stmt := topS 18
abbrev s_made_up : Stmt := topS 19
abbrev s_cancelled : Stmt := topS 20
abbrev s_solution : Stmt := topS 21
abbrev s_is_row : Stmt := topS 24
abbrev s_is_matrix : Stmt := topS 25
abbrev s_shape_of : Stmt := topS 26
abbrev s_is_square : Stmt := topS 27
abbrev s_is_list_of : Stmt := topS 28
abbrev s_check_square : Stmt := topS 29
abbrev s_check_list : Stmt := topS 30
abbrev s_solved : Stmt := topS 31
abbrev s__law_cell_at : Stmt := topS 33
abbrev s__law_well : Stmt := topS 34
abbrev s__law_draw : Stmt := topS 35
abbrev s__law_one : Stmt := topS 36
abbrev s__law_low : Stmt := topS 37
abbrev s__law_sum : Stmt := topS 38
abbrev s__law_dot : Stmt := topS 39
abbrev s__law_place : Stmt := topS 40
abbrev s__law_lower : Stmt := topS 41
abbrev s__law_built : Stmt := topS 42
abbrev s__law_flat : Stmt := topS 43
abbrev s__law_plain : Stmt := topS 44
abbrev s__law_right : Stmt := topS 45
abbrev s_law : Stmt := topS 46
section
variable {P : Program} {w : World} {K : PySem.W.Frag} {mg : Str → Option Value} {base : Heap}
end
end E1

namespace E1
open PySem PySem.Spec PyProof.Rows L2


end E1

namespace E1
open PySem PySem.Spec PyProof.Rows L2

theorem Vals.rev : ∀ {xs : List V} {us : List Value}, Vals xs us → Vals xs.reverse us.reverse
  | _, _, .nil => .nil
  | _, _, .cons r t => by
    rw [List.reverse_cons, List.reverse_cons]
    exact Vals.append (Vals.rev t) (.cons r .nil)
section
variable {P : Program} {w : World} {K : PySem.W.Frag} {mg : Str → Option Value} {base : Heap} {x : Str} {st : Stmt} {f : Addr} {fd : FuncData} {ps ks : List Str} {k n : Nat} {sp : Sp}
/-- a def without defaults: its arguments by keywords alone or behind others -/
theorem Fun.kbn {qual : Str} (F : Fun K x qual st f fd) {g : List Value → List Value → List Value} {gV : List V → List V → List V} (hrel : ∀ {vs : List V} {us : List Value} {zs : List V} {ws : List Value}, Vals vs us → Vals zs ws → Vals (gV vs zs) (g us ws))
    (h : ∀ (kV doc pm : Value) (an : Option Addr) (cdv ct : Value) (us ws : List Value), us.length = n → ws.length = ks.length → bindArgs (PySem.W.fnOf x qual (defArgs st) (defBody st) (defScope st) .none kV doc pm an cdv ct) ⟨us, ks.zip ws⟩ = pure (ps.zip (g us ws))) : KBn K fd ps n ks g gV := by
  rcases F.ex with ⟨_, _, v1, v2, v3, v4, v5, v6, _, same, _, _⟩
  subst same
  exact ⟨fun s us ws _ l1 l2 => .of_eq (h v1 v2 v3 v4 v5 v6 us ws l1 l2), hrel⟩
/-- a def with defaults, all arguments given -/
theorem FunD.kbn {qual : Str} {params : Arguments} {body : List Stmt} {scope : Scope} {dvs : List V} {kws : List (Str × V)} (F : FunD K x qual params body scope dvs kws f fd) (hd : dvs ≠ []) {g : List Value → List Value → List Value} {gV : List V → List V → List V} (hrel : ∀ {vs : List V} {us : List Value} {zs : List V} {ws : List Value}, Vals vs us → Vals zs ws → Vals (gV vs zs) (g us ws))
    (h : ∀ (T : Addr) (kV doc pm : Value) (an : Option Addr) (cdv ct : Value) (us ws its : List Value), us.length = n → ws.length = ks.length → its.length = dvs.length → ∃ k, bindArgs (PySem.W.fnOf x qual params body scope (.ref T) kV doc pm an cdv ct) ⟨us, ks.zip ws⟩ = seqItems? (.ref T) >>= k ∧ k (some its.toArray) = pure (ps.zip (g us ws))) : KBn K fd ps n ks g gV := by
  rcases F.ex with ⟨_, _, _, v1, v2, v3, v4, v5, v6, _, same, _, _, bare | given, _⟩
  · exact absurd bare.1 hd
  · rcases given with ⟨_, T, _, its, _, dv, at_, it, rel⟩
    subst same dv
    refine ⟨fun s us ws inn l1 l2 => BindsTo.of_looks fun M => ?_, hrel⟩
    rcases h T v1 v2 v3 v4 v5 v6 us ws its l1 l2 rel.length.symm with ⟨go, b1, b2⟩
    rw [b1]
    exact looks_items inn at_ it (.of_pure b2)
end

theorem fun_of {K : PySem.W.Frag} {x qual : Str} {st : Stmt} {f : Addr} {fd : FuncData} (F : FunD K x qual (defArgs st) (defBody st) (defScope st) [] [] f fd) : Fun K x qual st f fd := by
  obtain ⟨oc, od, dV, kV, doc, pm, an, cdv, ct, osl, e, lk, hcd, hd, _⟩ := F.ex
  rcases hd with ⟨_, rfl⟩ | ⟨n, _⟩
  · exact ⟨⟨oc, od, kV, doc, pm, an, cdv, ct, osl, e, lk, hcd⟩, F.kp⟩
  · exact absurd rfl n
theorem ex_at {l : List Bool} (h : (l.all id) = true) {i : Nat} {b : Bool} (e : l[i]? = some b) : b = true := List.all_eq_true.mp h b (List.mem_of_getElem? e)
theorem val_int {K : PySem.W.Frag} {a : Addr} {kvs : List (Str × He.Dv)} (h : He.valsB K a kvs = true) {i : Nat} {k : Str} {v : Int} (e : kvs[i]? = some (k, .int v)) : ∃ t, PySem.W.nsIn K a k = some (some (.int v t)) := by
  obtain ⟨u, e1, r⟩ := He.valsB_ok h (List.mem_of_getElem? e)
  obtain ⟨t, rfl⟩ := r
  exact ⟨t, e1⟩
/-- the head's facts, of these addresses -/
abbrev AlY : Type := He.AlT × Bool
def obsY (as : List Addr) (fa : List He.Fa) (fn : List He.DefD) (ts : List He.Tab) (ex : PySem.W.Frag → Bool) (g : Addr → Option Obj) : AlY := (He.obsT fa fn ts (He.frG g as), ex (He.frG g as))
structure SaysY (fa : List He.Fa) (fn : List He.DefD) (ts : List He.Tab) (ex : PySem.W.Frag → Bool) (w : World) (K : PySem.W.Frag) : Prop where
  t : He.SaysT fa fn ts w K
  more : ex K = true
def hookY (as : List Addr) (fa : List He.Fa) (fn : List He.DefD) (ts : List He.Tab) (ex : PySem.W.Frag → Bool) : PySem.W.Hook where
  α := AlY
  obs := fun s => obsY as fa fn ts ex s.heap.get?
  val := fun w => (He.valT fn ts w, true)
  says := fun w h => ∃ K : PySem.W.Frag, K.In h ∧ SaysY fa fn ts ex w K
  of := fun _ _ e => ⟨_, He.frG_in, congrArg (fun z : AlY => z.1) e, congrArg (fun z : AlY => z.2) e⟩
  keeps := fun _ _ _ ⟨K, hK, c⟩ k => ⟨K, PySem.W.Frag.In.keeps hK k, c⟩
theorem obsY_eq {as : List Addr} {fa : List He.Fa} {fn : List He.DefD} {ts : List He.Tab} {ex : PySem.W.Frag → Bool} {g : Addr → Option Obj} {s : Shared} (h : ∀ a, g a = s.heap.get? a) : obsY as fa fn ts ex g = (hookY as fa fn ts ex).obs s := by
  have e : g = s.heap.get? := funext h
  rw [e]
  rfl
def dd_is_whole : He.DefD := ⟨("is_whole", none), "is_whole", "is_whole", defArgs s_is_whole, defBody s_is_whole, defScope s_is_whole, [], []⟩
def dd_is_fraction : He.DefD := ⟨("is_fraction", none), "is_fraction", "is_fraction", defArgs s_is_fraction, defBody s_is_fraction, defScope s_is_fraction, [], []⟩
def dd_shared_divisor : He.DefD := ⟨("shared_divisor", none), "shared_divisor", "shared_divisor", defArgs s_shared_divisor, defBody s_shared_divisor, defScope s_shared_divisor, [], []⟩
def dd_lowest : He.DefD := ⟨("lowest", none), "lowest", "lowest", defArgs s_lowest, defBody s_lowest, defScope s_lowest, [], []⟩
def dd_is_fractions : He.DefD := ⟨("is_fractions", none), "is_fractions", "is_fractions", defArgs s_is_fractions, defBody s_is_fractions, defScope s_is_fractions, [], []⟩
def dd_common_bottom : He.DefD := ⟨("common_bottom", none), "common_bottom", "common_bottom", defArgs s_common_bottom, defBody s_common_bottom, defScope s_common_bottom, [], []⟩
def dd_cleared : He.DefD := ⟨("cleared", none), "cleared", "cleared", defArgs s_cleared, defBody s_cleared, defScope s_cleared, [], []⟩
def dd_dot : He.DefD := ⟨("dot", none), "dot", "dot", defArgs s_dot, defBody s_dot, defScope s_dot, [], []⟩
def dd_below_cleared : He.DefD := ⟨("below_cleared", none), "below_cleared", "below_cleared", defArgs s_below_cleared, defBody s_below_cleared, defScope s_below_cleared, [], []⟩
def dd_row_that_leads : He.DefD := ⟨("row_that_leads", none), "row_that_leads", "row_that_leads", defArgs s_row_that_leads, defBody s_row_that_leads, defScope s_row_that_leads, [], []⟩
def dd_exchanged : He.DefD := ⟨("exchanged", none), "exchanged", "exchanged", defArgs s_exchanged, defBody s_exchanged, defScope s_exchanged, [], []⟩
def dd_stepped : He.DefD := ⟨("stepped", none), "stepped", "stepped", defArgs s_stepped, defBody s_stepped, defScope s_stepped, [], []⟩
def dd_made_up : He.DefD := ⟨("made_up", none), "made_up", "made_up", defArgs s_made_up, defBody s_made_up, defScope s_made_up, [], []⟩
def dd_cancelled : He.DefD := ⟨("cancelled", none), "cancelled", "cancelled", defArgs s_cancelled, defBody s_cancelled, defScope s_cancelled, [], []⟩
def dd_solution : He.DefD := ⟨("solution", none), "solution", "solution", defArgs s_solution, defBody s_solution, defScope s_solution, [], []⟩
def dd_is_row : He.DefD := ⟨("is_row", none), "is_row", "is_row", defArgs s_is_row, defBody s_is_row, defScope s_is_row, [], []⟩
def dd_is_matrix : He.DefD := ⟨("is_matrix", none), "is_matrix", "is_matrix", defArgs s_is_matrix, defBody s_is_matrix, defScope s_is_matrix, [], []⟩
def dd_shape_of : He.DefD := ⟨("shape_of", none), "shape_of", "shape_of", defArgs s_shape_of, defBody s_shape_of, defScope s_shape_of, [], []⟩
def dd_is_square : He.DefD := ⟨("is_square", none), "is_square", "is_square", defArgs s_is_square, defBody s_is_square, defScope s_is_square, [], []⟩
def dd_is_list_of : He.DefD := ⟨("is_list_of", none), "is_list_of", "is_list_of", defArgs s_is_list_of, defBody s_is_list_of, defScope s_is_list_of, [], []⟩
def dd_check_square : He.DefD := ⟨("check_square", none), "check_square", "check_square", defArgs s_check_square, defBody s_check_square, defScope s_check_square, [], []⟩
def dd_check_list : He.DefD := ⟨("check_list", none), "check_list", "check_list", defArgs s_check_list, defBody s_check_list, defScope s_check_list, [], []⟩
def dd_solved : He.DefD := ⟨("solved", none), "solved", "solved", defArgs s_solved, defBody s_solved, defScope s_solved, [], []⟩
def dd__law_cell_at : He.DefD := ⟨("_law_cell_at", none), "_law_cell_at", "_law_cell_at", defArgs s__law_cell_at, defBody s__law_cell_at, defScope s__law_cell_at, [], []⟩
def dd__law_well : He.DefD := ⟨("_law_well", none), "_law_well", "_law_well", defArgs s__law_well, defBody s__law_well, defScope s__law_well, [], []⟩
def dd__law_draw : He.DefD := ⟨("_law_draw", none), "_law_draw", "_law_draw", defArgs s__law_draw, defBody s__law_draw, defScope s__law_draw, [], []⟩
def dd__law_one : He.DefD := ⟨("_law_one", none), "_law_one", "_law_one", defArgs s__law_one, defBody s__law_one, defScope s__law_one, [], []⟩
def dd__law_low : He.DefD := ⟨("_law_low", none), "_law_low", "_law_low", defArgs s__law_low, defBody s__law_low, defScope s__law_low, [], []⟩
def dd__law_sum : He.DefD := ⟨("_law_sum", none), "_law_sum", "_law_sum", defArgs s__law_sum, defBody s__law_sum, defScope s__law_sum, [], []⟩
def dd__law_dot : He.DefD := ⟨("_law_dot", none), "_law_dot", "_law_dot", defArgs s__law_dot, defBody s__law_dot, defScope s__law_dot, [], []⟩
def dd__law_place : He.DefD := ⟨("_law_place", none), "_law_place", "_law_place", defArgs s__law_place, defBody s__law_place, defScope s__law_place, [], []⟩
def dd__law_lower : He.DefD := ⟨("_law_lower", none), "_law_lower", "_law_lower", defArgs s__law_lower, defBody s__law_lower, defScope s__law_lower, [], []⟩
def dd__law_built : He.DefD := ⟨("_law_built", none), "_law_built", "_law_built", defArgs s__law_built, defBody s__law_built, defScope s__law_built, [], []⟩
def dd__law_flat : He.DefD := ⟨("_law_flat", none), "_law_flat", "_law_flat", defArgs s__law_flat, defBody s__law_flat, defScope s__law_flat, [], []⟩
def dd__law_plain : He.DefD := ⟨("_law_plain", none), "_law_plain", "_law_plain", defArgs s__law_plain, defBody s__law_plain, defScope s__law_plain, [], []⟩
def dd__law_right : He.DefD := ⟨("_law_right", none), "_law_right", "_law_right", defArgs s__law_right, defBody s__law_right, defScope s__law_right, [], []⟩
def dd_law : He.DefD := ⟨("law", none), "law", "law", defArgs s_law, defBody s_law, defScope s_law, [], []⟩
def FN_0 : List He.DefD := [dd_is_whole, dd_is_fraction, dd_shared_divisor, dd_lowest, dd_is_fractions, dd_common_bottom, dd_cleared, dd_dot, dd_below_cleared, dd_row_that_leads, dd_exchanged, dd_stepped, dd_made_up, dd_cancelled, dd_solution, dd_is_row, dd_is_matrix, dd_shape_of, dd_is_square, dd_is_list_of]
def FN_1 : List He.DefD := [dd_check_square, dd_check_list, dd_solved, dd__law_cell_at, dd__law_well, dd__law_draw, dd__law_one, dd__law_low, dd__law_sum, dd__law_dot, dd__law_place, dd__law_lower, dd__law_built, dd__law_flat, dd__law_plain, dd__law_right, dd_law]
def FN : List He.DefD := FN_0 ++ (FN_1)
def FA_0 : List He.Fa := [.glo "is_whole", .glo "is_fraction", .glo "shared_divisor", .glo "lowest", .glo "is_fractions", .glo "common_bottom", .glo "cleared", .glo "dot", .glo "below_cleared", .glo "row_that_leads", .glo "exchanged", .glo "stepped", .glo "made_up", .glo "cancelled", .glo "solution", .glo "is_row", .glo "is_matrix", .glo "shape_of", .glo "is_square", .glo "is_list_of"]
def FA_1 : List He.Fa := [.glo "check_square", .glo "check_list", .glo "solved", .glo "_law_cell_at", .glo "_law_well", .glo "_law_draw", .glo "_law_one", .glo "_law_low", .glo "_law_sum", .glo "_law_dot", .glo "_law_place", .glo "_law_lower", .glo "_law_built", .glo "_law_flat", .glo "_law_plain", .glo "_law_right", .glo "law", .int "MOST_ROWS" 10, .glo "ONE", .glo "NOUGHT"]
def FA_2 : List He.Fa := [.free "isinstance", .free "int", .free "bool", .free "tuple", .free "len", .free "abs", .free "list", .free "all", .free "sum", .free "zip", .free "range", .free "reversed", .free "enumerate"]
def FA : List He.Fa := FA_0 ++ (FA_1 ++ (FA_2))
def TS_0 : List He.Tab := []
def TS : List He.Tab := TS_0
def EXL_0 (K : PySem.W.Frag) : List Bool := [He.tupB K "ONE" [.int 1, .int 1], He.tupB K "NOUGHT" [.int 0, .int 1]]
def EXL (K : PySem.W.Frag) : List Bool := EXL_0 K
def EXB (K : PySem.W.Frag) : Bool := (EXL K).all id
end E1

namespace HX
open PySem PySem.W PySem.Calls PyProof.Rows
abbrev RR : OpenRow := OpenLaw.row PySem.Challenge.rw_echobound_k13_solved_or_lost
abbrev qv : Program := view RR.prog [46]
def names_0 : List PySem.Str := [("__name__" : PySem.Str), ("EchoError" : PySem.Str), ("NoMatrix" : PySem.Str), ("NOUGHT" : PySem.Str), ("ONE" : PySem.Str), ("is_whole" : PySem.Str), ("is_fraction" : PySem.Str), ("shared_divisor" : PySem.Str), ("lowest" : PySem.Str), ("is_fractions" : PySem.Str), ("common_bottom" : PySem.Str), ("cleared" : PySem.Str), ("dot" : PySem.Str), ("below_cleared" : PySem.Str), ("row_that_leads" : PySem.Str), ("exchanged" : PySem.Str), ("stepped" : PySem.Str), ("made_up" : PySem.Str), ("cancelled" : PySem.Str), ("solution" : PySem.Str)]
def names_1 : List PySem.Str := [("MOST_ROWS" : PySem.Str), ("is_row" : PySem.Str), ("is_matrix" : PySem.Str), ("shape_of" : PySem.Str), ("is_square" : PySem.Str), ("is_list_of" : PySem.Str), ("check_square" : PySem.Str), ("check_list" : PySem.Str), ("solved" : PySem.Str), ("_law_cell_at" : PySem.Str), ("_law_well" : PySem.Str), ("_law_draw" : PySem.Str), ("_law_one" : PySem.Str), ("_law_low" : PySem.Str), ("_law_sum" : PySem.Str), ("_law_dot" : PySem.Str), ("_law_place" : PySem.Str), ("_law_lower" : PySem.Str), ("_law_built" : PySem.Str), ("_law_flat" : PySem.Str)]
def names_2 : List PySem.Str := [("_law_plain" : PySem.Str), ("_law_right" : PySem.Str)]
def names : List PySem.Str := names_0 ++ (names_1 ++ (names_2))
def AS_0 : List Addr := [3, 6, 4, 24, 37, 40, 41, 48, 55, 62, 69, 74, 81, 86, 91, 96, 103, 110, 117, 122, 127, 132, 139, 144, 151, 158, 165, 172, 179, 184]
def AS_1 : List Addr := [191, 198, 205, 212, 219, 226, 231, 238, 243, 248, 253, 258, 263, 268, 0, 23, 36, 47, 54, 61, 68, 73, 80, 85, 90, 95, 102, 109, 116, 121]
def AS_2 : List Addr := [126, 131, 138, 143, 150, 157, 164, 171, 178, 183, 190, 197, 204, 211, 218, 225, 230, 237, 242, 247, 252, 257, 262, 267, 46, 53, 60, 67, 72, 79]
def AS_3 : List Addr := [84, 89, 94, 101, 108, 115, 120, 125, 130, 137, 142, 149, 156, 163, 170, 177, 182, 189, 196, 203, 210, 217, 224, 229, 236, 241, 246, 251, 256, 261]
def AS_4 : List Addr := [266, 2]
def AS : List Addr := AS_0 ++ (AS_1 ++ (AS_2 ++ (AS_3 ++ (AS_4))))
abbrev hk : PySem.W.Hook := E1.hookY AS E1.FA E1.FN E1.TS E1.EXB
def ob (s : PySem.W.SharedT) : E1.AlY := E1.obsY AS E1.FA E1.FN E1.TS E1.EXB (HandSHeadRun.getT s)
theorem ob_eq (s : PySem.W.SharedT) : ob s = hk.obs s.abs := E1.obsY_eq (HandSHeadRun.getT_eq s)
set_option maxRecDepth 100000 in
set_option maxHeartbeats 0 in
theorem run_f (w : World) : HandSHeadRun.RunEq RR qv hk ob 1607 names (w.withFollow "special-get-raises" false) := fun os => by kernel_rfl
set_option maxRecDepth 100000 in
set_option maxHeartbeats 0 in
theorem run_t (w : World) : HandSHeadRun.RunEq RR qv hk ob 1607 names (w.withFollow "special-get-raises" true) := fun os => by kernel_rfl
theorem run (w : World) : HandSHeadRun.RunEq RR qv hk ob 1607 names w :=
  byRow2 "special-get-raises" (P := fun w => HandSHeadRun.RunEq RR qv hk ob 1607 names w) run_f run_t w
end HX

namespace E1
open PySem PySem.Spec PyProof.Rows L2

def CalD (P : Program) (w : World) (K : PySem.W.Frag) (mg : Str → Option Value) (base : Heap) (k : Nat) (x : Str) (ps : List Str) (dvs : List V) (sp : Sp) : Prop :=
  ∃ (f : Addr) (fd : FuncData) (ds : List Value), mg x = some (.ref f) ∧ PySem.W.keepIn K (.ref f) = true ∧ Vals dvs ds ∧ Binds K fd ps ds ∧ FnOk P w K mg base CX0 k f fd ps sp
theorem pe_cald {X : Cx} {k j : Nat} {x : Str} {ps : List Str} {dvs : List V} {sp : Sp} {e : Expr} {es : List Expr} {t : TA} {p pos : Pos} (c : CalD X.prog X.w X.K X.mg X.base k x ps dvs sp) (hr : Room j X.A) (ha : PA X (e :: es) t) (hle : k ≤ j := by decide) (hg : Gl X x := by rfl)
    (hdb : (x == ("__debug__" : Str)) = false := by decide) (he : starEach (e :: es) X.env = (false, eval e X.env) :: starEach es X.env := by rfl) (hpl : (backTo pos (starEach es X.env)).any (·.1) = false := by rfl) :
    PE X (.Call (.Name x p) (e :: es) [] pos) (tCall sp dvs E0 t) := by
  obtain ⟨f, fd, ds, h1, h2, hd, h3, h4⟩ := c
  exact pe_call h4 (hr.mono hle) hg h1 h2 h3 hd pass0 ha hdb he hpl
def CalK (P : Program) (w : World) (K : PySem.W.Frag) (mg : Str → Option Value) (base : Heap) (k : Nat) (x : Str) (ps : List Str) (n : Nat) (ks : List Str) (gV : List V → List V → List V) (sp : Sp) : Prop :=
  ∃ (f : Addr) (fd : FuncData) (g : List Value → List Value → List Value), mg x = some (.ref f) ∧ PySem.W.keepIn K (.ref f) = true ∧ KBn K fd ps n ks g gV ∧ FnOk P w K mg base CX0 k f fd ps sp
theorem pe_calk {X : Cx} {k j n : Nat} {x : Str} {ps ks : List Str} {gV : List V → List V → List V} {sp : Sp} {e : Expr} {es : List Expr} {kws : List Keyword} {t tk : TA} {p pos : Pos} (c : CalK X.prog X.w X.K X.mg X.base k x ps n ks gV sp) (hr : Room j X.A)
    (ha : PA X (e :: es) t) (hkw : PK X kws tk) (hle : k ≤ j := by decide) (hg : Gl X x := by rfl) (hall : (backToKw pos (keywordEach kws X.env)).all (·.1.isSome) = true := by rfl) (hks : (backToKw pos (keywordEach kws X.env)).filterMap (·.1) = ks := by rfl)
    (hdb : (x == ("__debug__" : Str)) = false := by decide) (he : starEach (e :: es) X.env = (false, eval e X.env) :: starEach es X.env := by rfl)
    (hpl : ((backTo pos (starEach (e :: es) X.env)).any (·.1) || (backToKw pos (keywordEach kws X.env)).any (·.1.isNone)) = false := by rfl) :
    PE X (.Call (.Name x p) (e :: es) kws pos) (tCallN n ks.length sp gV E0 t tk) := by
  obtain ⟨f, fd, g, h1, h2, h3, h4⟩ := c
  exact pe_callN h4 (hr.mono hle) hg h1 h2 h3 pass0 ha hkw hall hks hdb he hpl
theorem pe_calk0 {X : Cx} {k j : Nat} {x : Str} {ps ks : List Str} {gV : List V → List V → List V} {sp : Sp} {kws : List Keyword} {tk : TA} {p pos : Pos} (c : CalK X.prog X.w X.K X.mg X.base k x ps 0 ks gV sp) (hr : Room j X.A)
    (hkw : PK X kws tk) (hle : k ≤ j := by decide) (hg : Gl X x := by rfl) (hall : (backToKw pos (keywordEach kws X.env)).all (·.1.isSome) = true := by rfl) (hks : (backToKw pos (keywordEach kws X.env)).filterMap (·.1) = ks := by rfl)
    (hdb : (x == ("__debug__" : Str)) = false := by decide)
    (hpl : ((backTo pos (starEach [] X.env)).any (·.1) || (backToKw pos (keywordEach kws X.env)).any (·.1.isNone)) = false := by rfl) :
    PE X (.Call (.Name x p) [] kws pos) (tCallN 0 ks.length sp gV E0 tNil tk) := by
  obtain ⟨f, fd, g, h1, h2, h3, h4⟩ := c
  refine ⟨fun pins s σ H Q I h => ?_⟩
  refine wpAny_Call_Name_kw (ld_glob I hg h1 ?_ hdb)
  refine PySem.W.callWith_KW0 (h₀ := X.base) I.ok.mod.kin h2 hall (thn (hkw.run pos pins s σ H _ I h) fun ws s2 ⟨zs, H2, I2, rz, l1, l2, q2⟩ => ⟨I2.kIn, ?_⟩) hpl
  rw [hks]
  exact run_fnN (vs := []) (us := []) h4 (hr.mono hle) h3 pass0 I2 .nil rz l1 l2 q2
/-- a class handed to isinstance -/
theorem isiB {K : PySem.W.Frag} {H : Hp} {x : V} {a b : String} {r : Bool} {Q : VK} (ty : TyX K H x (.type a)) (k : kitB a b = some r) (q : Q (.bl r) H) : rIsi K [x, .ty b] H Q :=
  ⟨x, .ty b, .type a, .type b, r, rfl, .ty _, ty, kit_ty k, q⟩
/-- whether a thing is a whole number -/
def WholeIs (K : PySem.W.Frag) (H : Hp) (x : V) (b : Bool) : Prop := (∃ i, x = .int i ∧ b = true) ∨ (∃ c, x = .bl c ∧ b = false) ∨ (b = false ∧ ∃ t : String, TyX K H x (.type t) ∧ kitB t "int" = some false)
theorem WholeIs.int {K : PySem.W.Frag} {H : Hp} (i : Int) : WholeIs K H (.int i) true := .inl ⟨i, rfl, rfl⟩
def spWhole (K : PySem.W.Frag) : Sp := fun vs H Q _ => ∃ (x : V) (b : Bool), vs = [x] ∧ WholeIs K H x b ∧ Q (.bl b) H
/-! ### the mathematics of fractions in lowest terms -/
def gI (t b : Int) : Int := (Int.gcd t b : Nat)
def lowT (t b : Int) : Int := (if b < 0 then -t else t) / gI t b
def lowB (t b : Int) : Int := (if b < 0 then -b else b) / gI t b
theorem gI_neg (t b : Int) : gI (-t) (-b) = gI t b := by
  unfold gI
  rw [Int.neg_gcd, Int.gcd_neg]
theorem gI_pos {t b : Int} (h : b ≠ 0) : 0 < gI t b := by
  have : 0 < Int.gcd t b := Int.gcd_pos_of_ne_zero_right t h
  unfold gI
  omega
theorem gI_le {t b : Int} (h : b ≠ 0) : (gI t b).natAbs ≤ b.natAbs := by
  have d : Int.gcd t b ∣ b.natAbs := Nat.gcd_dvd_right t.natAbs b.natAbs
  have := Nat.le_of_dvd (by omega) d
  unfold gI
  omega
def spShared : Sp := fun vs H Q _ => ∃ t b : Int, vs = [.int t, .int b] ∧ 0 ≤ b ∧ Q (.int (gI t b)) H
def spLow : Sp := fun vs H Q _ => ∃ t b : Int, vs = [.int t, .int b] ∧ b ≠ 0 ∧ b.natAbs < 2 ^ 4000 ∧ ∀ p, H p = none → Q (.ref p) (upd H p (.tup [.int (lowT t b), .int (lowB t b)]))
/-- two fractions at two places; the tops and bottoms told by f and d -/
def spTwo (K : PySem.W.Frag) (pre : Int → Int → Int → Int → Prop) (f d : Int → Int → Int → Int → Int) : Sp := fun vs H Q _ => ∃ (a c : Addr) (t u v x : Int), vs = [.ref a, .ref c] ∧ SqT K H a [.int t, .int u] ∧ SqT K H c [.int v, .int x] ∧
  pre t u v x ∧ 0 < u ∧ 0 < x ∧ t.natAbs < 2 ^ 1900 ∧ u.natAbs < 2 ^ 1900 ∧ v.natAbs < 2 ^ 1900 ∧ x.natAbs < 2 ^ 1900 ∧ ∀ p, H p = none → Q (.ref p) (upd H p (.tup [.int (lowT (f t u v x) (d t u v x)), .int (lowB (f t u v x) (d t u v x))]))
def spUnder (K : PySem.W.Frag) : Sp := fun vs H Q _ => ∃ (a c : Addr) (t u v x : Int), vs = [.ref a, .ref c] ∧ SqT K H a [.int t, .int u] ∧ SqT K H c [.int v, .int x] ∧
  t.natAbs < 2 ^ 1900 ∧ u.natAbs < 2 ^ 1900 ∧ v.natAbs < 2 ^ 1900 ∧ x.natAbs < 2 ^ 1900 ∧ Q (.bl (decide (t * x < v * u))) H
def absI (t : Int) : Int := if t < 0 then -t else t
def spSize (K : PySem.W.Frag) : Sp := fun vs H Q _ => ∃ (a : Addr) (t u : Int), vs = [.ref a] ∧ SqT K H a [.int t, .int u] ∧ ∀ p, H p = none → Q (.ref p) (upd H p (.tup [.int (absI t), .int u]))
def twoT (m : Int) : Int := if m < 0 then 1 else 2 ^ m.toNat
def twoB (m : Int) : Int := if m < 0 then 2 ^ (-m).toNat else 1
def spTwoTo : Sp := fun vs H Q _ => ∃ m : Int, vs = [.int m] ∧ -400 ≤ m ∧ m ≤ 400 ∧ ∀ p, H p = none → Q (.ref p) (upd H p (.tup [.int (twoT m), .int (twoB m)]))
def spIsFrac : Sp := fun vs H Q _ => ∃ (a : Addr) (t u : Int), vs = [.ref a] ∧ H a = some (.tup [.int t, .int u]) ∧ 1 ≤ u ∧ Q (.bl (decide (gI t u = 1))) H
theorem up {x : Nat} {a b : Nat} (h : x < 2 ^ a) (l : a ≤ b) : x < 2 ^ b := Nat.lt_of_lt_of_le h (Nat.pow_le_pow_right (by decide) l)
theorem same_but {H H1 H2 : Hp} {p : Addr} (s : Same H H1) (b : SameBut p H1 H2) (hp : H p = none) : Same H H2 := fun a o e => b a o (ne_of_none e hp) (s a o e)
theorem iteN {c A B : Prop} [Decidable c] (h1 : ¬ c → A) (h2 : c → B) : if (!decide c) = true then A else B := by
  by_cases h : c
  · rw [decide_eq_true h]
    exact iteF (h2 h)
  · rw [decide_eq_false h]
    exact iteT (h1 h)
theorem Same.free {H H' : Hp} {p : Addr} (s : Same H H') (h : H' p = none) : H p = none := by
  cases e : H p with
  | none => rfl
  | some o =>
    rw [s _ _ e] at h
    cases h
structure Zs (mg : Str → Option Value) : Prop where
  isinstance : mg "isinstance" = none
  int : mg "int" = none
  bool : mg "bool" = none
  tuple : mg "tuple" = none
  len : mg "len" = none
  abs : mg "abs" = none
  list : mg "list" = none
  all : mg "all" = none
  sum : mg "sum" = none
  zip : mg "zip" = none
  range : mg "range" = none
  reversed : mg "reversed" = none
  enumerate : mg "enumerate" = none
section
variable {P : Program} {w : World} {K : PySem.W.Frag} {mg : Str → Option Value} {base : Heap}
theorem sc_is_whole : FnScope ["thing"] ["thing"] (defScope s_is_whole) := ⟨rfl, rfl, rfl, by decide +kernel, rfl, by decide +kernel, by decide +kernel⟩
theorem ok_is_whole {f : Addr} {fd : FuncData} {k : Nat} (F : Fun K "is_whole" "is_whole" s_is_whole f fd) (z : Zs mg) : FnOk P w K mg base CX0 (k + 1) f fd ["thing"] (spWhole K) := by
  refine F.ok sc_is_whole (fun vs H Q E h => ?_) (fun cdv A outer s H vs Q E hr h => ?_)
  · obtain ⟨x, b, rfl, _⟩ := h
    rfl
  · obtain ⟨x, b, rfl, hw, q⟩ := h
    refine ⟨_, (pss_one (ps_ret (pe_and (pe_callB call_isi (by rfl) z.isinstance (by decide +kernel) (pa_cons (pv 0) (pa_cons (pe_bltn (v := .ty "int") (by rfl) z.int (by decide +kernel) rfl) pa_nil))) (pe_one (pe_not (pe_callB call_isi (by rfl) z.isinstance (by decide +kernel) (pa_cons (pv 0) (pa_cons (pe_bltn (v := .ty "bool") (by rfl) z.bool (by decide +kernel) rfl) pa_nil)))))))), ?_⟩
    rcases hw with ⟨i, rfl, rfl⟩ | ⟨c, rfl, rfl⟩ | ⟨rfl, t, ty, kt⟩
    · exact ⟨_, rfl, _, .ty "int", _, _, true, rfl, .ty _, .base (.int i), kit_ty (by decide +kernel), _, rfl, iteT ⟨_, rfl, _, .ty "bool", _, _, false, rfl, .ty _, .base (.int i), kit_ty (by decide +kernel), _, rfl, q⟩⟩
    · exact ⟨_, rfl, _, .ty "int", _, _, true, rfl, .ty _, .base (.bl c), kit_ty (by decide +kernel), _, rfl, iteT ⟨_, rfl, _, .ty "bool", _, _, true, rfl, .ty _, .base (.bl c), kit_ty (by decide +kernel), _, rfl, q⟩⟩
    · exact ⟨_, rfl, _, .ty "int", _, _, false, rfl, .ty _, ty, kit_ty kt, _, rfl, iteF q⟩
theorem sc_shared_divisor : FnScope ["top", "bottom", "one", "other"] ["top", "bottom"] (defScope s_shared_divisor) := ⟨rfl, rfl, rfl, by decide +kernel, rfl, by decide +kernel, by decide +kernel⟩
theorem ok_shared_divisor {f : Addr} {fd : FuncData} {k : Nat} (F : Fun K "shared_divisor" "shared_divisor" s_shared_divisor f fd) (z : Zs mg) : FnOk P w K mg base CX0 (k + 1) f fd ["top", "bottom"] spShared := by
  refine F.ok sc_shared_divisor (fun vs H Q E h => ?_) (fun cdv A outer s H vs Q E hr h => ?_)
  · obtain ⟨t, b, rfl, _⟩ := h
    rfl
  · obtain ⟨t, b, rfl, hb, q⟩ := h
    refine ⟨_, (pss_cons (ps_set (i := 2) sc_shared_divisor.nd rfl (.inl rfl) (pe_callB call_abs (by rfl) z.abs (by decide +kernel) (pa_cons (pv 0) pa_nil)))
      (pss_cons (ps_set (i := 3) sc_shared_divisor.nd rfl (.inl rfl) (pv 1))
      (pss_cons (ps_while PassesOwn.never (pt_truth (pv 3) (by intro _; rfl)) (pss_one (ps_par (i := 2) (j := 3) (by rfl) sc_shared_divisor.nd rfl rfl (by decide) rfl rfl (pa_cons (pv 3) (pa_cons (pe_op op_mod (pv 2) (pv 3)) pa_nil)) (by rfl))))
      (pss_one (ps_ret (pv 2)))))), ?_⟩
    refine ⟨_, rfl, _, rfl, ?_⟩
    refine ⟨_, rfl, ?_⟩
    dsimp only [gName, tSeq]
    refine while_by (fun σ H' => H' = H ∧ ∃ m n : Nat, σ = [some (.int t), some (.int b), some (.int (m : Int)), some (.int (n : Int))] ∧ Nat.gcd m n = Int.gcd t b)
      (fun σ _ => match σ with | [_, _, _, some (.int r)] => r.toNat | _ => 0) ⟨rfl, t.natAbs, b.natAbs, ?_, rfl⟩ (fun σ H1 hP => ?_) (fun σ H Q Q' m hh => ?_)
    · have e1 : (if t < 0 then -t else t) = (t.natAbs : Int) := by split <;> omega
      have e2 : b = (b.natAbs : Int) := by omega
      show [some (V.int t), some (V.int b), some (V.int (if t < 0 then -t else t)), some (V.int b)] = _
      rw [e1, ← e2]
    · obtain ⟨rfl, m, n, rfl, hg⟩ := hP
      refine ⟨_, rfl, _, rfl, ?_⟩
      by_cases hn : n = 0
      · subst hn
        have e : ((((0 : Nat) : Int)) != 0) = false := rfl
        rw [e]
        refine iteF ⟨_, rfl, ?_⟩
        rw [Nat.gcd_zero_right] at hg
        have e2 : (m : Int) = gI t b := by
          unfold gI
          rw [hg]
        rw [e2]
        exact q
      · have e : ((n : Int) != 0) = true := by
          rw [bne_iff_ne]
          omega
        rw [e]
        refine iteT ⟨_, rfl, _, rfl, _, rfl, _, _, rfl, rfl, (by omega), _, _, rfl, ⟨⟨rfl, n, m % n, rfl, ?_⟩, ?_⟩⟩
        · rw [← hg, Nat.gcd_comm n (m % n), ← Nat.gcd_rec n m, Nat.gcd_comm]
        · show ((m : Int) % (n : Int)).toNat < ((n : Int)).toNat
          have := Int.emod_lt_of_pos (m : Int) (show (0 : Int) < n by omega)
          have := Int.emod_nonneg (m : Int) (show (n : Int) ≠ 0 by omega)
          omega
    · obtain ⟨v, e, kk, tv, hq⟩ := hh
      exact ⟨v, e, kk, tv, m _ _ hq⟩
theorem sc_lowest : FnScope ["top", "bottom", "shared"] ["top", "bottom"] (defScope s_lowest) := ⟨rfl, rfl, rfl, by decide +kernel, rfl, by decide +kernel, by decide +kernel⟩
theorem ok_lowest {f : Addr} {fd : FuncData} (F : Fun K "lowest" "lowest" s_lowest f fd) (c_shared_divisor : Cal P w K mg base 1 "shared_divisor" ["top", "bottom"] spShared) : FnOk P w K mg base CX0 2 f fd ["top", "bottom"] spLow := by
  refine F.ok sc_lowest (fun vs H Q E h => ?_) (fun cdv A outer s H vs Q E hr h => ?_)
  · obtain ⟨t, b, rfl, _⟩ := h
    rfl
  · obtain ⟨t, b, rfl, hb, hl, q⟩ := h
    refine ⟨_, (pss_cons (ps_if (pt_cmpR op_lt (pv 1) pe_int (nomark _)) (pss_cons (ps_set (i := 0) sc_lowest.nd rfl (.inl rfl) (pe_un un_neg (pv 0)))
      (pss_one (ps_set (i := 1) sc_lowest.nd rfl (.inl rfl) (pe_un un_neg (pv 1))))) pss_nil)
      (pss_cons (ps_set (i := 2) sc_lowest.nd rfl (.inl rfl) (pe_cal c_shared_divisor hr (pa_cons (pv 0) (pa_cons (pv 1) pa_nil))))
      (pss_one (ps_ret (pe_tup (pa_cons (pe_op op_fdivW (pv 0) (pv 2)) (pa_cons (pe_op op_fdivW (pv 1) (pv 2)) pa_nil))))))), ?_⟩
    have g0 := gI_pos (t := t) hb
    have g1 : (gI t b).natAbs < 2 ^ 4000 := Nat.lt_of_le_of_lt (gI_le hb) hl
    refine ⟨_, rfl, _, _, rfl, rfl, _, rfl, ite2 (fun c => ?_) (fun c => ?_)⟩
    · have hc := toB c
      refine ⟨_, rfl, _, rfl, ?_⟩
      refine ⟨_, rfl, _, rfl, ?_⟩
      refine ⟨_, rfl, _, rfl, -t, -b, rfl, by omega, ?_⟩
      rw [gI_neg]
      refine ⟨_, rfl, _, rfl, _, _, rfl, rfl, wide_div g0 g1 (by decide) (by decide), _, rfl, _, rfl, _, _, rfl, rfl, wide_div g0 g1 (by decide) (by decide), (by show 2 ≤ sizeLine; decide), fun p hp => ?_⟩
      have := q p hp
      unfold lowT lowB at this
      rw [if_pos hc, if_pos hc] at this
      exact this
    · have hc := toNB c
      refine ⟨_, rfl, _, rfl, t, b, rfl, by omega, ?_⟩
      refine ⟨_, rfl, _, rfl, _, _, rfl, rfl, wide_div g0 g1 (by decide) (by decide), _, rfl, _, rfl, _, _, rfl, rfl, wide_div g0 g1 (by decide) (by decide), (by show 2 ≤ sizeLine; decide), fun p hp => ?_⟩
      have := q p hp
      unfold lowT lowB at this
      rw [if_neg hc, if_neg hc] at this
      exact this
theorem sc_is_fraction : FnScope ["thing", "top", "bottom"] ["thing"] (defScope s_is_fraction) := ⟨rfl, rfl, rfl, by decide +kernel, rfl, by decide +kernel, by decide +kernel⟩
theorem ok_is_fraction {f : Addr} {fd : FuncData} (F : Fun K "is_fraction" "is_fraction" s_is_fraction f fd) (z : Zs mg) (c_is_whole : Cal P w K mg base 1 "is_whole" ["thing"] (spWhole K)) (c_shared_divisor : Cal P w K mg base 1 "shared_divisor" ["top", "bottom"] spShared) : FnOk P w K mg base CX0 2 f fd ["thing"] spIsFrac := by
  refine F.ok sc_is_fraction (fun vs H Q E h => ?_) (fun cdv A outer s H vs Q E hr h => ?_)
  · obtain ⟨a, t, u, rfl, _⟩ := h
    rfl
  · obtain ⟨a, t, u, rfl, ha, hu, q⟩ := h
    refine ⟨_, (pss_cons (ps_if (PW.pt (pw_or (pt_not (pt_val (pe_callB call_isi (by rfl) z.isinstance (by decide +kernel) (pa_cons (pv 0) (pa_cons (pe_bltn (v := .ty "tuple") (by rfl) z.tuple (by decide +kernel) rfl) pa_nil))))) (pw_or1 (pt_cmpR op_ne (pe_callB call_len_seq (by rfl) z.len PySem.boot_len (pa_cons (pv 0) pa_nil)) pe_int (nomark _))))) (pss_one (ps_ret pe_bl)) pss_nil)
      (pss_cons (ps_asg (pv 0) (pg_tup (by rfl) (pgs_cons (pg_name (i := 1) sc_is_fraction.nd rfl (.inl rfl)) (pgs_cons (pg_name (i := 2) sc_is_fraction.nd rfl (.inl rfl)) pgs_nil))))
      (pss_cons (ps_if (PW.pt (pw_or (pt_not (pt_val (pe_cal c_is_whole hr (pa_cons (pv 1) pa_nil)))) (pw_or (pt_not (pt_val (pe_cal c_is_whole hr (pa_cons (pv 2) pa_nil)))) (pw_or1 (pt_cmpR op_lt (pv 2) pe_int (nomark _)))))) (pss_one (ps_ret pe_bl)) pss_nil)
      (pss_one (ps_ret (pe_cmpR op_eq (pe_cal c_shared_divisor hr (pa_cons (pv 1) (pa_cons (pv 2) pa_nil))) pe_int (nomark _))))))), ?_⟩
    refine ⟨_, rfl, _, .ty "tuple", _, _, true, rfl, .ty _, .base (.tup ha), kit_ty (by decide +kernel), _, rfl, iteF ⟨_, rfl, a, _, rfl, .inr (SqT.of ha), rfl, _, rfl, iteF ?_⟩⟩
    refine ⟨_, rfl, a, _, rfl, SqT.of ha, rfl, _, _, rfl, _, _, rfl, rfl, ?_⟩
    refine ⟨_, rfl, _, _, rfl, .int t, _, rfl, iteF ⟨_, rfl, _, _, rfl, .int u, _, rfl, iteF ⟨_, rfl, _, _, rfl, rfl, _, rfl, ite2 (fun c => ?_) (fun c => ?_)⟩⟩⟩
    · have := toB c
      omega
    · refine ⟨_, rfl, _, rfl, t, u, rfl, by omega, rfl, ?_⟩
      have e : (decide (V.int (gI t u) = V.int 1)) = decide (gI t u = 1) := by
        by_cases h : gI t u = 1
        · rw [h]
          rfl
        · rw [decide_eq_false h, decide_eq_false (fun z => h (V.int.inj z))]
      rw [e]
      exact q
end
end E1

namespace E1
open PySem PySem.Spec PyProof.Rows L2
/-! ### sums and convolutions of fractions -/
def sg (f : Nat → Rat) : Nat → Rat
  | 0 => 0
  | n + 1 => sg f n + f n
theorem sg_congr {f g : Nat → Rat} : ∀ n, (∀ i, i < n → f i = g i) → sg f n = sg g n
  | 0, _ => rfl
  | n + 1, h => by
    show sg f n + f n = sg g n + g n
    rw [sg_congr n fun i hi => h i (by omega), h n (by omega)]
theorem sg_zero {f : Nat → Rat} (n : Nat) (h : ∀ i, i < n → f i = 0) : sg f n = 0 := by
  induction n with
  | zero => rfl
  | succ n ih =>
    show sg f n + f n = 0
    rw [ih fun i hi => h i (by omega), h n (by omega)]
    grind
theorem sg_first (f : Nat → Rat) : ∀ n, sg f (n + 1) = f 0 + sg (fun i => f (i + 1)) n
  | 0 => by
    show 0 + f 0 = f 0 + 0
    grind
  | n + 1 => by
    show sg f (n + 1) + f (n + 1) = f 0 + (sg (fun i => f (i + 1)) n + f (n + 1))
    rw [sg_first f n]
    grind
theorem sg_mul (c : Rat) (f : Nat → Rat) : ∀ n, sg (fun i => c * f i) n = c * sg f n
  | 0 => by
    show (0 : Rat) = c * 0
    grind
  | n + 1 => by
    show sg (fun i => c * f i) n + c * f n = c * (sg f n + f n)
    rw [sg_mul c f n]
    grind
theorem sg_add (f g : Nat → Rat) : ∀ n, sg (fun i => f i + g i) n = sg f n + sg g n
  | 0 => by
    show (0 : Rat) = 0 + 0
    grind
  | n + 1 => by
    show sg (fun i => f i + g i) n + (f n + g n) = sg f n + f n + (sg g n + g n)
    rw [sg_add f g n]
    grind
/-- the place m of the product -/
def cv (f g : Nat → Rat) (m : Nat) : Rat := sg (fun i => f i * g (m - i)) (m + 1)
theorem cv_zero (f g : Nat → Rat) : cv f g 0 = f 0 * g 0 := by
  show 0 + f 0 * g 0 = f 0 * g 0
  grind
theorem cv_succ (f g : Nat → Rat) (m : Nat) : cv f g (m + 1) = f 0 * g (m + 1) + cv (fun i => f (i + 1)) g m := by
  unfold cv
  rw [sg_first]
  congr 1
  apply sg_congr
  intro i hi
  show f (i + 1) * g (m + 1 - (i + 1)) = f (i + 1) * g (m - i)
  rw [show m + 1 - (i + 1) = m - i by omega]
theorem cv_congr {f f' g g' : Nat → Rat} {m : Nat} (h1 : ∀ i, i ≤ m → f i = f' i) (h2 : ∀ i, i ≤ m → g i = g' i) : cv f g m = cv f' g' m := by
  unfold cv
  apply sg_congr
  intro i hi
  rw [h1 i (by omega), h2 (m - i) (by omega)]
theorem cv_lin (f g h : Nat → Rat) (c : Rat) (m : Nat) : cv f (fun i => c * g i + h i) m = c * cv f g m + cv f h m := by
  unfold cv
  rw [← sg_mul, ← sg_add]
  apply sg_congr
  intro i _
  grind
theorem cv_sub (f g h : Nat → Rat) (m : Nat) : cv f (fun i => g i - h i) m = cv f g m - cv f h m := by
  have e := cv_lin f h (fun i => g i - h i) 1 m
  have e2 : (fun i => 1 * h i + (g i - h i)) = g := by
    funext i
    grind
  rw [e2] at e
  grind
/-- the row moved on by one -/
def sh (u : Nat → Rat) : Nat → Rat
  | 0 => 0
  | n + 1 => u n
theorem cv_sh (f u : Nat → Rat) (m : Nat) : cv f (sh u) (m + 1) = cv f u m := by
  unfold cv
  show sg (fun i => f i * sh u (m + 1 - i)) (m + 1) + f (m + 1) * sh u (m + 1 - (m + 1)) = _
  rw [Nat.sub_self]
  show _ + f (m + 1) * 0 = _
  have e : sg (fun i => f i * sh u (m + 1 - i)) (m + 1) = sg (fun i => f i * u (m - i)) (m + 1) := by
    apply sg_congr
    intro i hi
    rw [show m + 1 - i = (m - i) + 1 by omega]
    rfl
  rw [e]
  grind
theorem cv_sh0 (f u : Nat → Rat) : cv f (sh u) 0 = 0 := by
  rw [cv_zero]
  show f 0 * 0 = 0
  grind
theorem cv_swap : ∀ (m : Nat) (f g h : Nat → Rat), cv f (cv g h) m = cv g (cv f h) m
  | 0, f, g, h => by
    rw [cv_zero, cv_zero, cv_zero, cv_zero]
    grind
  | m + 1, f, g, h => by
    have split : ∀ f g : Nat → Rat, cv f (cv g h) (m + 1) = f 0 * (g 0 * h (m + 1)) + f 0 * cv (fun i => g (i + 1)) h m + cv (fun i => f (i + 1)) (cv g h) m := fun f g => by
      rw [cv_succ, cv_succ]
      grind
    have inner : ∀ g : Nat → Rat, cv g h = fun i => g 0 * h i + sh (cv (fun i => g (i + 1)) h) i := fun g => by
      funext i
      cases i with
      | zero =>
        rw [cv_zero]
        show g 0 * h 0 = g 0 * h 0 + 0
        grind
      | succ i => exact cv_succ g h i
    rw [split f g, split g f]
    rw [cv_swap m (fun i => f (i + 1)) g h]
    have e1 : cv (fun i => g (i + 1)) (cv f h) m = f 0 * cv (fun i => g (i + 1)) h m + cv (fun i => g (i + 1)) (sh (cv (fun i => f (i + 1)) h)) m := by
      rw [inner f, cv_lin]
    rw [e1]
    cases m with
    | zero =>
      rw [cv_sh0, cv_zero, cv_zero]
      grind
    | succ m =>
      rw [cv_sh, cv_succ g]
      grind
/-- what vanishes ahead of k -/
theorem cv_low {f g : Nat → Rat} {k m : Nat} (h : ∀ i, i < k → g i = 0) (hm : m ≤ k) : cv f g m = if m = k then f 0 * g k else 0 := by
  cases m with
  | zero =>
    rw [cv_zero]
    split
    · next e => rw [e]
    · rw [h 0 (by omega)]
      grind
  | succ m =>
    rw [cv_succ]
    have z : cv (fun i => f (i + 1)) g m = 0 := by
      unfold cv
      apply sg_zero
      intro i hi
      rw [h (m - i) (by omega)]
      grind
    rw [z]
    split
    · next e =>
      rw [e]
      grind
    · rw [h (m + 1) (by omega)]
      grind
/-- two responses part just where the products do -/
theorem part_at {b t h b' t' h' : Nat → Rat} {n : Nat} (r : ∀ m, m ≤ n → cv b h m = t m) (r' : ∀ m, m ≤ n → cv b' h' m = t' m) (b0 : b 0 ≠ 0) (b0' : b' 0 ≠ 0) :
    ∀ k, k ≤ n → (∀ i, i < k → cv b' t i = cv b t' i) → (∀ i, i < k → h i = h' i) ∧ (h k = h' k ↔ cv b' t k = cv b t' k) := by
  have key : ∀ k, k ≤ n → (∀ i, i < k → h i = h' i) → cv b' t k - cv b t' k = b 0 * b' 0 * (h k - h' k) := fun k hk hh => by
    have e1 : cv b' t k = cv b' (cv b h) k := cv_congr (fun _ _ => rfl) fun i hi => (r i (by omega)).symm
    have e2 : cv b t' k = cv b (cv b' h') k := cv_congr (fun _ _ => rfl) fun i hi => (r' i (by omega)).symm
    rw [e1, e2, cv_swap k b' b h, ← cv_sub]
    have e3 : ∀ m, m ≤ k → cv b' h m - cv b' h' m = if m = k then b' 0 * (h k - h' k) else 0 := fun m hm => by
      rw [← cv_sub, cv_low (k := k) (fun i hi => by show h i - h' i = 0; rw [hh i hi]; grind) hm]
    rw [cv_low (k := k) (fun i hi => by rw [e3 i (by omega), if_neg (by omega)]) (Nat.le_refl k), if_pos rfl, e3 k (Nat.le_refl k), if_pos rfl]
    grind
  intro k
  induction k with
  | zero =>
    intro hk _
    refine ⟨fun i hi => absurd hi (by omega), ?_⟩
    have e := key 0 hk (fun i hi => absurd hi (by omega))
    constructor
    · intro z
      rw [z] at e
      grind
    · intro z
      rw [z] at e
      grind
  | succ k ih =>
    intro hk hh
    obtain ⟨i1, i2⟩ := ih (by omega) fun i hi => hh i (by omega)
    have all : ∀ i, i < k + 1 → h i = h' i := fun i hi => by
      by_cases c : i < k
      · exact i1 i c
      · rw [show i = k by omega]
        exact i2.mpr (hh k (by omega))
    refine ⟨all, ?_⟩
    have e := key (k + 1) hk all
    constructor
    · intro z
      rw [z] at e
      grind
    · intro z
      rw [z] at e
      grind
/-! ### lists of fractions -/
def fn (qs : List Rat) (i : Nat) : Rat := qs.getD i 0
def sumR : List Rat → Rat
  | [] => 0
  | x :: xs => x + sumR xs
def dotR : List Rat → List Rat → Rat
  | x :: xs, y :: ys => x * y + dotR xs ys
  | _, _ => 0
theorem sumR_append : ∀ xs ys : List Rat, sumR (xs ++ ys) = sumR xs + sumR ys
  | [], ys => by
    show sumR ys = 0 + sumR ys
    grind
  | x :: xs, ys => by
    show x + sumR (xs ++ ys) = x + sumR xs + sumR ys
    rw [sumR_append xs ys]
    grind
theorem fn_lt {qs : List Rat} {i : Nat} {q : Rat} (h : qs[i]? = some q) : fn qs i = q := by
  unfold fn
  rw [List.getD_eq_getElem?_getD, h]
  rfl
theorem fn_ge {qs : List Rat} {i : Nat} (h : qs.length ≤ i) : fn qs i = 0 := by
  unfold fn
  rw [List.getD_eq_getElem?_getD, List.getElem?_eq_none h]
  rfl
/-- a sum over the first n places -/
theorem sum_map (f : Nat → Rat) : ∀ n, sumR ((List.range n).map f) = sg f n
  | 0 => rfl
  | n + 1 => by
    rw [List.range_succ, List.map_append, sumR_append, sum_map f n]
    show sg f n + (f n + 0) = sg f n + f n
    grind
theorem sum_filter (f : Nat → Rat) (p : Nat → Bool) : ∀ n, sumR (((List.range n).filter p).map f) = sg (fun i => if p i = true then f i else 0) n
  | 0 => rfl
  | n + 1 => by
    rw [List.range_succ, List.filter_append, List.map_append, sumR_append, sum_filter f p n]
    show _ = sg (fun i => if p i = true then f i else 0) n + (if p n = true then f n else 0)
    congr 1
    by_cases c : p n = true
    · rw [if_pos c, List.filter_cons, if_pos c]
      show f n + 0 = f n
      grind
    · rw [if_neg c, List.filter_cons, if_neg c]
      rfl
theorem sg_more (f : Nat → Rat) (n : Nat) : ∀ m, (∀ i, n ≤ i → i < n + m → f i = 0) → sg f (n + m) = sg f n
  | 0, _ => rfl
  | m + 1, h => by
    show sg f (n + m) + f (n + m) = sg f n
    rw [sg_more f n m fun i h1 h2 => h i h1 (by omega), h (n + m) (by omega) (by omega)]
    grind
theorem sg_upto (f : Nat → Rat) {n m : Nat} (h : ∀ i, (n ≤ i ∨ m ≤ i) → f i = 0) : sg f n = sg f m := by
  by_cases c : n ≤ m
  · have e := sg_more f n (m - n) (fun i h1 _ => h i (.inl h1))
    rw [show n + (m - n) = m by omega] at e
    exact e.symm
  · have e := sg_more f m (n - m) (fun i h1 _ => h i (.inr h1))
    rw [show m + (n - m) = n by omega] at e
    exact e
/-- the law's own sum of a place -/
theorem law_place (xs ys : List Rat) (k : Nat) : sumR (((List.range xs.length).filter fun j => decide (j ≤ k ∧ k < j + ys.length)).map fun j => fn xs j * fn ys (k - j)) = cv (fn xs) (fn ys) k := by
  rw [sum_filter]
  unfold cv
  have e1 : sg (fun i => if decide (i ≤ k ∧ k < i + ys.length) = true then fn xs i * fn ys (k - i) else 0) xs.length = sg (fun i => if decide (i ≤ k ∧ k < i + ys.length) = true then fn xs i * fn ys (k - i) else 0) (k + 1) := by
    apply sg_upto
    intro i hi
    show (if decide (i ≤ k ∧ k < i + ys.length) = true then fn xs i * fn ys (k - i) else 0) = 0
    rcases hi with h | h
    · rw [fn_ge h]
      split
      · grind
      · rfl
    · rw [if_neg (by rw [decide_eq_true_eq]; omega)]
  rw [e1]
  apply sg_congr
  intro i hi
  show (if decide (i ≤ k ∧ k < i + ys.length) = true then fn xs i * fn ys (k - i) else 0) = fn xs i * fn ys (k - i)
  by_cases c : k < i + ys.length
  · rw [if_pos (by rw [decide_eq_true_eq]; omega)]
  · rw [if_neg (by rw [decide_eq_true_eq]; omega), fn_ge (qs := ys) (by omega)]
    grind
/-- two lists place by place -/
theorem dot_map (f g : Nat → Rat) (n : Nat) : ∀ m, dotR ((List.range' n m).map f) ((List.range' n m).map g) = sg (fun i => f (n + i) * g (n + i)) m := by
  intro m
  induction m generalizing n with
  | zero => rfl
  | succ m ih =>
    rw [List.range'_succ, List.map_cons, List.map_cons]
    show f n * g n + dotR ((List.range' (n + 1) m).map f) ((List.range' (n + 1) m).map g) = _
    rw [ih (n + 1), sg_first]
    congr 1
    apply sg_congr
    intro i _
    rw [show n + 1 + i = n + (i + 1) by omega]
theorem drop_range {xs : List Rat} {n m : Nat} (h : n + m ≤ xs.length) : (xs.drop n).take m = (List.range' n m).map (fn xs) := by
  apply List.ext_getElem?
  intro i
  rw [List.getElem?_take, List.getElem?_drop, List.getElem?_map]
  by_cases c : i < m
  · rw [if_pos c, List.getElem?_range' c, List.getElem?_eq_getElem (show n + i < xs.length by omega)]
    show _ = some (fn xs (n + 1 * i))
    rw [Nat.one_mul, fn_lt (List.getElem?_eq_getElem (show n + i < xs.length by omega))]
  · rw [if_neg c, List.getElem?_eq_none (by rw [List.length_range']; omega)]
    rfl
/-- the program's own sum of a place -/
theorem prog_place (xs ys : List Rat) (k : Nat) {f m : Nat} (hf : f = k + 1 - ys.length) (hm : m = min (k + 1) xs.length - f) : dotR ((List.range' f m).map (fn xs)) ((List.range' f m).map fun j => fn ys (k - j)) = cv (fn xs) (fn ys) k := by
  rw [dot_map]
  unfold cv
  have low : sg (fun i => fn xs i * fn ys (k - i)) f = 0 := sg_zero f fun i hi => by
    rw [fn_ge (qs := ys) (by omega)]
    grind
  have cut : ∀ m, sg (fun i => fn xs i * fn ys (k - i)) (f + m) = sg (fun i => fn xs (f + i) * fn ys (k - (f + i))) m := by
    intro m
    induction m with
    | zero => exact low
    | succ m ih =>
      show sg (fun i => fn xs i * fn ys (k - i)) (f + m) + fn xs (f + m) * fn ys (k - (f + m)) = sg (fun i => fn xs (f + i) * fn ys (k - (f + i))) m + fn xs (f + m) * fn ys (k - (f + m))
      rw [ih]
  rw [← cut m]
  by_cases c : k + 1 ≤ xs.length
  · by_cases c2 : f ≤ k + 1
    · rw [show f + m = k + 1 by omega]
    · omega
  · by_cases c2 : f ≤ xs.length
    · rw [show f + m = xs.length by omega]
      have := sg_more (fun i => fn xs i * fn ys (k - i)) xs.length (k + 1 - xs.length) fun i h1 _ => by
        show fn xs i * fn ys (k - i) = 0
        rw [fn_ge h1]
        grind
      rw [show xs.length + (k + 1 - xs.length) = k + 1 by omega] at this
      exact this.symm
    · have m0 : m = 0 := by omega
      rw [m0, Nat.add_zero, low]
      symm
      apply sg_zero
      intro i hi
      show fn xs i * fn ys (k - i) = 0
      by_cases c3 : i < xs.length
      · rw [fn_ge (qs := ys) (by omega)]
        grind
      · rw [fn_ge (qs := xs) (by omega)]
        grind
/-! ### the response -/
/-- the next place behind the row -/
def nxt (t b row : List Rat) : Rat := (fn t row.length - dotR b.tail row.reverse) / fn b 0
def quo (t b : List Rat) : Nat → List Rat
  | 0 => []
  | n + 1 => quo t b n ++ [nxt t b (quo t b n)]
theorem quo_len (t b : List Rat) : ∀ n, (quo t b n).length = n
  | 0 => rfl
  | n + 1 => by
    show (quo t b n ++ [nxt t b (quo t b n)]).length = n + 1
    rw [List.length_append, quo_len t b n]
    rfl
theorem dot_sg : ∀ xs ys : List Rat, dotR xs ys = sg (fun i => fn xs i * fn ys i) ys.length
  | [], ys => by
    symm
    show sg _ _ = 0
    apply sg_zero
    intro i _
    rw [fn_ge (Nat.zero_le _)]
    grind
  | x :: xs, [] => rfl
  | x :: xs, y :: ys => by
    show x * y + dotR xs ys = sg _ (ys.length + 1)
    rw [sg_first, dot_sg xs ys]
    rfl
theorem fn_tail (b : List Rat) (i : Nat) : fn b.tail i = fn b (i + 1) := by
  cases b with
  | nil => rfl
  | cons x xs => rfl
theorem fn_rev (row : List Rat) {i : Nat} (h : i < row.length) : fn row.reverse i = fn row (row.length - 1 - i) := by
  unfold fn
  rw [List.getD_eq_getElem?_getD, List.getD_eq_getElem?_getD, List.getElem?_reverse h]
theorem quo_fn (t b : List Rat) {i : Nat} : ∀ {n m : Nat}, i < n → n ≤ m → fn (quo t b m) i = fn (quo t b n) i := by
  intro n m h1 h2
  induction m with
  | zero => omega
  | succ m ih =>
    by_cases c : n ≤ m
    · rw [← ih c]
      show fn (quo t b m ++ [_]) i = _
      unfold fn
      rw [List.getD_eq_getElem?_getD, List.getD_eq_getElem?_getD, List.getElem?_append_left (by rw [quo_len]; omega)]
    · rw [show n = m + 1 by omega]
theorem quo_ok (t b : List Rat) (b0 : fn b 0 ≠ 0) (n k : Nat) (h : k < n) : cv (fn b) (fn (quo t b n)) k = fn t k := by
  have e0 : cv (fn b) (fn (quo t b n)) k = cv (fn b) (fn (quo t b (k + 1))) k := cv_congr (fun _ _ => rfl) fun i hi => quo_fn t b (show i < k + 1 by omega) (by omega)
  rw [e0]
  have last : fn (quo t b (k + 1)) k = nxt t b (quo t b k) := by
    show fn (quo t b k ++ [nxt t b (quo t b k)]) k = _
    apply fn_lt
    rw [List.getElem?_append_right (by rw [quo_len]; exact Nat.le_refl _), quo_len, Nat.sub_self]
    rfl
  have den : fn b 0 * nxt t b (quo t b k) = fn t k - dotR b.tail (quo t b k).reverse := by
    unfold nxt
    rw [quo_len]
    grind
  unfold cv
  rw [sg_first]
  show fn b 0 * fn (quo t b (k + 1)) (k - 0) + _ = _
  rw [Nat.sub_zero, last, den, dot_sg, List.length_reverse, quo_len]
  have e : sg (fun i => fn b (i + 1) * fn (quo t b (k + 1)) (k - (i + 1))) k = sg (fun i => fn b.tail i * fn (quo t b k).reverse i) k := by
    apply sg_congr
    intro i hi
    rw [fn_tail, fn_rev _ (by rw [quo_len]; exact hi), quo_len, show k - (i + 1) = k - 1 - i by omega]
    rw [quo_fn t b (n := k) (m := k + 1) (by omega) (by omega)]
  rw [e]
  grind
/-! ### fractions in lowest terms -/
theorem lowT_num {t b : Int} (hb : b ≠ 0) : lowT t b = (Rat.divInt t b).num := by
  rw [Rat.num_divInt]
  unfold lowT gI
  rw [Int.gcd_comm b t]
  split
  · next h =>
    rw [Int.sign_eq_neg_one_of_neg h, Int.neg_mul, Int.one_mul]
  · next h =>
    rw [Int.sign_eq_one_of_pos (by omega), Int.one_mul]
theorem lowB_den {t b : Int} (hb : b ≠ 0) : lowB t b = ((Rat.divInt t b).den : Int) := by
  rw [Rat.den_divInt, if_neg hb]
  unfold lowB gI
  rw [Int.gcd_comm b t, Int.natCast_ediv]
  congr 1
  split <;> omega
theorem den_ne (q : Rat) : (q.den : Int) ≠ 0 := by
  have := q.den_pos
  omega
theorem den_ge (q : Rat) : (0 : Int) < q.den := by
  have := q.den_pos
  omega
theorem q_eq (q : Rat) : q * (q.den : Int) = (q.num : Rat) := by
  have h := Rat.num_divInt_den q
  rw [Rat.divInt_eq_div] at h
  have d : ((q.den : Int) : Rat) ≠ 0 := by
    intro z
    have : (q.den : Int) = 0 := by exact_mod_cast z
    exact den_ne q this
  grind
theorem cast_ne {n : Int} (h : n ≠ 0) : (n : Rat) ≠ 0 := fun z => h (by exact_mod_cast z)
theorem div_q {t b : Int} (h : b ≠ 0) : Rat.divInt t b * (b : Rat) = (t : Rat) := by
  rw [Rat.divInt_eq_div]
  have := cast_ne h
  grind
theorem div_is {t b : Int} (h : b ≠ 0) {q : Rat} (e : q * (b : Rat) = (t : Rat)) : Rat.divInt t b = q := by
  have := div_q (t := t) h
  have := cast_ne h
  grind
theorem minus_q (q r : Rat) : Rat.divInt (q.num * r.den - r.num * q.den) (q.den * r.den) = q - r := by
  apply div_is (Int.mul_ne_zero (den_ne q) (den_ne r))
  have a := q_eq q
  have b := q_eq r
  push_cast at *
  grind
theorem times_q (q r : Rat) : Rat.divInt (q.num * r.num) (q.den * r.den) = q * r := by
  apply div_is (Int.mul_ne_zero (den_ne q) (den_ne r))
  have a := q_eq q
  have b := q_eq r
  push_cast at *
  grind
theorem num_ne {q : Rat} (h : q ≠ 0) : q.num ≠ 0 := fun z => by
  have a := q_eq q
  rw [z] at a
  have d := cast_ne (den_ne q)
  have : ((0 : Int) : Rat) = 0 := rfl
  grind
theorem num_eq {q : Rat} (h : q.num = 0) : q = 0 := by
  by_cases c : q = 0
  · exact c
  · exact absurd h (num_ne c)
theorem divided_q (q r : Rat) (h : r ≠ 0) : Rat.divInt (q.num * r.den) (q.den * r.num) = q / r := by
  apply div_is (Int.mul_ne_zero (den_ne q) (num_ne h))
  have a := q_eq q
  have b := q_eq r
  have d1 := cast_ne (den_ne q)
  have d2 := cast_ne (den_ne r)
  push_cast at *
  grind
theorem q_gcd (q : Rat) : gI q.num q.den = 1 := by
  have := q.reduced
  unfold gI
  show ((Nat.gcd q.num.natAbs (q.den : Int).natAbs : Nat) : Int) = 1
  rw [Int.natAbs_natCast, this]
  rfl
/-! ### sizes -/
def Sc (D : Int) (B : Nat) (q : Rat) : Prop := ∃ n : Int, q * (D : Rat) = (n : Rat) ∧ n.natAbs ≤ B
theorem Sc.cross {D : Int} {B : Nat} {q : Rat} (h : Sc D B q) : ∃ n : Int, q.num * D = n * q.den ∧ n.natAbs ≤ B := by
  obtain ⟨n, e, b⟩ := h
  refine ⟨n, ?_, b⟩
  have a := q_eq q
  have : ((q.num * D : Int) : Rat) = ((n * q.den : Int) : Rat) := by
    push_cast
    push_cast at a
    grind
  exact_mod_cast this
theorem Sc.den {D : Int} {B : Nat} {q : Rat} (h : Sc D B q) : (q.den : Int) ∣ D := by
  obtain ⟨n, e, _⟩ := h.cross
  have d : q.den ∣ q.num.natAbs * D.natAbs := by
    have e2 := congrArg Int.natAbs e
    rw [Int.natAbs_mul, Int.natAbs_mul, Int.natAbs_natCast] at e2
    exact ⟨n.natAbs, by rw [e2, Nat.mul_comm]⟩
  have g : Nat.Coprime q.den q.num.natAbs := Nat.Coprime.symm q.reduced
  have := g.dvd_of_dvd_mul_left d
  exact Int.dvd_natAbs.mp (by exact_mod_cast this)
theorem Sc.num {D : Int} {B : Nat} {q : Rat} (h : Sc D B q) (hD : D ≠ 0) : q.num.natAbs ≤ B := by
  have dv := h.den
  obtain ⟨n, e, b⟩ := h.cross
  have l : q.den ≤ D.natAbs := by
    have : (q.den : Int).natAbs ∣ D.natAbs := Int.natAbs_dvd_natAbs.mpr dv
    rw [Int.natAbs_natCast] at this
    exact Nat.le_of_dvd (by omega) this
  have e2 := congrArg Int.natAbs e
  rw [Int.natAbs_mul, Int.natAbs_mul, Int.natAbs_natCast] at e2
  have h1 : q.num.natAbs * D.natAbs ≤ n.natAbs * D.natAbs := by
    rw [e2]
    exact Nat.mul_le_mul_left _ l
  exact Nat.le_trans (Nat.le_of_mul_le_mul_right h1 (by omega)) b
theorem Sc.mono {D : Int} {B C : Nat} {q : Rat} (h : Sc D B q) (l : B ≤ C) : Sc D C q := by
  obtain ⟨n, e, b⟩ := h
  exact ⟨n, e, by omega⟩
theorem Sc.scale {D k : Int} {B : Nat} {q : Rat} (h : Sc D B q) : Sc (D * k) (B * k.natAbs) q := by
  obtain ⟨n, e, b⟩ := h
  refine ⟨n * k, ?_, ?_⟩
  · push_cast
    grind
  · rw [Int.natAbs_mul]
    exact Nat.mul_le_mul_right _ b
theorem Sc.add {D : Int} {B C : Nat} {q r : Rat} (h : Sc D B q) (g : Sc D C r) : Sc D (B + C) (q + r) := by
  obtain ⟨n, e, b⟩ := h
  obtain ⟨m, f, c⟩ := g
  refine ⟨n + m, ?_, by omega⟩
  push_cast
  grind
theorem Sc.mul {D E : Int} {B C : Nat} {q r : Rat} (h : Sc D B q) (g : Sc E C r) : Sc (D * E) (B * C) (q * r) := by
  obtain ⟨n, e, b⟩ := h
  obtain ⟨m, f, c⟩ := g
  refine ⟨n * m, ?_, by rw [Int.natAbs_mul]; exact Nat.mul_le_mul b c⟩
  push_cast
  grind
theorem Sc.zero {D : Int} {B : Nat} : Sc D B 0 := ⟨0, by push_cast; grind, Nat.zero_le _⟩
/-- the step of a response, with whole numbers -/
theorem horner {D β0 : Int} {B C : Nat} (hB : β0.natAbs ≤ B) (hC : 6 * B ≤ C) : ∀ (bs hs : List Rat) (k : Nat), (∀ b ∈ bs, Sc D B b) → (∀ i q, hs[i]? = some q → i < k ∧ Sc (β0 ^ (k - i)) (C ^ (k - i)) q) →
    ∃ S : Int, dotR bs hs * (D : Rat) * ((β0 ^ k : Int) : Rat) = (S : Rat) ∧ 5 * S.natAbs ≤ C ^ (k + 1)
  | [], hs, k, _, _ => ⟨0, by show (0 : Rat) * _ * _ = _; push_cast; grind, by simp⟩
  | b :: bs, [], k, _, _ => ⟨0, by show (0 : Rat) * _ * _ = _; push_cast; grind, by simp⟩
  | b :: bs, h :: hs, k, h1, h2 => by
    obtain ⟨k0, m, em, bm⟩ := h2 0 h rfl
    obtain ⟨j, rfl⟩ : ∃ j, k = j + 1 := ⟨k - 1, by omega⟩
    obtain ⟨S, eS, bS⟩ := horner hB hC bs hs j (fun x hx => h1 x (List.mem_cons_of_mem _ hx)) fun i q hq => by
      obtain ⟨l1, l2⟩ := h2 (i + 1) q hq
      rw [show j + 1 - (i + 1) = j - i by omega] at l2
      exact ⟨by omega, l2⟩
    obtain ⟨n, en, bn⟩ := h1 b List.mem_cons_self
    refine ⟨n * m + β0 * S, ?_, ?_⟩
    · show (b * h + dotR bs hs) * (D : Rat) * ((β0 ^ (j + 1) : Int) : Rat) = _
      rw [Nat.sub_zero] at em
      have p : ((β0 ^ (j + 1) : Int) : Rat) = (β0 : Rat) * ((β0 ^ j : Int) : Rat) := by
        rw [Int.pow_succ]
        push_cast
        grind
      push_cast at *
      grind
    · rw [Nat.sub_zero] at bm
      have t1 : (n * m).natAbs ≤ B * C ^ (j + 1) := by
        rw [Int.natAbs_mul]
        exact Nat.mul_le_mul bn bm
      have t2 : (β0 * S).natAbs ≤ B * S.natAbs := by
        rw [Int.natAbs_mul]
        exact Nat.mul_le_mul_right _ hB
      have t3 := Int.natAbs_add_le (n * m) (β0 * S)
      have t4 : 5 * (B * S.natAbs) ≤ B * C ^ (j + 1) := by
        rw [show 5 * (B * S.natAbs) = B * (5 * S.natAbs) by rw [← Nat.mul_assoc, Nat.mul_comm 5 B, Nat.mul_assoc]]
        exact Nat.mul_le_mul_left _ bS
      have t5 : 6 * (B * C ^ (j + 1)) ≤ C ^ (j + 1 + 1) := by
        rw [← Nat.mul_assoc, Nat.pow_succ C (j + 1), Nat.mul_comm (C ^ (j + 1)) C]
        exact Nat.mul_le_mul_right _ hC
      omega
theorem nxt_sc {D β0 : Int} {B C : Nat} {t b row : List Rat} (hD : D ≠ 0) (h0 : fn b 0 * (D : Rat) = (β0 : Rat)) (hn : β0 ≠ 0) (hB : β0.natAbs ≤ B) (hC : 6 * B ≤ C) (hb : ∀ x ∈ b, Sc D B x) (ht : ∀ i, Sc D B (fn t i))
    (hr : ∀ i q, row[i]? = some q → Sc (β0 ^ (i + 1)) (C ^ (i + 1)) q) : Sc (β0 ^ (row.length + 1)) (C ^ (row.length + 1)) (nxt t b row) := by
  obtain ⟨S, eS, bS⟩ := horner hB hC b.tail row.reverse row.length (fun x hx => hb x (List.mem_of_mem_tail hx)) fun i q hq => by
    have li : i < row.length := by
      have := (List.getElem?_eq_some_iff.mp hq).1
      rw [List.length_reverse] at this
      exact this
    rw [List.getElem?_reverse li] at hq
    have := hr _ q hq
    rw [show row.length - 1 - i + 1 = row.length - i by omega] at this
    exact ⟨li, this⟩
  obtain ⟨τ, eτ, bτ⟩ := ht row.length
  refine ⟨τ * β0 ^ row.length - S, ?_, ?_⟩
  · unfold nxt
    have b0 : fn b 0 ≠ 0 := fun z => by
      rw [z] at h0
      have := cast_ne hn
      grind
    have p : ((β0 ^ (row.length + 1) : Int) : Rat) = (β0 : Rat) * ((β0 ^ row.length : Int) : Rat) := by
      rw [Int.pow_succ]
      push_cast
      grind
    rw [p]
    push_cast at *
    grind
  · have t1 : (τ * β0 ^ row.length).natAbs ≤ B * B ^ row.length := by
      rw [Int.natAbs_mul, Int.natAbs_pow]
      exact Nat.mul_le_mul bτ (Nat.pow_le_pow_left hB _)
    have t2 : 6 * (B * B ^ row.length) ≤ C ^ (row.length + 1) := by
      rw [← Nat.mul_assoc, Nat.pow_succ, Nat.mul_comm (C ^ row.length) C]
      exact Nat.mul_le_mul hC (Nat.pow_le_pow_left (by omega) _)
    have t3 := Int.natAbs_sub_le (τ * β0 ^ row.length) S
    omega
theorem quo_sc {D β0 : Int} {B C : Nat} {t b : List Rat} (hD : D ≠ 0) (h0 : fn b 0 * (D : Rat) = (β0 : Rat)) (hn : β0 ≠ 0) (hB : β0.natAbs ≤ B) (hC : 6 * B ≤ C) (hb : ∀ x ∈ b, Sc D B x) (ht : ∀ i, Sc D B (fn t i)) :
    ∀ n i q, (quo t b n)[i]? = some q → Sc (β0 ^ (i + 1)) (C ^ (i + 1)) q
  | 0, i, q, h => by
    have : ([] : List Rat)[i]? = some q := h
    cases this
  | n + 1, i, q, h => by
    have h' : (quo t b n ++ [nxt t b (quo t b n)])[i]? = some q := h
    by_cases c : i < n
    · rw [List.getElem?_append_left (by rw [quo_len]; exact c)] at h'
      exact quo_sc hD h0 hn hB hC hb ht n i q h'
    · have li := (List.getElem?_eq_some_iff.mp h').1
      rw [List.length_append, quo_len] at li
      have e : i = n := by
        have : i < n + 1 := li
        omega
      subst e
      rw [List.getElem?_append_right (by rw [quo_len]; exact Nat.le_refl _), quo_len, Nat.sub_self] at h'
      cases h'
      have := nxt_sc hD h0 hn hB hC hb ht (row := quo t b i) fun j r hr => quo_sc hD h0 hn hB hC hb ht i j r hr
      rw [quo_len] at this
      exact this
/-! ### one bottom for all -/
def lcmI (c b : Int) : Int := if c % b = 0 then c else c / gI c b * b
theorem gI_dl (c b : Int) : gI c b ∣ c := by
  unfold gI
  exact Int.gcd_dvd_left ..
theorem gI_dr (c b : Int) : gI c b ∣ b := by
  unfold gI
  exact Int.gcd_dvd_right ..
theorem lcmI_ok {c b : Int} (hc : 0 < c) (hb : 0 < b) : 0 < lcmI c b ∧ c ∣ lcmI c b ∧ b ∣ lcmI c b ∧ ∀ D, c ∣ D → b ∣ D → lcmI c b ∣ D := by
  unfold lcmI
  split
  · next h => exact ⟨hc, Int.dvd_refl c, Int.dvd_of_emod_eq_zero h, fun D h1 _ => h1⟩
  · have g0 := gI_pos (t := c) (b := b) (by omega)
    obtain ⟨x, hx⟩ := gI_dl c b
    obtain ⟨y, hy⟩ := gI_dr c b
    have cop : Nat.gcd x.natAbs y.natAbs = 1 := by
      have h := Int.gcd_mul_left (gI c b) x y
      rw [← hx, ← hy] at h
      have h2 : Int.gcd c b = (gI c b).natAbs := by
        unfold gI
        rw [Int.natAbs_natCast]
      rw [h2] at h
      have : (gI c b).natAbs * 1 = (gI c b).natAbs * Int.gcd x y := by
        rw [Nat.mul_one]
        exact h
      exact (Nat.eq_of_mul_eq_mul_left (by omega) this).symm
    generalize gI c b = g at *
    have ex : c / g = x := Int.ediv_eq_of_eq_mul_right (by omega) hx
    rw [ex]
    have x0 : 0 < x := by
      rcases Int.lt_trichotomy x 0 with z | z | z
      · have := Int.mul_neg_of_pos_of_neg g0 z
        omega
      · rw [z, Int.mul_zero] at hx
        omega
      · exact z
    refine ⟨Int.mul_pos x0 hb, ⟨y, ?_⟩, ⟨x, Int.mul_comm _ _⟩, fun D h1 h2 => ?_⟩
    · subst hx hy
      grind
    · obtain ⟨d1, e1⟩ := h1
      obtain ⟨d2, e2⟩ := h2
      have e3 : x * d1 = y * d2 := by
        have : g * (x * d1) = g * (y * d2) := by
          rw [← Int.mul_assoc, ← Int.mul_assoc, ← hx, ← hy, ← e1, ← e2]
        exact Int.eq_of_mul_eq_mul_left (by omega) this
      have yd : y.natAbs ∣ d1.natAbs := by
        have h1 : y.natAbs ∣ x.natAbs * d1.natAbs := by
          rw [← Int.natAbs_mul, e3, Int.natAbs_mul]
          exact ⟨_, rfl⟩
        have cp : Nat.Coprime y.natAbs x.natAbs := Nat.Coprime.symm cop
        exact cp.dvd_of_dvd_mul_left h1
      obtain ⟨k, hk⟩ := Int.natAbs_dvd_natAbs.mp yd
      refine ⟨k, ?_⟩
      subst hx hy hk
      grind
def com (bs : List Int) : Int := bs.foldl lcmI 1
theorem com_ok : ∀ (bs : List Int) (c : Int), 0 < c → (∀ b ∈ bs, 0 < b) → 0 < bs.foldl lcmI c ∧ c ∣ bs.foldl lcmI c ∧ (∀ b ∈ bs, b ∣ bs.foldl lcmI c) ∧ ∀ D, c ∣ D → (∀ b ∈ bs, b ∣ D) → bs.foldl lcmI c ∣ D
  | [], c, hc, _ => ⟨hc, Int.dvd_refl c, fun b h => absurd h List.not_mem_nil, fun D h _ => h⟩
  | b :: bs, c, hc, hb => by
    obtain ⟨a1, a2, a3, a4⟩ := lcmI_ok hc (hb b List.mem_cons_self)
    obtain ⟨i1, i2, i3, i4⟩ := com_ok bs (lcmI c b) a1 fun x hx => hb x (List.mem_cons_of_mem _ hx)
    rw [List.foldl_cons]
    refine ⟨i1, Int.dvd_trans a2 i2, fun x hx => ?_, fun D h1 h2 => i4 D (a4 D h1 (h2 b List.mem_cons_self)) fun x hx => h2 x (List.mem_cons_of_mem _ hx)⟩
    rcases List.mem_cons.mp hx with rfl | hx
    · exact Int.dvd_trans a3 i2
    · exact i3 x hx
/-- tops over one bottom -/
def tops (c : Int) (ps : List (Int × Int)) : List Int := ps.map fun p => p.1 * (c / p.2)
theorem clear_q (c : Int) (hc : c ≠ 0) : ∀ ps : List (Int × Int), (∀ p ∈ ps, 0 < p.2 ∧ p.2 ∣ c) → sumR (ps.map fun p => Rat.divInt p.1 p.2) * (c : Rat) = ((tops c ps).sum : Int)
  | [], _ => by
    show (0 : Rat) * _ = ((0 : Int) : Rat)
    push_cast
    grind
  | p :: ps, h => by
    have i := clear_q c hc ps fun x hx => h x (List.mem_cons_of_mem _ hx)
    obtain ⟨p0, k, hk⟩ := h p List.mem_cons_self
    have e : c / p.2 = k := Int.ediv_eq_of_eq_mul_right (by omega) hk
    show (Rat.divInt p.1 p.2 + sumR (ps.map fun p => Rat.divInt p.1 p.2)) * (c : Rat) = ((p.1 * (c / p.2) + (tops c ps).sum : Int) : Rat)
    rw [e]
    have d := div_q (t := p.1) (show p.2 ≠ 0 by omega)
    have hk2 : (c : Rat) = (p.2 : Rat) * (k : Rat) := by
      rw [hk]
      push_cast
      rfl
    push_cast
    grind
/-- the products that aren't 0 -/
def prods : List Rat → List Rat → List (Int × Int)
  | x :: xs, y :: ys => (if x.num ≠ 0 ∧ y.num ≠ 0 then [(x.num * y.num, (x.den * y.den : Int))] else []) ++ prods xs ys
  | _, _ => []
theorem prods_q : ∀ xs ys : List Rat, sumR ((prods xs ys).map fun p => Rat.divInt p.1 p.2) = dotR xs ys
  | [], _ => rfl
  | _ :: _, [] => rfl
  | x :: xs, y :: ys => by
    show sumR (((if x.num ≠ 0 ∧ y.num ≠ 0 then [(x.num * y.num, (x.den * y.den : Int))] else []) ++ prods xs ys).map fun p => Rat.divInt p.1 p.2) = x * y + dotR xs ys
    rw [List.map_append, sumR_append, prods_q xs ys]
    split
    · show Rat.divInt (x.num * y.num) (x.den * y.den) + 0 + _ = _
      rw [times_q]
      grind
    · next h =>
      have z : x * y = 0 := by
        by_cases c : x.num = 0
        · rw [num_eq c]
          grind
        · have : y.num = 0 := Classical.byContradiction fun w => h ⟨c, w⟩
          rw [num_eq this]
          grind
      rw [z]
      show (0 : Rat) + _ = _
      grind
theorem prods_mem : ∀ {xs ys : List Rat} {p : Int × Int}, p ∈ prods xs ys → ∃ x ∈ xs, ∃ y ∈ ys, p = (x.num * y.num, (x.den * y.den : Int))
  | [], _, p, h => absurd h List.not_mem_nil
  | _ :: _, [], p, h => absurd h List.not_mem_nil
  | x :: xs, y :: ys, p, h => by
    have h' : p ∈ (if x.num ≠ 0 ∧ y.num ≠ 0 then [(x.num * y.num, (x.den * y.den : Int))] else []) ++ prods xs ys := h
    rcases List.mem_append.mp h' with h | h
    · split at h
      · exact ⟨x, List.mem_cons_self, y, List.mem_cons_self, List.mem_singleton.mp h⟩
      · exact absurd h List.not_mem_nil
    · obtain ⟨a, h1, b, h2, e⟩ := prods_mem h
      exact ⟨a, List.mem_cons_of_mem _ h1, b, List.mem_cons_of_mem _ h2, e⟩
/-! ### lists of pairs and of fractions in the heap -/
inductive PrsAt (H : Hp) : List V → List (Int × Int) → Prop where
  | nil : PrsAt H [] []
  | cons {p : Addr} {t b : Int} {vs : List V} {ps : List (Int × Int)} (e : H p = some (.tup [.int t, .int b])) (r : PrsAt H vs ps) : PrsAt H (.ref p :: vs) ((t, b) :: ps)
def pr (q : Rat) : Int × Int := (q.num, (q.den : Int))
abbrev FrsAt (H : Hp) (vs : List V) (qs : List Rat) : Prop := PrsAt H vs (qs.map pr)
def Fr (H : Hp) (p : Addr) (q : Rat) : Prop := H p = some (.tup [.int q.num, .int (q.den : Int)])
def FrL (H : Hp) (a : Addr) (qs : List Rat) : Prop := ∃ vs, H a = some (.lst vs) ∧ FrsAt H vs qs
theorem PrsAt.same {H H' : Hp} {vs : List V} {ps : List (Int × Int)} (h : PrsAt H vs ps) (s : Same H H') : PrsAt H' vs ps := by
  induction h with
  | nil => exact .nil
  | cons e _ ih => exact .cons (s _ _ e) ih
theorem PrsAt.but {H H' : Hp} {a : Addr} {xs : List V} {vs : List V} {ps : List (Int × Int)} (h : PrsAt H vs ps) (s : SameBut a H H') (ha : H a = some (.lst xs)) : PrsAt H' vs ps := by
  induction h with
  | nil => exact .nil
  | cons e _ ih => exact .cons (s _ _ (ne_of e ha (fun z => nomatch z)) e) ih
theorem PrsAt.len {H : Hp} {vs : List V} {ps : List (Int × Int)} (h : PrsAt H vs ps) : vs.length = ps.length := by
  induction h with
  | nil => rfl
  | cons _ _ ih => rw [List.length_cons, List.length_cons, ih]
theorem PrsAt.get {H : Hp} {vs : List V} {ps : List (Int × Int)} (h : PrsAt H vs ps) : ∀ {i : Nat} {v : V}, vs[i]? = some v → ∃ p t b, v = .ref p ∧ ps[i]? = some (t, b) ∧ H p = some (.tup [.int t, .int b]) := by
  induction h with
  | nil => intro i v z; cases z
  | cons e _ ih =>
    intro i v z
    cases i with
    | zero =>
      cases z
      exact ⟨_, _, _, rfl, rfl, e⟩
    | succ i => exact ih z
theorem PrsAt.at {H : Hp} {vs : List V} {ps : List (Int × Int)} (h : PrsAt H vs ps) : ∀ {i : Nat} {x : Int × Int}, ps[i]? = some x → ∃ p, vs[i]? = some (.ref p) ∧ H p = some (.tup [.int x.1, .int x.2]) := by
  induction h with
  | nil => intro i v z; cases z
  | cons e _ ih =>
    intro i v z
    cases i with
    | zero =>
      cases z
      exact ⟨_, rfl, e⟩
    | succ i => exact ih z
theorem PrsAt.app {H : Hp} {vs ws : List V} {ps qs : List (Int × Int)} (h : PrsAt H vs ps) (g : PrsAt H ws qs) : PrsAt H (vs ++ ws) (ps ++ qs) := by
  induction h with
  | nil => exact g
  | cons e _ ih => exact .cons e ih
theorem PrsAt.drop {H : Hp} {vs : List V} {ps : List (Int × Int)} (h : PrsAt H vs ps) : ∀ n, PrsAt H (vs.drop n) (ps.drop n) := by
  induction h with
  | nil => intro n; rw [List.drop_nil, List.drop_nil]; exact .nil
  | cons e r ih =>
    intro n
    cases n with
    | zero => exact .cons e r
    | succ n => exact ih n
theorem PrsAt.take {H : Hp} {vs : List V} {ps : List (Int × Int)} (h : PrsAt H vs ps) : ∀ n, PrsAt H (vs.take n) (ps.take n) := by
  induction h with
  | nil => intro n; rw [List.take_nil, List.take_nil]; exact .nil
  | cons e r ih =>
    intro n
    cases n with
    | zero => exact .nil
    | succ n => exact .cons e (ih n)
theorem FrsAt.get {H : Hp} {vs : List V} {qs : List Rat} (h : FrsAt H vs qs) {i : Nat} {v : V} (e : vs[i]? = some v) : ∃ p q, v = .ref p ∧ qs[i]? = some q ∧ Fr H p q := by
  obtain ⟨p, t, b, e1, e2, e3⟩ := PrsAt.get h e
  rw [List.getElem?_map] at e2
  obtain ⟨q, hq, ee⟩ := Option.map_eq_some_iff.mp e2
  cases ee
  exact ⟨p, q, e1, hq, e3⟩
theorem FrsAt.at {H : Hp} {vs : List V} {qs : List Rat} (h : FrsAt H vs qs) {i : Nat} {q : Rat} (e : qs[i]? = some q) : ∃ p, vs[i]? = some (.ref p) ∧ Fr H p q := PrsAt.at h (x := pr q) (by rw [List.getElem?_map, e]; rfl)
theorem FrsAt.len {H : Hp} {vs : List V} {qs : List Rat} (h : FrsAt H vs qs) : vs.length = qs.length := by
  have := PrsAt.len h
  rw [List.length_map] at this
  exact this
theorem FrsAt.app {H : Hp} {vs ws : List V} {qs rs : List Rat} (h : FrsAt H vs qs) (g : FrsAt H ws rs) : FrsAt H (vs ++ ws) (qs ++ rs) := by
  show PrsAt H _ ((qs ++ rs).map pr)
  rw [List.map_append]
  exact PrsAt.app h g
theorem FrsAt.one {H : Hp} {p : Addr} {q : Rat} (h : Fr H p q) : FrsAt H [.ref p] [q] := .cons h .nil
theorem FrsAt.drop {H : Hp} {vs : List V} {qs : List Rat} (h : FrsAt H vs qs) (n : Nat) : FrsAt H (vs.drop n) (qs.drop n) := by
  show PrsAt H _ ((qs.drop n).map pr)
  rw [List.map_drop]
  exact PrsAt.drop h n
theorem FrsAt.take {H : Hp} {vs : List V} {qs : List Rat} (h : FrsAt H vs qs) (n : Nat) : FrsAt H (vs.take n) (qs.take n) := by
  show PrsAt H _ ((qs.take n).map pr)
  rw [List.map_take]
  exact PrsAt.take h n
theorem FrL.same {H H' : Hp} {a : Addr} {qs : List Rat} (h : FrL H a qs) (s : Same H H') : FrL H' a qs := by
  obtain ⟨vs, e, r⟩ := h
  exact ⟨vs, s _ _ e, PrsAt.same r s⟩
theorem Fr.same {H H' : Hp} {p : Addr} {q : Rat} (h : Fr H p q) (s : Same H H') : Fr H' p q := s _ _ h
theorem Fr.low {H : Hp} {p : Addr} {t b : Int} {q : Rat} (hb : b ≠ 0) (e : Rat.divInt t b = q) (h : H p = some (.tup [.int (lowT t b), .int (lowB t b)])) : Fr H p q := by
  rw [lowT_num hb, lowB_den hb, e] at h
  exact h
/-- as data -/
def frD (q : Rat) : PyData := .tuple [.int q.num, .int (q.den : Int)]
theorem Fr.dp {K : PySem.W.Frag} {H : Hp} {p : Addr} {q : Rat} (h : Fr H p q) : Dp K H (.ref p) (frD q) := .tup (SqT.of h) (.cons (.int _) (.cons (.int _) .nil))
theorem FrsAt.dp {K : PySem.W.Frag} {H : Hp} : ∀ {qs : List Rat} {vs : List V}, FrsAt H vs qs → DpAll K H vs (qs.map frD)
  | [], vs, h => by
    cases h
    exact .nil
  | q :: qs, vs, h => by
    cases h with
    | cons e r => exact .cons (Fr.dp e) (FrsAt.dp r)
theorem frD_eqv (q r : Rat) : PyData.eqv (frD q) (frD r) = decide (q = r) := by
  show PyData.eqv (.tuple [.int q.num, .int (q.den : Int)]) (.tuple [.int r.num, .int (r.den : Int)]) = _
  simp only [PyData.eqv, PyData.eqvAll, Bool.and_true]
  rw [Bool.eq_iff_iff]
  simp only [Bool.and_eq_true, beq_iff_eq, decide_eq_true_eq]
  constructor
  · intro ⟨h1, h2⟩
    exact Rat.ext h1 (by exact_mod_cast h2)
  · intro h
    rw [h]
    exact ⟨rfl, rfl⟩
theorem frDs_eqv : ∀ qs rs : List Rat, PyData.eqvAll (qs.map frD) (rs.map frD) = decide (qs = rs)
  | [], [] => by simp [PyData.eqvAll]
  | [], r :: rs => by simp [PyData.eqvAll]
  | q :: qs, [] => by simp [PyData.eqvAll]
  | q :: qs, r :: rs => by
    rw [List.map_cons, List.map_cons, PyData.eqvAll, frD_eqv, frDs_eqv qs rs, Bool.eq_iff_iff]
    simp
theorem frL_eqv (qs rs : List Rat) : PyData.eqv (.list (qs.map frD)) (.list (rs.map frD)) = decide (qs = rs) := by
  rw [← frDs_eqv]
  simp only [PyData.eqv]
theorem frDs_lay : ∀ qs : List Rat, PyData.canLayAll0 (qs.map frD) = true
  | [] => rfl
  | q :: qs => by
    rw [List.map_cons, PyData.canLayAll0, frDs_lay qs, Bool.and_true]
    rfl
theorem frDs_deep : ∀ qs : List Rat, PyData.depthAll (qs.map frD) ≤ 3
  | [] => by simp [PyData.depthAll]
  | q :: qs => by
    have := frDs_deep qs
    simp only [List.map_cons, PyData.depthAll, frD, PyData.depth]
    omega
theorem frD_shaped (q : Rat) : SeqAt.shaped (frD q) = true := rfl
theorem frL_shaped (qs : List Rat) : SeqAt.shaped (.list (qs.map frD)) = true := by
  have h1 := frDs_deep qs
  have h2 : PyData.depth (.list (qs.map frD)) ≤ 64 := by simp only [PyData.depth]; omega
  show (PyData.canLay0 (.list (qs.map frD)) && decide (PyData.depth (.list (qs.map frD)) ≤ 64)) = true
  rw [Bool.and_eq_true]
  exact ⟨by simp only [PyData.canLay0]; exact frDs_lay qs, decide_eq_true h2⟩

end E1

namespace E1
open PySem PySem.Spec PyProof.Rows L2
/-! ### signed sums over a list of columns, and what they make of rows -/
def E (f : Nat → List Nat → Rat) : List Nat → Rat
  | [] => 0
  | c :: cs => f c cs - E (fun x r => f x (c :: r)) cs
theorem E_congr : ∀ (cs : List Nat) (f g : Nat → List Nat → Rat), (∀ x, x ∈ cs → ∀ r, f x r = g x r) → E f cs = E g cs
  | [], _, _, _ => rfl
  | c :: cs, f, g, h => by
    show f c cs - _ = g c cs - _
    rw [h c List.mem_cons_self cs, E_congr cs _ _ fun x hx r => h x (List.mem_cons_of_mem _ hx) (c :: r)]
theorem E_add : ∀ (cs : List Nat) (f g : Nat → List Nat → Rat) (t : Rat), E (fun x r => f x r + t * g x r) cs = E f cs + t * E g cs
  | [], _, _, _ => by show (0 : Rat) = 0 + _ * 0; grind
  | c :: cs, f, g, t => by
    show (f c cs + t * g c cs) - E (fun x r => f x (c :: r) + t * g x (c :: r)) cs = (f c cs - E _ cs) + t * (g c cs - E _ cs)
    rw [E_add cs (fun x r => f x (c :: r)) (fun x r => g x (c :: r)) t]
    grind
theorem E_nought : ∀ (cs : List Nat) (f : Nat → List Nat → Rat), (∀ x, x ∈ cs → ∀ r, f x r = 0) → E f cs = 0
  | [], _, _ => rfl
  | c :: cs, f, h => by
    show f c cs - _ = 0
    rw [h c List.mem_cons_self cs, E_nought cs _ fun x hx r => h x (List.mem_cons_of_mem _ hx) (c :: r)]
    grind
theorem E_smul (cs : List Nat) (f : Nat → List Nat → Rat) (t : Rat) : E (fun x r => t * f x r) cs = t * E f cs := by
  have a := E_add cs (fun _ _ => 0) f t
  rw [E_nought cs (fun _ _ => 0) fun _ _ _ => rfl] at a
  rw [E_congr cs (fun x r => t * f x r) (fun x r => 0 + t * f x r) fun x _ r => by grind, a]
  grind
theorem E_sub (cs : List Nat) (f g : Nat → List Nat → Rat) : E (fun x r => f x r - g x r) cs = E f cs - E g cs := by
  rw [E_congr cs (fun x r => f x r - g x r) (fun x r => f x r + (-1) * g x r) fun x _ r => by grind, E_add]
  grind
/-- two picks, in the other order -/
theorem E_two : ∀ (cs : List Nat) (G : Nat → Nat → List Nat → Rat), E (fun x r => E (fun y s => G x y s) r) cs = - E (fun x r => E (fun y s => G y x s) r) cs
  | [], _ => by show (0 : Rat) = -0; grind
  | c :: cs, G => by
    have ex : ∀ F : Nat → Nat → List Nat → Rat, E (fun x r => E (fun y s => F x y s) r) (c :: cs) = E (fun y s => F c y s) cs - E (fun x r => F x c r) cs + E (fun x r => E (fun y s => F x y (c :: s)) r) cs := fun F => by
      show E (fun y s => F c y s) cs - E (fun x r => F x c r - E (fun y s => F x y (c :: s)) r) cs = _
      rw [E_sub]
      grind
    rw [ex G, ex fun x y s => G y x s, E_two cs fun x y s => G x y (c :: s)]
    grind
def D : List (Nat → Rat) → List Nat → Rat
  | [], _ => 1
  | b :: R, cols => E (fun c r => b c * D R r) cols
theorem D_lin (a b : Nat → Rat) (t : Rat) (R : List (Nat → Rat)) (cols : List Nat) : D ((fun j => a j + t * b j) :: R) cols = D (a :: R) cols + t * D (b :: R) cols := by
  show E (fun c r => (a c + t * b c) * D R r) cols = E (fun c r => a c * D R r) cols + t * E (fun c r => b c * D R r) cols
  rw [← E_add]
  exact E_congr _ _ _ fun x _ r => by grind
theorem D_swap (b u : Nat → Rat) (R : List (Nat → Rat)) (cols : List Nat) : D (b :: u :: R) cols = - D (u :: b :: R) cols := by
  show E (fun x r => b x * E (fun y s => u y * D R s) r) cols = - E (fun x r => u x * E (fun y s => b y * D R s) r) cols
  rw [E_congr cols (fun x r => b x * E (fun y s => u y * D R s) r) (fun x r => E (fun y s => b x * (u y * D R s)) r) fun x _ r => (E_smul _ _ _).symm]
  rw [E_congr cols (fun x r => u x * E (fun y s => b y * D R s) r) (fun x r => E (fun y s => b y * (u x * D R s)) r) fun x _ r => by
    rw [← E_smul]
    exact E_congr _ _ _ fun y _ s => by grind]
  exact E_two cols fun x y s => b x * (u y * D R s)
theorem D_same : ∀ (R : List (Nat → Rat)) (b : Nat → Rat) (cols : List Nat), b ∈ R → D (b :: R) cols = 0
  | u :: R, b, cols, h => by
    rcases List.mem_cons.mp h with rfl | h
    · have := D_swap b b R cols
      grind
    · rw [D_swap]
      have z : D (u :: b :: R) cols = 0 := E_nought cols _ fun x _ r => by
        show u x * D (b :: R) r = 0
        rw [D_same R b r h]
        grind
      rw [z]
      grind
theorem D_head {g : Nat → Rat} {R : List (Nat → Rat)} {j : Nat} {cs : List Nat} (h : ∀ c ∈ cs, g c = 0) : D (g :: R) (j :: cs) = g j * D R cs := by
  show g j * D R cs - E (fun x r => g x * D R (j :: r)) cs = _
  rw [E_nought cs _ fun x hx r => by rw [h x hx]; grind]
  grind
/-! ### whole numbers, and how far they go -/
def Wh (M : Nat) (x : Rat) : Prop := ∃ z : Int, x = (z : Rat) ∧ z.natAbs ≤ M
theorem Wh.mono {M N : Nat} {x : Rat} (h : Wh M x) (l : M ≤ N) : Wh N x := let ⟨z, e, b⟩ := h; ⟨z, e, Nat.le_trans b l⟩
theorem Wh.sub {M N : Nat} {x y : Rat} (h : Wh M x) (g : Wh N y) : Wh (M + N) (x - y) := by
  obtain ⟨z, rfl, b⟩ := h
  obtain ⟨u, rfl, c⟩ := g
  exact ⟨z - u, by rw [Rat.intCast_sub], by omega⟩
theorem Wh.mul {M N : Nat} {x y : Rat} (h : Wh M x) (g : Wh N y) : Wh (M * N) (x * y) := by
  obtain ⟨z, rfl, b⟩ := h
  obtain ⟨u, rfl, c⟩ := g
  exact ⟨z * u, by rw [Rat.intCast_mul], by rw [Int.natAbs_mul]; exact Nat.mul_le_mul b c⟩
theorem E_wh {M : Nat} : ∀ (cs : List Nat) (f : Nat → List Nat → Rat), (∀ x r, x ∈ cs → r.length + 1 = cs.length → Wh M (f x r)) → Wh (cs.length * M) (E f cs)
  | [], _, _ => ⟨0, rfl, Nat.zero_le _⟩
  | c :: cs, f, h => by
    have a := h c cs List.mem_cons_self rfl
    have b := E_wh cs (fun x r => f x (c :: r)) fun x r hx hr => h x (c :: r) (List.mem_cons_of_mem _ hx) (by rw [List.length_cons, List.length_cons, hr])
    refine (a.sub b).mono ?_
    rw [List.length_cons, Nat.succ_mul]
    omega
def fac : Nat → Nat
  | 0 => 1
  | n + 1 => (n + 1) * fac n
theorem D_wh {M : Nat} : ∀ (R : List (Nat → Rat)) (cols : List Nat), (∀ b ∈ R, ∀ c, Wh M (b c)) → cols.length = R.length → Wh (fac R.length * M ^ R.length) (D R cols)
  | [], _, _, _ => ⟨1, rfl, by show 1 ≤ 1 * M ^ 0; simp⟩
  | b :: R, cols, h, hl => by
    have e := E_wh (M := M * (fac R.length * M ^ R.length)) cols (fun c r => b c * D R r) fun x r hx hr => (h b List.mem_cons_self x).mul (D_wh R r (fun u hu => h u (List.mem_cons_of_mem _ hu)) (by rw [hl, List.length_cons] at hr; omega))
    refine Wh.mono e ?_
    rw [hl, List.length_cons]
    show (R.length + 1) * (M * (fac R.length * M ^ R.length)) ≤ (R.length + 1) * fac R.length * M ^ (R.length + 1)
    rw [Nat.pow_succ]
    refine Nat.le_of_eq ?_
    grind
/-! ### the rows ahead of a stage -/
def rowsR (P : Nat → Nat → Rat) : Nat → List (Nat → Rat)
  | 0 => []
  | k + 1 => P k :: rowsR P k
def colsR : Nat → List Nat
  | 0 => []
  | k + 1 => k :: colsR k
theorem colsR_len : ∀ k, (colsR k).length = k
  | 0 => rfl
  | k + 1 => by
    show (colsR k).length + 1 = _
    rw [colsR_len k]
theorem colsR_mem : ∀ {k c : Nat}, c ∈ colsR k → c < k
  | k + 1, c, h => by
    rcases List.mem_cons.mp h with rfl | h
    · exact Nat.lt_succ_self _
    · exact Nat.lt_succ_of_lt (colsR_mem h)
theorem rowsR_len (P : Nat → Nat → Rat) : ∀ k, (rowsR P k).length = k
  | 0 => rfl
  | k + 1 => by
    show (rowsR P k).length + 1 = _
    rw [rowsR_len P k]
theorem rowsR_mem {P : Nat → Nat → Rat} : ∀ {k t : Nat}, t < k → P t ∈ rowsR P k
  | k + 1, t, h => by
    by_cases e : t = k
    · rw [e]
      exact List.mem_cons_self
    · exact List.mem_cons_of_mem _ (rowsR_mem (by omega))
theorem rowsR_of {P : Nat → Nat → Rat} : ∀ {k : Nat} {b : Nat → Rat}, b ∈ rowsR P k → ∃ t, t < k ∧ b = P t
  | k + 1, b, h => by
    rcases List.mem_cons.mp h with rfl | h
    · exact ⟨k, Nat.lt_succ_self _, rfl⟩
    · obtain ⟨t, ht, e⟩ := rowsR_of h
      exact ⟨t, Nat.lt_succ_of_lt ht, e⟩
theorem rowsR_congr {P P' : Nat → Nat → Rat} : ∀ {k : Nat}, (∀ t, t < k → P t = P' t) → rowsR P k = rowsR P' k
  | 0, _ => rfl
  | k + 1, h => by
    show P k :: rowsR P k = P' k :: rowsR P' k
    rw [h k (Nat.lt_succ_self k), rowsR_congr fun t ht => h t (Nat.lt_succ_of_lt ht)]
def dd (P : Nat → Nat → Rat) (k : Nat) : Rat := D (rowsR P k) (colsR k)
def bb (P : Nat → Nat → Rat) (k : Nat) (v : Nat → Rat) (j : Nat) : Rat := D (v :: rowsR P k) (j :: colsR k)
theorem bb_zero (P : Nat → Nat → Rat) (v : Nat → Rat) (j : Nat) : bb P 0 v j = v j := by
  show v j * 1 - 0 = v j
  grind
theorem dd_zero (P : Nat → Nat → Rat) : dd P 0 = 1 := rfl
theorem dd_succ (P : Nat → Nat → Rat) (k : Nat) : dd P (k + 1) = bb P k (P k) k := rfl
/-- v less some of the rows ahead, with noughts in the columns ahead -/
def Cut (P : Nat → Nat → Rat) (k : Nat) (v g : Nat → Rat) : Prop := (∃ a : Nat → Rat, ∀ j, g j = v j - sg (fun t => a t * P t j) k) ∧ ∀ c, c < k → g c = 0
theorem D_sg (P : Nat → Nat → Rat) (a : Nat → Rat) (v : Nat → Rat) (R : List (Nat → Rat)) (cols : List Nat) : ∀ k, (∀ t, t < k → P t ∈ R) → D ((fun j => v j - sg (fun t => a t * P t j) k) :: R) cols = D (v :: R) cols
  | 0, _ => by
    have : (fun j => v j - sg (fun t => a t * P t j) 0) = v := funext fun j => by show v j - 0 = v j; grind
    rw [this]
  | k + 1, h => by
    have e : (fun j => v j - sg (fun t => a t * P t j) (k + 1)) = fun j => (fun j => v j - sg (fun t => a t * P t j) k) j + (- a k) * P k j := funext fun j => by
      show v j - (sg (fun t => a t * P t j) k + a k * P k j) = _
      grind
    rw [e, D_lin, D_same R (P k) cols (h k (Nat.lt_succ_self k)), D_sg P a v R cols k fun t ht => h t (Nat.lt_succ_of_lt ht)]
    grind
theorem Cut.bb {P : Nat → Nat → Rat} {k : Nat} {v g : Nat → Rat} (h : Cut P k v g) (j : Nat) : bb P k v j = g j * dd P k := by
  obtain ⟨⟨a, e⟩, z⟩ := h
  have e2 := D_sg P a v (rowsR P k) (j :: colsR k) k fun t ht => rowsR_mem ht
  have e3 : (fun j => v j - sg (fun t => a t * P t j) k) = g := funext fun j => (e j).symm
  rw [e3] at e2
  show D (v :: rowsR P k) (j :: colsR k) = _
  rw [← e2]
  exact D_head fun c hc => z c (colsR_mem hc)
theorem Cut.next {P : Nat → Nat → Rat} {k : Nat} {v g p : Nat → Rat} (cg : Cut P k v g) (cp : Cut P k (P k) p) (pk : p k ≠ 0) : Cut P (k + 1) v fun j => g j - g k / p k * p j := by
  obtain ⟨⟨a, ea⟩, za⟩ := cg
  obtain ⟨⟨b, eb⟩, zb⟩ := cp
  refine ⟨⟨fun t => if t < k then a t - g k / p k * b t else g k / p k, fun j => ?_⟩, fun c hc => ?_⟩
  · show g j - g k / p k * p j = v j - (sg (fun t => (if t < k then a t - g k / p k * b t else g k / p k) * P t j) k + (if k < k then _ else g k / p k) * P k j)
    rw [if_neg (Nat.lt_irrefl k), sg_congr k fun t ht => by rw [if_pos ht]]
    have e : sg (fun t => (a t - g k / p k * b t) * P t j) k = sg (fun t => a t * P t j) k + (- (g k / p k)) * sg (fun t => b t * P t j) k := by
      rw [← sg_mul, ← sg_add]
      exact sg_congr k fun t _ => by grind
    rw [e, ea j, eb j]
    generalize g k / p k = q
    grind
  · by_cases e : c = k
    · subst e
      show g c - g c / p c * p c = 0
      grind
    · show g c - g k / p k * p c = 0
      rw [za c (by omega), zb c (by omega)]
      grind
def Lead (P : Nat → Nat → Rat) (k : Nat) : Prop := ∀ t, t ≤ k → dd P t ≠ 0
theorem Lead.low {P : Nat → Nat → Rat} {k m : Nat} (h : Lead P k) (l : m ≤ k) : Lead P m := fun t ht => h t (by omega)
theorem cut_ex (P : Nat → Nat → Rat) : ∀ k, Lead P k → ∀ v, ∃ g, Cut P k v g
  | 0, _, v => ⟨v, ⟨fun _ => 0, fun j => by show v j = v j - 0; grind⟩, fun c h => absurd h (Nat.not_lt_zero _)⟩
  | k + 1, h, v => by
    obtain ⟨g, cg⟩ := cut_ex P k (h.low (Nat.le_succ k)) v
    obtain ⟨p, cp⟩ := cut_ex P k (h.low (Nat.le_succ k)) (P k)
    have d1 := h (k + 1) (Nat.le_refl _)
    rw [dd_succ, cp.bb] at d1
    exact ⟨_, cg.next cp fun z => d1 (by rw [z]; grind)⟩
/-- what a stage makes of the one ahead of it -/
theorem bb_step {P : Nat → Nat → Rat} {k : Nat} (h : Lead P (k + 1)) (v : Nat → Rat) (j : Nat) : dd P k * bb P (k + 1) v j = dd P (k + 1) * bb P k v j - bb P k v k * bb P k (P k) j := by
  obtain ⟨g, cg⟩ := cut_ex P k (h.low (Nat.le_succ k)) v
  obtain ⟨p, cp⟩ := cut_ex P k (h.low (Nat.le_succ k)) (P k)
  have d1 := h (k + 1) (Nat.le_refl _)
  rw [dd_succ, cp.bb] at d1
  have pk : p k ≠ 0 := fun z => d1 (by rw [z]; grind)
  rw [(cg.next cp pk).bb, dd_succ, cp.bb, cp.bb, cg.bb, cg.bb]
  grind
theorem bb_low {P : Nat → Nat → Rat} {k : Nat} (h : Lead P k) (v : Nat → Rat) {j : Nat} (hj : j < k) : bb P k v j = 0 := by
  obtain ⟨g, cg⟩ := cut_ex P k h v
  rw [cg.bb, cg.2 j hj]
  grind
theorem bb_own {P : Nat → Nat → Rat} {k i : Nat} (hi : i < k) (j : Nat) : bb P k (P i) j = 0 := D_same _ _ _ (rowsR_mem hi)
/-! ### what is led to a column -/
theorem E_sg (f : Nat → Nat → List Nat → Rat) (cs : List Nat) : ∀ n, E (fun x r => sg (fun t => f t x r) n) cs = sg (fun t => E (f t) cs) n
  | 0 => E_nought cs _ fun _ _ _ => rfl
  | n + 1 => by
    show E (fun x r => sg (fun t => f t x r) n + f n x r) cs = sg (fun t => E (f t) cs) n + E (f n) cs
    rw [← E_sg f cs n, E_congr cs _ (fun x r => sg (fun t => f t x r) n + 1 * f n x r) fun x _ r => by grind, E_add]
    grind
theorem sg_pick (v : Nat → Rat) (y : Rat) (x : Nat) : ∀ n, sg (fun t => v t * ((if x = t then 1 else 0) * y)) n = if x < n then v x * y else 0
  | 0 => by rw [if_neg (Nat.not_lt_zero x)]; rfl
  | n + 1 => by
    show sg _ n + v n * ((if x = n then 1 else 0) * y) = _
    rw [sg_pick v y x n]
    by_cases e : x = n
    · subst e
      rw [if_neg (Nat.lt_irrefl x), if_pos rfl, if_pos (Nat.lt_succ_self x)]
      grind
    · rw [if_neg e]
      by_cases l : x < n
      · rw [if_pos l, if_pos (Nat.lt_succ_of_lt l)]
        grind
      · rw [if_neg l, if_neg (by omega)]
        grind
def tp (P : Nat → Nat → Rat) (n j0 t : Nat) : Rat := E (fun c r => (if c = t then 1 else 0) * D (rowsR P n) (j0 :: r)) (colsR n)
theorem cramer (P : Nat → Nat → Rat) (n j0 : Nat) (v : Nat → Rat) : bb P n v j0 = v j0 * dd P n - sg (fun t => v t * tp P n j0 t) n := by
  show v j0 * D (rowsR P n) (colsR n) - E (fun x r => v x * D (rowsR P n) (j0 :: r)) (colsR n) = _
  have e : E (fun x r => v x * D (rowsR P n) (j0 :: r)) (colsR n) = sg (fun t => v t * tp P n j0 t) n := by
    rw [sg_congr n fun t _ => show v t * tp P n j0 t = E (fun c r => v t * ((if c = t then 1 else 0) * D (rowsR P n) (j0 :: r))) (colsR n) from (E_smul _ _ _).symm, ← E_sg]
    refine E_congr _ _ _ fun x hx r => ?_
    rw [sg_pick, if_pos (colsR_mem hx)]
  rw [e]
  rfl
/-- the rows ahead lead the tops to the column, as often as the last pivot says -/
theorem led_own {P : Nat → Nat → Rat} {n j0 i : Nat} (hi : i < n) : sg (fun t => P i t * tp P n j0 t) n = P i j0 * dd P n := by
  have := cramer P n j0 (P i)
  rw [bb_own hi] at this
  grind
theorem led_cut {P : Nat → Nat → Rat} {n j0 : Nat} (a : Nat → Rat) (v : Nat → Rat) (hv : sg (fun t => v t * tp P n j0 t) n = v j0 * dd P n) : ∀ k, k ≤ n → sg (fun t => (v t - sg (fun s => a s * P s t) k) * tp P n j0 t) n = (v j0 - sg (fun s => a s * P s j0) k) * dd P n
  | 0, _ => by
    show sg (fun t => (v t - 0) * tp P n j0 t) n = (v j0 - 0) * dd P n
    rw [sg_congr n fun t _ => show (v t - 0) * tp P n j0 t = v t * tp P n j0 t by grind, hv]
    grind
  | k + 1, h => by
    have i := led_cut a v hv k (by omega)
    have o := led_own (P := P) (n := n) (j0 := j0) (show k < n by omega)
    show sg (fun t => (v t - (sg (fun s => a s * P s t) k + a k * P k t)) * tp P n j0 t) n = (v j0 - (sg (fun s => a s * P s j0) k + a k * P k j0)) * dd P n
    rw [sg_congr n fun t _ => show (v t - (sg (fun s => a s * P s t) k + a k * P k t)) * tp P n j0 t = (v t - sg (fun s => a s * P s t) k) * tp P n j0 t + (- a k) * (P k t * tp P n j0 t) by grind, sg_add, sg_mul, i, o]
    grind
/-- the same of a row as a stage has it -/
theorem led_bb {P : Nat → Nat → Rat} {n j0 i : Nat} (h : Lead P n) (hi : i < n) : sg (fun t => bb P i (P i) t * tp P n j0 t) n = bb P i (P i) j0 * dd P n := by
  obtain ⟨g, cg⟩ := cut_ex P i (h.low (by omega)) (P i)
  obtain ⟨a, ea⟩ := cg.1
  have l := led_cut (j0 := j0) a (P i) (led_own hi) i (by omega)
  rw [sg_congr n fun t _ => show bb P i (P i) t * tp P n j0 t = dd P i * ((P i t - sg (fun s => a s * P s t) i) * tp P n j0 t) by rw [cg.bb, ea t]; grind, sg_mul, l, cg.bb, ea j0]
  grind
theorem sg_split (f : Nat → Rat) (i : Nat) : ∀ m, sg f (i + m) = sg f i + sg (fun s => f (i + s)) m
  | 0 => by show sg f i = sg f i + 0; grind
  | m + 1 => by
    show sg f (i + m) + f (i + m) = sg f i + (sg (fun s => f (i + s)) m + f (i + m))
    rw [sg_split f i m]
    grind
/-- a top, of those behind it -/
theorem back_one {P : Nat → Nat → Rat} {n j0 i m : Nat} (h : Lead P n) (hm : i + 1 + m = n) : bb P i (P i) i * tp P n j0 i = dd P n * bb P i (P i) j0 - sg (fun s => bb P i (P i) (i + 1 + s) * tp P n j0 (i + 1 + s)) m := by
  have l := led_bb (j0 := j0) h (show i < n by omega)
  have e := sg_split (fun t => bb P i (P i) t * tp P n j0 t) (i + 1) m
  rw [hm] at e
  have z : sg (fun t => bb P i (P i) t * tp P n j0 t) (i + 1) = bb P i (P i) i * tp P n j0 i := by
    show sg (fun t => bb P i (P i) t * tp P n j0 t) i + _ = _
    rw [sg_zero i fun t ht => by rw [bb_low (h.low (by omega)) _ ht]; grind]
    grind
  rw [e, z] at l
  grind
/-- no more than one list is led to a right side -/
theorem only_one {P : Nat → Nat → Rat} {n : Nat} (h : Lead P n) {w : Nat → Rat} (hw : ∀ i, i < n → sg (fun t => P i t * w t) n = 0) : ∀ m t, t < n → n ≤ t + m → w t = 0
  | 0, t, h1, h2 => absurd h1 (by omega)
  | m + 1, t, h1, h2 => by
    obtain ⟨g, cg⟩ := cut_ex P t (h.low (by omega)) (P t)
    obtain ⟨a, ea⟩ := cg.1
    have comb : ∀ k, k ≤ n → sg (fun s => (P t s - sg (fun u => a u * P u s) k) * w s) n = 0 := fun k => by
      induction k with
      | zero =>
        intro _
        rw [sg_congr n fun s _ => show (P t s - sg (fun u => a u * P u s) 0) * w s = P t s * w s by show (P t s - 0) * w s = _; grind]
        exact hw t h1
      | succ k ih =>
        intro hk
        rw [sg_congr n fun s _ => show (P t s - sg (fun u => a u * P u s) (k + 1)) * w s = (P t s - sg (fun u => a u * P u s) k) * w s + (- a k) * (P k s * w s) by
          show (P t s - (sg (fun u => a u * P u s) k + a k * P k s)) * w s = _
          grind, sg_add, sg_mul, ih (by omega), hw k (by omega)]
        grind
    have c := comb t (by omega)
    rw [sg_congr n fun s _ => show (P t s - sg (fun u => a u * P u s) t) * w s = g s * w s by rw [ea s]] at c
    obtain ⟨q, rfl⟩ : ∃ q, n = t + 1 + q := ⟨n - t - 1, by omega⟩
    rw [sg_split] at c
    have z1 : sg (fun s => g s * w s) (t + 1) = g t * w t := by
      show sg (fun s => g s * w s) t + _ = _
      rw [sg_zero t fun s hs => by rw [cg.2 s hs]; grind]
      grind
    have z2 : sg (fun s => g (t + 1 + s) * w (t + 1 + s)) q = 0 := sg_zero q fun s hs => by
      rw [only_one h hw m (t + 1 + s) (by omega) (by omega)]
      grind
    rw [z1, z2] at c
    have d1 := h (t + 1) (by omega)
    rw [dd_succ, cg.bb] at d1
    have gt : g t ≠ 0 := fun e => d1 (by rw [e]; grind)
    grind
/-! ### the first columns alone count -/
theorem D_cols : ∀ (R S : List (Nat → Rat)) (cols : List Nat), R.length = S.length → (∀ (i : Nat) (b c : Nat → Rat), R[i]? = some b → S[i]? = some c → ∀ x ∈ cols, b x = c x) → D R cols = D S cols
  | [], [], _, _, _ => rfl
  | [], _ :: _, _, h, _ => absurd h (by simp)
  | _ :: _, [], _, h, _ => absurd h (by simp)
  | b :: R, c :: S, cols, hl, h => by
    have key : ∀ (cs : List Nat) (f : List Nat → List Nat), (∀ x ∈ cs, b x = c x) → (∀ r, (∀ x ∈ r, x ∈ cs) → ∀ x ∈ f r, x ∈ cols) → E (fun x r => b x * D R (f r)) cs = E (fun x r => c x * D S (f r)) cs := fun cs => by
      induction cs with
      | nil => intro _ _ _; rfl
      | cons y cs ih =>
        intro f h1 h2
        show b y * D R (f cs) - E (fun x r => b x * D R (f (y :: r))) cs = c y * D S (f cs) - E (fun x r => c x * D S (f (y :: r))) cs
        have e1 : D R (f cs) = D S (f cs) := D_cols R S (f cs) (Nat.succ.inj hl) fun i b' c' h3 h4 x hx => h (i + 1) b' c' h3 h4 x (h2 cs (fun x hx => List.mem_cons_of_mem _ hx) x hx)
        rw [h1 y List.mem_cons_self, e1, ih (fun r => f (y :: r)) (fun x hx => h1 x (List.mem_cons_of_mem _ hx)) fun r hr x hx => h2 (y :: r) (fun z hz => by
          rcases List.mem_cons.mp hz with rfl | hz
          · exact List.mem_cons_self
          · exact List.mem_cons_of_mem _ (hr z hz)) x hx]
    exact key cols (fun r => r) (fun x hx => h 0 b c rfl rfl x hx) fun r hr x hx => hr x hx
theorem rowsR_at (P : Nat → Nat → Rat) : ∀ (k i : Nat), i < k → (rowsR P k)[i]? = some (P (k - 1 - i))
  | k + 1, 0, _ => rfl
  | k + 1, i + 1, h => by
    show (rowsR P k)[i]? = _
    rw [rowsR_at P k i (by omega), show k + 1 - 1 - (i + 1) = k - 1 - i by omega]
theorem dd_cols {P Q : Nat → Nat → Rat} {k : Nat} (h : ∀ i j, i < k → j < k → P i j = Q i j) : dd P k = dd Q k := by
  refine D_cols _ _ _ (by rw [rowsR_len, rowsR_len]) fun i b c h1 h2 x hx => ?_
  have hi := (List.getElem?_eq_some_iff.mp h1).1
  rw [rowsR_len] at hi
  rw [rowsR_at P k i hi] at h1
  rw [rowsR_at Q k i hi] at h2
  cases h1
  cases h2
  exact h _ _ (by omega) (colsR_mem hx)
/-- every right side has a list that is led to it -/
theorem any_side {P : Nat → Nat → Rat} {n : Nat} (h : Lead P n) (y : Nat → Rat) : ∃ x : Nat → Rat, ∀ i, i < n → sg (fun t => P i t * x t) n = y i := by
  have e : dd (fun i j => if j = n then y i else P i j) n = dd P n := dd_cols fun i j _ hj => by
    show (if j = n then _ else P i j) = _
    rw [if_neg (by omega)]
  have d := h n (Nat.le_refl _)
  refine ⟨fun t => tp (fun i j => if j = n then y i else P i j) n n t / dd P n, fun i hi => ?_⟩
  have o := led_own (P := fun i j => if j = n then y i else P i j) (n := n) (j0 := n) hi
  rw [e] at o
  have o2 : sg (fun t => P i t * tp (fun i j => if j = n then y i else P i j) n n t) n = y i * dd P n := by
    rw [← sg_congr n fun t ht => show (if t = n then y i else P i t) * tp (fun i j => if j = n then y i else P i j) n n t = P i t * tp (fun i j => if j = n then y i else P i j) n n t by rw [if_neg (by omega)]]
    have o3 : sg (fun t => (if t = n then y i else P i t) * tp (fun i j => if j = n then y i else P i j) n n t) n = (if n = n then y i else P i n) * dd P n := o
    rw [if_pos rfl] at o3
    exact o3
  generalize tp (fun i j => if j = n then y i else P i j) n n = T at *
  rw [sg_congr n fun t _ => show P i t * (T t / dd P n) = (1 / dd P n) * (P i t * T t) by grind, sg_mul, o2]
  grind
/-! ### whole numbers on the way -/
theorem bb_wh {M : Nat} {P : Nat → Nat → Rat} {v : Nat → Rat} (hP : ∀ i j, Wh M (P i j)) (hv : ∀ j, Wh M (v j)) (k j : Nat) : Wh (fac (k + 1) * M ^ (k + 1)) (bb P k v j) := by
  have := D_wh (M := M) (v :: rowsR P k) (j :: colsR k) (fun b hb c => by
    rcases List.mem_cons.mp hb with rfl | hb
    · exact hv c
    · obtain ⟨t, _, rfl⟩ := rowsR_of hb
      exact hP t c) (by rw [List.length_cons, List.length_cons, colsR_len, rowsR_len])
  rw [List.length_cons, rowsR_len] at this
  exact this
theorem dd_wh {M : Nat} {P : Nat → Nat → Rat} (hP : ∀ i j, Wh M (P i j)) (k : Nat) : Wh (fac k * M ^ k) (dd P k) := by
  have := D_wh (M := M) (rowsR P k) (colsR k) (fun b hb c => by
    obtain ⟨t, _, rfl⟩ := rowsR_of hb
    exact hP t c) (by rw [colsR_len, rowsR_len])
  rw [rowsR_len] at this
  exact this
theorem tp_wh {M : Nat} {P : Nat → Nat → Rat} (hP : ∀ i j, Wh M (P i j)) (n j0 t : Nat) : Wh (n * (fac n * M ^ n)) (tp P n j0 t) := by
  have := E_wh (M := fac n * M ^ n) (colsR n) (fun c r => (if c = t then 1 else 0) * D (rowsR P n) (j0 :: r)) fun x r hx hr => by
    have d := D_wh (M := M) (rowsR P n) (j0 :: r) (fun b hb c => by
      obtain ⟨t, _, rfl⟩ := rowsR_of hb
      exact hP t c) (by rw [List.length_cons, hr, colsR_len, rowsR_len])
    rw [rowsR_len] at d
    by_cases e : x = t
    · show Wh _ ((if x = t then 1 else 0) * _)
      rw [if_pos e]
      have : (1 : Rat) * D (rowsR P n) (j0 :: r) = D (rowsR P n) (j0 :: r) := by grind
      rw [this]
      exact d
    · show Wh _ ((if x = t then 1 else 0) * _)
      rw [if_neg e]
      exact ⟨0, by grind, Nat.zero_le _⟩
  rw [colsR_len] at this
  exact this
/-! ### rows of whole numbers, stage by stage -/
def en (rs : List (List Int)) (i j : Nat) : Int := (rs.getD i []).getD j 0
def cA (A : List (List Int)) (σ : Nat → Nat) : Nat → Nat → Rat := fun i j => (en A (σ i) j : Rat)
def newRow (lead : List Int) (at_ : Nat) (last : Int) (m : Nat) (r : List Int) : List Int := List.replicate (at_ + 1) 0 ++ (List.range' (at_ + 1) (m - (at_ + 1))).map fun k => (lead.getD at_ 0 * r.getD k 0 - r.getD at_ 0 * lead.getD k 0).fdiv last
def belowL (rs : List (List Int)) (at_ : Nat) (last : Int) (m : Nat) : List (List Int) := rs.take (at_ + 1) ++ (rs.drop (at_ + 1)).map (newRow (rs.getD at_ []) at_ last m)
def exL (rs : List (List Int)) (a b : Nat) : List (List Int) := (rs.set a (rs.getD b [])).set b (rs.getD a [])
def swp (a b : Nat) (i : Nat) : Nat := if i = a then b else if i = b then a else i
structure Stg (A rs : List (List Int)) (m : Nat) (σ : Nat → Nat) (k : Nat) : Prop where
  len : rs.length = A.length
  wid : ∀ r ∈ rs, r.length = m
  kle : k ≤ A.length
  p1 : ∀ i, i < A.length → σ i < A.length
  p2 : ∀ i, i < A.length → ∃ t, t < A.length ∧ σ t = i
  lead : Lead (cA A σ) k
  val : ∀ i j, i < A.length → j < m → (en rs i j : Rat) = bb (cA A σ) (min i k) (cA A σ i) j
theorem en_at {rs : List (List Int)} {i j : Nat} {r : List Int} (h : rs[i]? = some r) : en rs i j = r.getD j 0 := by
  have e : rs.getD i [] = r := by
    rw [List.getD_eq_getElem?_getD, h]
    rfl
  unfold en
  rw [e]
theorem Stg.start {A : List (List Int)} {m : Nat} (h : ∀ r ∈ A, r.length = m) : Stg A A m id 0 where
  len := rfl
  wid := h
  kle := Nat.zero_le _
  p1 := fun i hi => hi
  p2 := fun i hi => ⟨i, hi, rfl⟩
  lead := fun t ht => by
    have : t = 0 := by omega
    subst this
    rw [dd_zero]
    decide +kernel
  val := fun i j hi hj => by rw [Nat.min_zero, bb_zero]; rfl
theorem bb_congr {P Q : Nat → Nat → Rat} {k : Nat} (h : ∀ t, t < k → P t = Q t) (v : Nat → Rat) (j : Nat) : bb P k v j = bb Q k v j := by
  unfold bb
  rw [rowsR_congr h]
theorem dd_congr {P Q : Nat → Nat → Rat} {k : Nat} (h : ∀ t, t < k → P t = Q t) : dd P k = dd Q k := by
  unfold dd
  rw [rowsR_congr h]
theorem en_ex {rs : List (List Int)} {a b : Nat} (ha : a < rs.length) (hb : b < rs.length) (i j : Nat) : en (exL rs a b) i j = en rs (swp a b i) j := by
  have e : (exL rs a b)[i]? = rs[swp a b i]? := by
    have ga : rs[a]? = some (rs.getD a []) := by rw [List.getD_eq_getElem?_getD, List.getElem?_eq_getElem ha]; rfl
    have gb : rs[b]? = some (rs.getD b []) := by rw [List.getD_eq_getElem?_getD, List.getElem?_eq_getElem hb]; rfl
    unfold exL swp
    by_cases x : i = a
    · subst x
      rw [if_pos rfl, gb]
      by_cases y : b = i
      · subst y
        rw [List.getElem?_set_self (by rw [List.length_set]; exact hb)]
      · rw [List.getElem?_set_ne y, List.getElem?_set_self ha]
    · rw [if_neg x]
      by_cases y : i = b
      · subst y
        rw [if_pos rfl, ga, List.getElem?_set_self (by rw [List.length_set]; exact hb)]
      · rw [if_neg y, List.getElem?_set_ne (fun z => y z.symm), List.getElem?_set_ne (fun z => x z.symm)]
  have g : (exL rs a b).getD i [] = rs.getD (swp a b i) [] := by
    rw [List.getD_eq_getElem?_getD, e, ← List.getD_eq_getElem?_getD]
  unfold en
  rw [g]
theorem Stg.ex {A rs : List (List Int)} {m : Nat} {σ : Nat → Nat} {k x : Nat} (S : Stg A rs m σ k) (kx : k ≤ x) (hx : x < A.length) : Stg A (exL rs k x) m (fun i => σ (swp k x i)) k := by
  have hk : k < A.length := by omega
  have same : ∀ t, t < k → cA A (fun i => σ (swp k x i)) t = cA A σ t := fun t ht => by
    have : swp k x t = t := by
      unfold swp
      rw [if_neg (by omega), if_neg (by omega)]
    show (fun j => ((en A (σ (swp k x t)) j : Int) : Rat)) = _
    rw [this]
    rfl
  have sw : ∀ i, i < A.length → swp k x i < A.length := fun i hi => by
    unfold swp
    split
    · exact hx
    · split
      · exact hk
      · exact hi
  refine ⟨?_, fun r hr => ?_, S.kle, fun i hi => S.p1 _ (sw i hi), fun i hi => ?_, fun t ht => ?_, fun i j hi hj => ?_⟩
  · unfold exL
    rw [List.length_set, List.length_set, S.len]
  · obtain ⟨i, hi⟩ := List.mem_iff_getElem?.mp hr
    unfold exL at hi
    have gk : rs.getD k [] ∈ rs := by
      rw [List.getD_eq_getElem?_getD, List.getElem?_eq_getElem (by rw [S.len]; exact hk)]
      exact List.getElem_mem _
    have gx : rs.getD x [] ∈ rs := by
      rw [List.getD_eq_getElem?_getD, List.getElem?_eq_getElem (by rw [S.len]; exact hx)]
      exact List.getElem_mem _
    rw [List.getElem?_set] at hi
    split at hi
    · split at hi
      · cases hi
        exact S.wid _ gk
      · cases hi
    · rw [List.getElem?_set] at hi
      split at hi
      · split at hi
        · cases hi
          exact S.wid _ gx
        · cases hi
      · exact S.wid _ (List.mem_of_getElem? hi)
  · obtain ⟨t, ht, e⟩ := S.p2 i hi
    refine ⟨swp k x t, sw t ht, ?_⟩
    have : swp k x (swp k x t) = t := by
      unfold swp
      repeat' split
      all_goals omega
    show σ (swp k x (swp k x t)) = i
    rw [this, e]
  · rw [dd_congr (Q := cA A σ) fun u hu => same u (by omega)]
    exact S.lead t ht
  · rw [en_ex (by rw [S.len]; exact hk) (by rw [S.len]; exact hx), S.val _ _ (sw i hi) hj, bb_congr (Q := cA A σ) (k := min i k) fun u hu => same u (by omega)]
    have mm : min (swp k x i) k = min i k := by
      unfold swp
      split
      · omega
      · split <;> omega
    rw [mm]
    rfl
theorem Stg.piv {A rs : List (List Int)} {m : Nat} {σ : Nat → Nat} {k : Nat} (S : Stg A rs m σ k) (hk : k < A.length) (hm : k < m) : (en rs k k : Rat) = dd (cA A σ) (k + 1) := by
  rw [S.val k k hk hm, Nat.min_self, dd_succ]
def Bd (A : List (List Int)) (M : Nat) : Prop := ∀ i j, (en A i j).natAbs ≤ M
theorem cA_wh {A : List (List Int)} {M : Nat} (h : Bd A M) (σ : Nat → Nat) (i j : Nat) : Wh M (cA A σ i j) := ⟨_, rfl, h _ _⟩
theorem new_at {lead r : List Int} {at_ m : Nat} {last : Int} (hm : at_ + 1 ≤ m) (j : Nat) (hj : j < m) : (newRow lead at_ last m r).getD j 0 = if j ≤ at_ then 0 else (lead.getD at_ 0 * r.getD j 0 - r.getD at_ 0 * lead.getD j 0).fdiv last := by
  unfold newRow
  rw [List.getD_eq_getElem?_getD]
  by_cases c : j ≤ at_
  · rw [if_pos c, List.getElem?_append_left (by rw [List.length_replicate]; omega), List.getElem?_replicate, if_pos (by omega)]
    rfl
  · rw [if_neg c, List.getElem?_append_right (by rw [List.length_replicate]; omega), List.length_replicate, List.getElem?_map, List.getElem?_range' (by omega)]
    show (lead.getD at_ 0 * r.getD (at_ + 1 + 1 * (j - (at_ + 1))) 0 - r.getD at_ 0 * lead.getD (at_ + 1 + 1 * (j - (at_ + 1))) 0).fdiv last = _
    rw [show at_ + 1 + 1 * (j - (at_ + 1)) = j by omega]
theorem new_len {lead r : List Int} {at_ m : Nat} {last : Int} (hm : at_ + 1 ≤ m) : (newRow lead at_ last m r).length = m := by
  unfold newRow
  rw [List.length_append, List.length_replicate, List.length_map, List.length_range']
  omega
/-- the next stage -/
theorem Stg.step {A rs : List (List Int)} {m M : Nat} {σ : Nat → Nat} {k : Nat} {last : Int} (S : Stg A rs m σ k) (hB : Bd A M) (hk : k < A.length) (hm : k + 1 ≤ m) (hd : (last : Rat) = dd (cA A σ) k) (hn : en rs k k ≠ 0) : Stg A (belowL rs k last m) m σ (k + 1) := by
  have ld : Lead (cA A σ) (k + 1) := fun t ht => by
    by_cases e : t = k + 1
    · subst e
      rw [← S.piv hk (by omega)]
      intro z
      exact hn (Rat.intCast_eq_zero_iff.mp z)
    · exact S.lead t (by omega)
  have gt : ∀ i, i < A.length → rs[i]? = some (rs.getD i []) := fun i hi => by
    rw [List.getD_eq_getElem?_getD, List.getElem?_eq_getElem (by rw [S.len]; exact hi)]
    rfl
  have tk : (rs.take (k + 1)).length = k + 1 := by
    rw [List.length_take, S.len]
    omega
  have old : ∀ i, i ≤ k → (belowL rs k last m)[i]? = rs[i]? := fun i hi => by
    unfold belowL
    rw [List.getElem?_append_left (by rw [tk]; omega), List.getElem?_take, if_pos (by omega)]
  have neu : ∀ i, k < i → i < A.length → (belowL rs k last m)[i]? = some (newRow (rs.getD k []) k last m (rs.getD i [])) := fun i hi hl => by
    unfold belowL
    rw [List.getElem?_append_right (by rw [tk]; omega), tk, List.getElem?_map, List.getElem?_drop, show k + 1 + (i - (k + 1)) = i by omega, gt i hl]
    rfl
  refine ⟨?_, fun r hr => ?_, hk, S.p1, S.p2, ld, fun i j hi hj => ?_⟩
  · unfold belowL
    rw [List.length_append, tk, List.length_map, List.length_drop, S.len]
    omega
  · unfold belowL at hr
    rcases List.mem_append.mp hr with h | h
    · exact S.wid r (List.mem_of_mem_take h)
    · obtain ⟨r', _, rfl⟩ := List.mem_map.mp h
      exact new_len hm
  · by_cases c : i ≤ k
    · have e : en (belowL rs k last m) i j = en rs i j := by
        have g : (belowL rs k last m).getD i [] = rs.getD i [] := by
          rw [List.getD_eq_getElem?_getD, old i c, ← List.getD_eq_getElem?_getD]
        unfold en
        rw [g]
      rw [e, S.val i j hi hj, Nat.min_eq_left c, Nat.min_eq_left (by omega)]
    · rw [en_at (neu i (by omega) hi), new_at hm j hj, Nat.min_eq_right (by omega)]
      by_cases c2 : j ≤ k
      · rw [if_pos c2, bb_low ld _ (by omega)]
        rfl
      · rw [if_neg c2]
        obtain ⟨z, ez, _⟩ := bb_wh (cA_wh hB σ) (cA_wh hB σ i) (k + 1) j
        have st := bb_step ld (cA A σ i) j
        have v1 := S.val k k hk (by omega)
        have v2 := S.val i j hi hj
        have v3 := S.val i k hi (by omega)
        have v4 := S.val k j hk hj
        rw [Nat.min_self] at v1 v4
        rw [Nat.min_eq_right (by omega)] at v2 v3
        rw [dd_succ, ← v1, ← v2, ← v3, ← v4, ← hd, ez] at st
        have st2 : last * z = en rs k k * en rs i j - en rs i k * en rs k j := by
          have : ((last * z : Int) : Rat) = ((en rs k k * en rs i j - en rs i k * en rs k j : Int) : Rat) := by
            rw [Rat.intCast_mul, Rat.intCast_sub, Rat.intCast_mul, Rat.intCast_mul]
            exact st
          exact Rat.intCast_inj.mp this
        have l0 : last ≠ 0 := fun e => S.lead k (Nat.le_refl k) (by rw [← hd, e]; rfl)
        rw [ez]
        show (((en rs k k * en rs i j - en rs i k * en rs k j).fdiv last : Int) : Rat) = (z : Rat)
        rw [← st2, Int.mul_fdiv_cancel_left _ l0]
theorem Stg.size {A rs : List (List Int)} {m M : Nat} {σ : Nat → Nat} {k : Nat} (S : Stg A rs m σ k) (hB : Bd A M) (h1 : 1 ≤ M) {i j : Nat} (hi : i < A.length) (hj : j < m) : (en rs i j).natAbs ≤ fac (A.length + 1) * M ^ (A.length + 1) := by
  obtain ⟨z, ez, bz⟩ := bb_wh (cA_wh hB σ) (cA_wh hB σ i) (min i k) j
  have e := S.val i j hi hj
  rw [ez] at e
  rw [Rat.intCast_inj.mp e]
  refine Nat.le_trans bz (Nat.mul_le_mul ?_ (Nat.pow_le_pow_right h1 (by omega)))
  have mono : ∀ a b, a ≤ b → fac a ≤ fac b := fun a b h => by
    induction h with
    | refl => exact Nat.le_refl _
    | step _ ih => exact Nat.le_trans ih (Nat.le_mul_of_pos_left _ (Nat.succ_pos _))
  exact mono _ _ (by omega)
/-- no row leads: what a column's list is then -/
theorem Stg.lost {A rs : List (List Int)} {m : Nat} {σ : Nat → Nat} {k : Nat} (S : Stg A rs m σ k) (hm : k < m) (h : ∀ i, k ≤ i → i < A.length → en rs i k = 0) {i : Nat} (hi : i < A.length) : sg (fun t => cA A σ i t * tp (cA A σ) k k t) k = cA A σ i k * dd (cA A σ) k := by
  by_cases c : i < k
  · exact led_own c
  · have cr := cramer (cA A σ) k k (cA A σ i)
    have v := S.val i k hi hm
    rw [Nat.min_eq_right (by omega), h i (by omega) hi] at v
    rw [← v] at cr
    have z : ((0 : Int) : Rat) = 0 := rfl
    rw [z] at cr
    grind

end E1

namespace E1
open PySem PySem.Spec PyProof.Rows L2

theorem rep_all (n : Nat) : (List.replicate n true).all id = true := by
  rw [List.all_eq_true]
  intro x h
  exact (List.mem_replicate.mp h).2
theorem PrL_get {H : Hp} {vs : List V} {ps : List (Int × Int)} (h : PrsAt H vs ps) {i : Nat} {v : V} (e : vs[i]? = some v) : ∃ p t b, v = .ref p ∧ ps[i]? = some (t, b) ∧ (t, b) ∈ ps ∧ H p = some (.tup [.int t, .int b]) := by
  obtain ⟨p, t, b, e1, e2, e3⟩ := h.get e
  exact ⟨p, t, b, e1, e2, List.mem_of_getElem? e2, e3⟩
/-- pairs whose bottoms are above 0 and divide D -/
def Btm (D : Int) (ps : List (Int × Int)) : Prop := D ≠ 0 ∧ D.natAbs < 2 ^ 2000 ∧ ∀ p ∈ ps, 0 < p.2 ∧ p.2 ∣ D ∧ p.1.natAbs < 2 ^ 3000
theorem Btm.lt {D : Int} {ps : List (Int × Int)} (h : Btm D ps) {b : Int} (hb : 0 < b) (d : b ∣ D) : b.natAbs < 2 ^ 2000 := by
  have : b.natAbs ∣ D.natAbs := Int.natAbs_dvd_natAbs.mpr d
  have := Nat.le_of_dvd (by have := h.1; omega) this
  exact Nat.lt_of_le_of_lt this h.2.1
theorem Btm.com {D : Int} {ps : List (Int × Int)} (h : Btm D ps) : 0 < com (ps.map (·.2)) ∧ com (ps.map (·.2)) ∣ D ∧ ∀ p ∈ ps, p.2 ∣ com (ps.map (·.2)) := by
  have hp : ∀ b ∈ ps.map (·.2), 0 < b ∧ b ∣ D := fun b hb => by
    obtain ⟨p, h1, rfl⟩ := List.mem_map.mp hb
    exact ⟨(h.2.2 p h1).1, (h.2.2 p h1).2.1⟩
  obtain ⟨c1, _, c3, c4⟩ := com_ok (ps.map (·.2)) 1 (by decide) fun b hb => (hp b hb).1
  exact ⟨c1, c4 D (Int.one_dvd D) fun b hb => (hp b hb).2, fun p hp' => c3 _ (List.mem_map.mpr ⟨p, hp', rfl⟩)⟩
theorem Btm.take {D : Int} {ps : List (Int × Int)} (h : Btm D ps) (n : Nat) : Btm D (ps.take n) := ⟨h.1, h.2.1, fun p hp => h.2.2 p (List.mem_of_mem_take hp)⟩
def spIsFrs : Sp := fun vs H Q _ => ∃ (a : Addr) (qs : List Rat), vs = [.ref a] ∧ FrL H a qs ∧ qs.length ≤ 1000 ∧ ∀ H', Same H H' → Q (.bl true) H'
def spCom : Sp := fun vs H Q _ => ∃ (a : Addr) (ws : List V) (ps : List (Int × Int)) (D : Int), vs = [.ref a] ∧ H a = some (.lst ws) ∧ PrsAt H ws ps ∧ Btm D ps ∧ Q (.int (com (ps.map (·.2)))) H
def spCleared : Sp := fun vs H Q _ => ∃ (a : Addr) (ws : List V) (ps : List (Int × Int)) (D : Int), vs = [.ref a] ∧ H a = some (.lst ws) ∧ PrsAt H ws ps ∧ Btm D ps ∧ ps.length ≤ 1000 ∧
  ∀ T l H', Same H H' → H' T = some (.tup [.ref l, .int (com (ps.map (·.2)))]) → H' l = some (.lst ((tops (com (ps.map (·.2))) ps).map V.int)) → Q (.ref T) H'
theorem FrL.len {H : Hp} {a : Addr} {qs : List Rat} (h : FrL H a qs) : ∃ vs, H a = some (.lst vs) ∧ vs.length = qs.length ∧ FrsAt H vs qs := by
  obtain ⟨vs, e, r⟩ := h
  exact ⟨vs, e, FrsAt.len r, r⟩

/-- // by a whole number other than 0 -/
def CDivNW (_ j : Int) : Prop := j ≠ 0 ∧ j.natAbs.log2 < 9000
theorem op_fdivNW {X : Cx} : OpR X (binaryOp .FloorDiv) (rI CDivNW fun i j => .int (i.fdiv j)) := opI fun _ _ _ _ _ _ _ hc q => floordiv_int hc.1 q (.inl (PyProof.noPylong_of_log2 hc.2))
theorem wide_divN {i j : Int} {b : Nat} (h : j ≠ 0) (hb : j.natAbs < 2 ^ b) (h0 : 0 < b) (h9 : b ≤ 9000) : CDivNW i j := ⟨h, Nat.lt_of_lt_of_le (PySem.Flt.log2_lt_of h0 hb) h9⟩
theorem iteC {c d : Bool} {A B : Prop} (e : c = d) (h : if d = true then A else B) : if c = true then A else B := e ▸ h
def dotZ : List Int → List Int → Int
  | x :: xs, y :: ys => x * y + dotZ xs ys
  | _, _ => 0
def mulZ : List Int → List Int → List Int
  | x :: xs, y :: ys => x * y :: mulZ xs ys
  | _, _ => []
theorem mulZ_sum : ∀ xs ys : List Int, (mulZ xs ys).sum = dotZ xs ys
  | [], ys => by cases ys <;> rfl
  | x :: xs, [] => rfl
  | x :: xs, y :: ys => by
    show (x * y :: mulZ xs ys).sum = x * y + dotZ xs ys
    rw [List.sum_cons, mulZ_sum xs ys]
theorem mulZ_len : ∀ xs ys : List Int, (mulZ xs ys).length = min xs.length ys.length
  | [], ys => by cases ys <;> simp [mulZ]
  | x :: xs, [] => by simp [mulZ]
  | x :: xs, y :: ys => by
    show (mulZ xs ys).length + 1 = min (xs.length + 1) (ys.length + 1)
    rw [mulZ_len xs ys]
    omega
theorem mulZ_take : ∀ (xs ys : List Int) (i : Nat) (x y : Int), xs[i]? = some x → ys[i]? = some y → mulZ (xs.take (i + 1)) (ys.take (i + 1)) = mulZ (xs.take i) (ys.take i) ++ [x * y]
  | a :: xs, b :: ys, 0, x, y, h1, h2 => by
    cases h1
    cases h2
    rfl
  | a :: xs, b :: ys, i + 1, x, y, h1, h2 => by
    show a * b :: mulZ (xs.take (i + 1)) (ys.take (i + 1)) = a * b :: (mulZ (xs.take i) (ys.take i) ++ [x * y])
    rw [mulZ_take xs ys i x y h1 h2]
  | [], _, _, _, _, h1, _ => by cases h1
  | _ :: _, [], _, _, _, _, h2 => by cases h2
def Bits (n : Nat) (xs : List Int) : Prop := ∀ x ∈ xs, x.natAbs < 2 ^ n
def spDot : Sp := fun vs H Q _ => ∃ (a c : Addr) (xs ys : List Int), vs = [.ref a, .ref c] ∧ H a = some (.lst (xs.map V.int)) ∧ H c = some (.lst (ys.map V.int)) ∧ xs.length ≤ 1000 ∧ Bits 4000 xs ∧ Bits 4000 ys ∧ ∀ H', Same H H' → Q (.int (dotZ xs ys)) H'
/-- rows of whole numbers -/
def RwL (H : Hp) (vs : List V) (rs : List (List Int)) : Prop := vs.length = rs.length ∧ ∀ (i : Nat) (r : List Int), rs[i]? = some r → ∃ b, vs[i]? = some (.ref b) ∧ H b = some (.lst (r.map V.int))
theorem RwL.same {H H' : Hp} {vs : List V} {ss : List (List Int)} (h : RwL H vs ss) (s : Same H H') : RwL H' vs ss := ⟨h.1, fun i x e => let ⟨b, e1, f⟩ := h.2 i x e; ⟨b, e1, s _ _ f⟩⟩
theorem RwL.get {H : Hp} {vs : List V} {ss : List (List Int)} (h : RwL H vs ss) {i : Nat} {v : V} (e : vs[i]? = some v) : ∃ b s, v = .ref b ∧ ss[i]? = some s ∧ H b = some (.lst (s.map V.int)) := by
  have hi := (List.getElem?_eq_some_iff.mp e).1
  have e2 : ss[i]? = some (ss[i]'(by rw [← h.1]; exact hi)) := List.getElem?_eq_getElem _
  obtain ⟨b, e3, f⟩ := h.2 i _ e2
  rw [e] at e3
  cases e3
  exact ⟨b, _, rfl, e2, f⟩
theorem RwL.app {H : Hp} {vs us : List V} {ss ts : List (List Int)} (h : RwL H vs ss) (g : RwL H us ts) : RwL H (vs ++ us) (ss ++ ts) := by
  refine ⟨by rw [List.length_append, List.length_append, h.1, g.1], fun i s e => ?_⟩
  by_cases c : i < ss.length
  · rw [List.getElem?_append_left c] at e
    rw [List.getElem?_append_left (by rw [h.1]; exact c)]
    exact h.2 i s e
  · rw [List.getElem?_append_right (by omega)] at e
    rw [List.getElem?_append_right (by rw [h.1]; omega), h.1]
    exact g.2 _ s e
theorem RwL.one {H : Hp} {b : Addr} {s : List Int} (h : H b = some (.lst (s.map V.int))) : RwL H [.ref b] [s] := by
  refine ⟨rfl, fun i t e => ?_⟩
  match i with
  | 0 => cases e; exact ⟨b, rfl, h⟩
  | i + 1 => cases e
theorem RwL.drop {H : Hp} {vs : List V} {ss : List (List Int)} (h : RwL H vs ss) (n : Nat) : RwL H (vs.drop n) (ss.drop n) := by
  refine ⟨by rw [List.length_drop, List.length_drop, h.1], fun i s e => ?_⟩
  rw [List.getElem?_drop] at e ⊢
  exact h.2 _ s e
theorem RwL.take {H : Hp} {vs : List V} {ss : List (List Int)} (h : RwL H vs ss) (n : Nat) : RwL H (vs.take n) (ss.take n) := by
  refine ⟨by rw [List.length_take, List.length_take, h.1], fun i s e => ?_⟩
  rw [List.getElem?_take] at e ⊢
  split at e
  · rw [if_pos (by assumption)]
    exact h.2 _ s e
  · cases e
theorem RwL.set {H : Hp} {vs : List V} {ss : List (List Int)} (h : RwL H vs ss) {k : Nat} {b : Addr} {s : List Int} (f : H b = some (.lst (s.map V.int))) : RwL H (vs.set k (.ref b)) (ss.set k s) := by
  refine ⟨by rw [List.length_set, List.length_set, h.1], fun i t e => ?_⟩
  rw [List.getElem?_set] at e ⊢
  split at e
  · rename_i c
    rw [if_pos c]
    split at e
    · rename_i c2
      cases e
      rw [if_pos (by rw [h.1]; exact c2)]
      exact ⟨b, rfl, f⟩
    · cases e
  · rename_i c
    rw [if_neg c]
    exact h.2 i t e
/-- a list of rows is no row of numbers -/
theorem RwL.but {H H' : Hp} {D : Addr} {us vs : List V} {ss : List (List Int)} (h : RwL H vs ss) (hD : H D = some (.lst us)) (n : ∀ v ∈ vs, v ≠ .ref D) (t : SameBut D H H') : RwL H' vs ss :=
  ⟨h.1, fun i s e => let ⟨b, e1, f⟩ := h.2 i s e; ⟨b, e1, t _ _ (fun z => n _ (List.mem_of_getElem? e1) (by rw [z])) f⟩⟩
section
variable {P : Program} {w : World} {K : PySem.W.Frag} {mg : Str → Option Value} {base : Heap}
theorem sc_is_fractions : FnScope ["thing", "one"] ["thing"] (defScope s_is_fractions) := ⟨rfl, rfl, rfl, by decide +kernel, rfl, by decide +kernel, by decide +kernel⟩
theorem ok_is_fractions {f : Addr} {fd : FuncData} (F : Fun K "is_fractions" "is_fractions" s_is_fractions f fd) (z : Zs mg) (c_is_fraction : Cal P w K mg base 2 "is_fraction" ["thing"] spIsFrac) : FnOk P w K mg base CX0 3 f fd ["thing"] spIsFrs := by
  refine F.ok sc_is_fractions (fun vs H Q E h => ?_) (fun cdv A outer s H vs Q E hr h => ?_)
  · obtain ⟨a, qs, rfl, _⟩ := h
    rfl
  · obtain ⟨a, qs, rfl, ⟨vs, ha, hq⟩, hl, q⟩ := h
    refine ⟨_, (pss_one (ps_ret (pe_and (pe_callB call_isi (by rfl) z.isinstance (by decide +kernel) (pa_cons (pv 0) (pa_cons (pe_bltn (v := .ty "list") (by rfl) z.list (by decide +kernel) rfl) pa_nil))) (pe_one (pe_callB (cr_all rfl) (by rfl) z.all (by decide +kernel) (pa_cons (pe_lc (own := [("one", 1)]) (g := gName 1) (tt := tYes) (te := (tCall spIsFrac [] E0 (tCons (tVar 1) tNil))) (by rfl) sc_is_fractions.nd (pi_list (pv 0)) (blkOk_by (own := [("one", 1)]) (N := ["thing", "one"]) (sc := defScope s_is_fractions) (by decide +kernel)) (fun _ _ _ _ _ => by exact (pg_name (i := 1) sc_is_fractions.nd rfl (.inl rfl))) (fun _ _ _ _ _ => by exact pts_nil) (fun _ _ _ _ _ => by exact (pe_cal c_is_fraction hr (pa_cons (pv 1) pa_nil)))) pa_nil)))))), ?_⟩
    have hlen := FrsAt.len hq
    refine ⟨_, rfl, _, .ty "list", _, _, true, rfl, .ty _, .base (.lst ha), kit_ty (by decide +kernel), _, rfl, iteT ⟨_, rfl, a, rfl, ⟨_, SqL.of ha⟩, fun D hD => lc_list (K := K) (a := a) (xs := vs) (fun i H' => Same H H' ∧ H' D = some (.lst (List.replicate i (V.bl true)))) ⟨same_new hD, upd_same⟩ (fun i H' _ hP => SqL.of (hP.1 _ _ ha)) (fun i x H' hx hP => ?_) (fun H' hP => ?_)⟩⟩
    · obtain ⟨s1, hacc⟩ := hP
      obtain ⟨p, r, rfl, hr', hp⟩ := FrsAt.get hq hx
      have hi := (List.getElem?_eq_some_iff.mp hx).1
      have d0 := den_ge r
      refine ⟨rfl, _, rfl, p, r.num, r.den, rfl, s1 _ _ hp, by omega, ?_⟩
      rw [q_gcd, decide_eq_true rfl]
      refine ⟨_, hacc, ?_, fun b o e => ?_, ?_⟩
      · rw [List.length_replicate]
        exact small1000 (by omega)
      · rw [upd_ne (ne_of_none e hD)]
        exact s1 _ _ e
      · rw [upd_same, List.replicate_succ']
    · obtain ⟨s1, hacc⟩ := hP
      refine ⟨D, List.replicate _ true, rfl, SqL.of (by rw [List.map_replicate]; exact hacc), ?_⟩
      rw [rep_all]
      exact q _ s1
theorem sc_common_bottom : FnScope ["pairs", "common", "pair"] ["pairs"] (defScope s_common_bottom) := ⟨rfl, rfl, rfl, by decide +kernel, rfl, by decide +kernel, by decide +kernel⟩
theorem ok_common_bottom {f : Addr} {fd : FuncData} (F : Fun K "common_bottom" "common_bottom" s_common_bottom f fd) (z : Zs mg) (c_shared_divisor : Cal P w K mg base 1 "shared_divisor" ["top", "bottom"] spShared) : FnOk P w K mg base CX0 2 f fd ["pairs"] spCom := by
  refine F.ok sc_common_bottom (fun vs H Q E h => ?_) (fun cdv A outer s H vs Q E hr h => ?_)
  · obtain ⟨a, ws, ps, D, rfl, _⟩ := h
    rfl
  · obtain ⟨a, ws, ps, D, rfl, ha, hp0, hB, q⟩ := h
    refine ⟨_, (pss_cons (ps_set (i := 1) sc_common_bottom.nd rfl (.inl rfl) pe_int)
      (pss_cons (ps_for PassesOwn.never rfl (pi_list (pv 0)) (pg_name (i := 2) sc_common_bottom.nd rfl (.inl rfl)) (pss_one (ps_if (pt_truth (pe_op op_mod (pv 1) (pe_ix ix_tup (pv 2) pe_int (fun _ _ => rfl))) (by intro _; rfl)) (pss_one (ps_set (i := 1) sc_common_bottom.nd rfl (.inl rfl) (pe_op op_mulW (pe_op op_fdivW (pv 1) (pe_cal c_shared_divisor hr (pa_cons (pv 1) (pa_cons (pe_ix ix_tup (pv 2) pe_int (fun _ _ => rfl)) pa_nil)))) (pe_ix ix_tup (pv 2) pe_int (fun _ _ => rfl))))) pss_nil)))
      (pss_one (ps_ret (pv 1))))), ?_⟩
    have hlen := hp0.len
    refine ⟨_, rfl, a, rfl, ⟨_, SqL.of ha⟩, for_list (K := K) (a := a) (xs := ws) (fun i σ H' => H' = H ∧ ∃ y : Option V, σ = [some (.ref a), some (.int (com ((ps.take i).map (·.2)))), y]) ⟨rfl, none, rfl⟩ (fun i σ H' _ hP => hP.1 ▸ SqL.of ha) (fun i x σ H' hx hP => ?_) (fun σ H' hP => ?_)⟩
    · obtain ⟨rfl, y, rfl⟩ := hP
      obtain ⟨p, t, b, rfl, hi, hm, hp⟩ := PrL_get hp0 hx
      obtain ⟨b0, bD, _⟩ := hB.2.2 _ hm
      obtain ⟨c0, cD, _⟩ := (hB.take i).com
      have b1 := hB.lt b0 bD
      have c1 := hB.lt c0 cD
      have e : com ((ps.take (i + 1)).map (·.2)) = lcmI (com ((ps.take i).map (·.2))) b := by
        rw [List.take_succ, hi, Option.toList_some, List.map_append]
        unfold com
        rw [List.foldl_append]
        rfl
      generalize hc : com ((ps.take i).map (·.2)) = c at *
      refine ⟨_, rfl, _, rfl, p, _, 1, .int b, rfl, rfl, SqT.of hp, a1, _, _, rfl, rfl, (by show 0 < b; exact b0), _, rfl, ?_⟩
      by_cases c2 : c % b = 0
      · rw [c2]
        refine iteF ⟨rfl, some (.ref p), ?_⟩
        rw [e]
        unfold lcmI
        rw [if_pos c2]
        rfl
      · have ne : (c % b != 0) = true := by
          rw [bne_iff_ne]
          exact c2
        rw [ne]
        have g0 := gI_pos (t := c) (b := b) (by omega)
        have g1 : (gI c b).natAbs < 2 ^ 2000 := Nat.lt_of_le_of_lt (gI_le (by omega)) b1
        have q1 : (c / gI c b).natAbs < 2 ^ 2000 := by
          have h1 : 0 ≤ c / gI c b := Int.ediv_nonneg (by omega) (by omega)
          have h2 : c / gI c b ≤ c := Int.ediv_le_self _ (by omega)
          omega
        refine iteT ⟨_, rfl, _, rfl, _, rfl, p, _, 1, .int b, rfl, rfl, SqT.of hp, a1, c, b, rfl, by omega, _, _, rfl, rfl, wide_div g0 g1 (by decide) (by decide), _, rfl, p, _, 1, .int b, rfl, rfl, SqT.of hp, a1, _, _, rfl, rfl, wide_mul q1 b1 (by decide) (by decide) (by decide), rfl, some (.ref p), ?_⟩
        rw [e]
        unfold lcmI
        rw [if_neg c2]
        rfl
    · obtain ⟨rfl, y, rfl⟩ := hP
      rw [hlen, List.take_length]
      exact ⟨_, rfl, q⟩
theorem sc_cleared : FnScope ["pairs", "common", "top", "bottom"] ["pairs"] (defScope s_cleared) := ⟨rfl, rfl, rfl, by decide +kernel, rfl, by decide +kernel, by decide +kernel⟩
theorem ok_cleared {f : Addr} {fd : FuncData} (F : Fun K "cleared" "cleared" s_cleared f fd) (c_common_bottom : Cal P w K mg base 2 "common_bottom" ["pairs"] spCom) : FnOk P w K mg base CX0 3 f fd ["pairs"] spCleared := by
  refine F.ok sc_cleared (fun vs H Q E h => ?_) (fun cdv A outer s H vs Q E hr h => ?_)
  · obtain ⟨a, ws, ps, D, rfl, _⟩ := h
    rfl
  · obtain ⟨a, ws, ps, D, rfl, ha, hp0, hB, hl, q⟩ := h
    refine ⟨_, (pss_cons (ps_set (i := 1) sc_cleared.nd rfl (.inr rfl) (pe_cal c_common_bottom hr (pa_cons (pv 0) pa_nil)))
      (pss_one (ps_ret (pe_tup (pa_cons (pe_lc (own := [("top", 2), ("bottom", 3)]) (g := gTup K 2 (gCons (gName 2) (gCons (gName 3) gNil))) (tt := tYes) (te := (tOp (rI CMulW fun i j => V.int (i * j)) (tVar 2) (tOp (rI CDivW fun i j => V.int (i / j)) (tVar 1) (tVar 3)))) (by rfl) sc_cleared.nd (pi_list (pv 0)) (blkOk_by (own := [("top", 2), ("bottom", 3)]) (N := ["pairs", "common", "top", "bottom"]) (sc := defScope s_cleared) (by decide +kernel)) (fun _ _ _ _ _ => by exact (pg_tup (by rfl) (pgs_cons (pg_name (i := 2) sc_cleared.nd rfl (.inl rfl)) (pgs_cons (pg_name (i := 3) sc_cleared.nd rfl (.inl rfl)) pgs_nil)))) (fun _ _ _ _ _ => by exact pts_nil) (fun _ _ _ _ _ => by exact (pe_op op_mulW (pv 2) (pe_op op_fdivW (pv 1) (pv 3))))) (pa_cons (pv 1) pa_nil)))))), ?_⟩
    have hlen := hp0.len
    obtain ⟨c0, cD, cdv⟩ := hB.com
    have c1 := hB.lt c0 cD
    refine ⟨_, rfl, a, ws, ps, D, rfl, ha, hp0, hB, ?_⟩
    generalize com (ps.map (·.2)) = c at *
    refine ⟨_, rfl, a, rfl, ⟨_, SqL.of ha⟩, fun l hD => lc_list (K := K) (a := a) (xs := ws) (fun i H' => Same H H' ∧ H' l = some (.lst ((tops c (ps.take i)).map V.int))) ⟨same_new hD, upd_same⟩ (fun i H' _ hP => SqL.of (hP.1 _ _ ha)) (fun i x H' hx hP => ?_) (fun H' hP => ?_)⟩
    · obtain ⟨s1, hacc⟩ := hP
      obtain ⟨p, t, b, rfl, hi, hm, hp⟩ := PrL_get hp0 hx
      obtain ⟨b0, bD, t1⟩ := hB.2.2 _ hm
      have b1 := hB.lt b0 bD
      have li := (List.getElem?_eq_some_iff.mp hi).1
      have q1 : (c / b).natAbs < 2 ^ 2000 := by
        have h1 : 0 ≤ c / b := Int.ediv_nonneg (by omega) (by omega)
        have h2 : c / b ≤ c := Int.ediv_le_self _ (by omega)
        omega
      refine ⟨p, [.int t, .int b], rfl, SqT.of (s1 _ _ hp), rfl, _, _, rfl, _, _, rfl, rfl, rfl, ?_⟩
      refine ⟨_, rfl, _, rfl, _, rfl, _, _, rfl, rfl, wide_div b0 b1 (by decide) (by decide), _, _, rfl, rfl, wide_mul t1 q1 (by decide) (by decide) (by decide), _, hacc, ?_, fun b' o e => ?_, ?_⟩
      · unfold tops
        rw [List.length_map, List.length_map, List.length_take]
        exact small1000 (by omega)
      · rw [upd_ne (ne_of_none e hD)]
        exact s1 _ _ e
      · rw [upd_same, List.take_succ, hi, Option.toList_some]
        unfold tops
        rw [List.map_append, List.map_append]
        rfl
    · obtain ⟨s1, hacc⟩ := hP
      rw [hlen, List.take_length] at hacc
      refine ⟨_, rfl, (by show 2 ≤ sizeLine; decide), fun T hT => ?_⟩
      exact q T l _ (s1.trans (same_new hT)) upd_same (same_new hT _ _ hacc)
theorem sc_dot : FnScope ["numbers", "others", "number", "other"] ["numbers", "others"] (defScope s_dot) := ⟨rfl, rfl, rfl, by decide +kernel, rfl, by decide +kernel, by decide +kernel⟩
theorem ok_dot {f : Addr} {fd : FuncData} {k : Nat} (F : Fun K "dot" "dot" s_dot f fd) (z : Zs mg) : FnOk P w K mg base CX0 (k + 1) f fd ["numbers", "others"] spDot := by
  refine F.ok sc_dot (fun vs H Q E h => ?_) (fun cdv A outer s H vs Q E hr h => ?_)
  · obtain ⟨a, c, xs, ys, rfl, _⟩ := h
    rfl
  · obtain ⟨a, c, xs, ys, rfl, ha, hc, hl, b1, b2, k⟩ := h
    refine ⟨_, (pss_one (ps_ret (pe_callB (cr_sum rfl) (by rfl) z.sum (by decide +kernel) (pa_cons (pe_lc (own := [("number", 2), ("other", 3)]) (g := gTup K 2 (gCons (gName 2) (gCons (gName 3) gNil))) (tt := tYes) (te := (tOp (rI CMulW fun i j => V.int (i * j)) (tVar 2) (tVar 3))) (by rfl) sc_dot.nd (RZ.pi_zipA (by rfl) z.zip (pa_cons (pv 0) (pa_cons (pv 1) pa_nil))) (blkOk_by (own := [("number", 2), ("other", 3)]) (N := ["numbers", "others", "number", "other"]) (sc := defScope s_dot) (by decide +kernel)) (fun _ _ _ _ _ => by exact (pg_tup (by rfl) (pgs_cons (pg_name (i := 2) sc_dot.nd rfl (.inl rfl)) (pgs_cons (pg_name (i := 3) sc_dot.nd rfl (.inl rfl)) pgs_nil)))) (fun _ _ _ _ _ => by exact pts_nil) (fun _ _ _ _ _ => by exact (pe_op op_mulW (pv 2) (pv 3)))) pa_nil)))), ?_⟩
    refine ⟨_, rfl, _, rfl, a, c, _, _, rfl, .inl ⟨SqL.of ha, SqL.of hc, fun D hD => ?_⟩⟩
    refine lc_it (walk_zip (K := K) (a := a) (b := c) (xs := xs.map V.int) (ys := ys.map V.int) rfl) (fun i H2 => Same H H2 ∧ H2 D = some (.lst ((mulZ (xs.take i) (ys.take i)).map V.int))) ⟨same_new hD, by rw [List.take_zero]; exact upd_same⟩ (fun i H2 _ hP => ⟨SqL.of (hP.1 _ _ ha), SqL.of (hP.1 _ _ hc)⟩) (fun i x H2 H3 hi hP hY => ?_) (fun H2 hP => ?_)
    · obtain ⟨s1, hacc⟩ := hP
      obtain ⟨Tp, u, v, rfl, nT, rfl, e1, e2⟩ := hY
      replace e1 : (xs.map V.int)[i]? = some u := e1
      replace e2 : (ys.map V.int)[i]? = some v := e2
      rw [List.getElem?_map] at e1 e2
      obtain ⟨n, n1, rfl⟩ := Option.map_eq_some_iff.mp e1
      obtain ⟨m, m1, rfl⟩ := Option.map_eq_some_iff.mp e2
      have li := (List.getElem?_eq_some_iff.mp n1).1
      have sN := same_new (o := .tup [.int n, .int m]) nT
      refine ⟨Tp, [.int n, .int m], rfl, SqT.of upd_same, rfl, _, _, rfl, _, _, rfl, rfl, rfl, ?_⟩
      refine ⟨_, rfl, _, rfl, _, _, rfl, rfl, wide_mul (b1 n (List.mem_of_getElem? n1)) (b2 m (List.mem_of_getElem? m1)) (by decide) (by decide) (by decide), _, sN _ _ hacc, ?_, fun b o e => ?_, ?_⟩
      · rw [List.length_map, mulZ_len, List.length_take]
        exact small1000 (by omega)
      · rw [upd_ne (ne_of_none e hD)]
        exact sN _ _ (s1 _ _ e)
      · rw [upd_same, mulZ_take xs ys i n m n1 m1, List.map_append]
        rfl
    · obtain ⟨s1, hacc⟩ := hP
      refine ⟨D, _, rfl, SqL.of hacc, ?_⟩
      rw [mulZ_sum, List.length_map, List.length_map]
      have e : ∀ (xs ys : List Int), dotZ (xs.take (min xs.length ys.length)) (ys.take (min xs.length ys.length)) = dotZ xs ys := fun xs => by
        induction xs with
        | nil => intro ys; cases ys <;> rfl
        | cons x xs ih =>
          intro ys
          cases ys with
          | nil => rfl
          | cons y ys =>
            rw [List.length_cons, List.length_cons, Nat.succ_min_succ]
            show x * y + dotZ (xs.take _) (ys.take _) = x * y + dotZ xs ys
            rw [ih ys]
      rw [e]
      exact k _ s1
end
end E1

namespace E1
open PySem PySem.Spec PyProof.Rows L2

/-- what is asked of the rows with which it begins -/
structure Fine (A : List (List Int)) (m : Nat) : Prop where
  n10 : A.length ≤ 10
  mn : m = A.length + 1
  wid : ∀ r ∈ A, r.length = m
  bd : ∃ M, 1 ≤ M ∧ Bd A M ∧ (A.length + 1) * (fac (A.length + 1) * M ^ (A.length + 1)) < 2 ^ 3100
theorem fac_mono : ∀ {a b : Nat}, a ≤ b → fac a ≤ fac b := fun {a b} h => by
  induction h with
  | refl => exact Nat.le_refl _
  | step _ ih => exact Nat.le_trans ih (Nat.le_mul_of_pos_left _ (Nat.succ_pos _))
theorem Fine.lt {A : List (List Int)} {m : Nat} (F : Fine A m) : ∃ M, 1 ≤ M ∧ Bd A M ∧ ∀ k x, k ≤ A.length + 1 → x ≤ (A.length + 1) * (fac k * M ^ k) → x < 2 ^ 3100 := by
  obtain ⟨M, h1, h2, h3⟩ := F.bd
  exact ⟨M, h1, h2, fun k x hk hx => Nat.lt_of_le_of_lt (Nat.le_trans hx (Nat.mul_le_mul_left _ (Nat.mul_le_mul (fac_mono hk) (Nat.pow_le_pow_right h1 hk)))) h3⟩
theorem Stg.bits {A rs : List (List Int)} {m : Nat} {σ : Nat → Nat} {k : Nat} (S : Stg A rs m σ k) (F : Fine A m) {i j : Nat} (hi : i < A.length) (hj : j < m) : (en rs i j).natAbs < 2 ^ 3100 := by
  obtain ⟨M, h1, h2, h3⟩ := F.lt
  have := S.size h2 h1 hi hj
  exact h3 (A.length + 1) _ (Nat.le_refl _) (Nat.le_trans this (Nat.le_mul_of_pos_left _ (Nat.succ_pos _)))
theorem Stg.row {A rs : List (List Int)} {m : Nat} {σ : Nat → Nat} {k : Nat} (S : Stg A rs m σ k) (F : Fine A m) {i : Nat} {r : List Int} (hr : rs[i]? = some r) : r.length = m ∧ i < A.length ∧ (∀ j, en rs i j = r.getD j 0) ∧ Bits 3100 r := by
  have li := (List.getElem?_eq_some_iff.mp hr).1
  rw [S.len] at li
  have w := S.wid r (List.mem_of_getElem? hr)
  have e : ∀ j, en rs i j = r.getD j 0 := fun j => en_at hr
  refine ⟨w, li, e, fun x hx => ?_⟩
  obtain ⟨j, hj⟩ := List.mem_iff_getElem?.mp hx
  have lj := (List.getElem?_eq_some_iff.mp hj).1
  have b := S.bits F li (j := j) (by omega)
  rw [e, List.getD_eq_getElem?_getD, hj] at b
  exact b
theorem Fine.last {A : List (List Int)} {m : Nat} (F : Fine A m) {σ : Nat → Nat} {k : Nat} {last : Int} (hk : k ≤ A.length) (h : (last : Rat) = dd (cA A σ) k) : last.natAbs < 2 ^ 3100 := by
  obtain ⟨M, h1, h2, h3⟩ := F.lt
  obtain ⟨z, e, b⟩ := dd_wh (cA_wh h2 σ) k
  rw [← h] at e
  rw [Rat.intCast_inj.mp e]
  exact h3 k _ (by omega) (Nat.le_trans b (Nat.le_mul_of_pos_left _ (Nat.succ_pos _)))
theorem atZ {r : List Int} {k : Nat} (h : k < r.length) : atI (r.map V.int) (k : Int) = some (.int (r.getD k 0)) := by
  refine atI_nat ?_
  rw [List.getElem?_map, List.getD_eq_getElem?_getD, List.getElem?_eq_getElem h]
  rfl
theorem Bits.at {n : Nat} {r : List Int} (h : Bits n r) (k : Nat) : (r.getD k 0).natAbs < 2 ^ n := by
  rw [List.getD_eq_getElem?_getD]
  cases e : r[k]? with
  | none => exact Nat.pow_pos (by decide)
  | some x => exact h x (List.mem_of_getElem? e)
theorem RwL.row {H : Hp} {vs : List V} {ss : List (List Int)} (h : RwL H vs ss) {i : Nat} (hi : i < ss.length) : ∃ b s, vs[i]? = some (.ref b) ∧ ss[i]? = some s ∧ ss.getD i [] = s ∧ H b = some (.lst (s.map V.int)) := by
  obtain ⟨b, e1, e2⟩ := h.2 i _ (List.getElem?_eq_getElem hi)
  exact ⟨b, _, e1, List.getElem?_eq_getElem hi, by rw [List.getD_eq_getElem?_getD, List.getElem?_eq_getElem hi]; rfl, e2⟩
theorem ixZ {n j : Nat} (hj : j < n) : ixN n (j : Int) = some j := by
  unfold ixN
  rw [if_pos (by omega), if_pos (by omega)]
  rfl
theorem cut_to {vs : List V} {n : Nat} : cutV vs none (some (n : Int)) = vs.take n := by
  unfold cutV
  rw [HT.sIx_none, HT.sIx_nat, List.drop_zero, Nat.sub_zero]
  by_cases h : n ≤ vs.length
  · rw [Nat.min_eq_left h]
  · rw [Nat.min_eq_right (by omega), List.take_of_length_le (Nat.le_refl _), List.take_of_length_le (by omega)]
theorem cut_from {vs : List V} {n : Nat} : cutV vs (some (n : Int)) none = vs.drop n := by
  unfold cutV
  rw [HT.sIx_none, HT.sIx_nat]
  by_cases h : n ≤ vs.length
  · rw [Nat.min_eq_left h, List.take_of_length_le (by rw [List.length_drop]; exact Nat.le_refl _)]
  · rw [Nat.min_eq_right (by omega), Nat.sub_self, List.take_zero, List.drop_of_length_le (by omega)]
def spBelow : Sp := fun vs H Q _ => ∃ (a : Addr) (ws : List V) (A rs : List (List Int)) (m : Nat) (σ : Nat → Nat) (k : Nat) (last : Int), vs = [.ref a, .int (k : Nat), .int last] ∧ H a = some (.lst ws) ∧ RwL H ws rs ∧ Stg A rs m σ k ∧ Fine A m ∧ k < A.length ∧ (last : Rat) = dd (cA A σ) k ∧
  ∀ p us H', H p = none → Same H H' → H' p = some (.lst us) → RwL H' us (belowL rs k last m) → Q (.ref p) H'
def spLeads : Sp := fun vs H Q _ => ∃ (a : Addr) (ws : List V) (rs : List (List Int)) (m k : Nat), vs = [.ref a, .int (k : Nat)] ∧ H a = some (.lst ws) ∧ RwL H ws rs ∧ (∀ r ∈ rs, r.length = m) ∧ k < m ∧ k ≤ rs.length ∧ rs.length ≤ 10 ∧
  ((∀ i, k ≤ i → i < rs.length → en rs i k = 0) → Q .non H) ∧ ∀ x : Nat, k ≤ x → x < rs.length → en rs x k ≠ 0 → Q (.int (x : Nat)) H
def spExch : Sp := fun vs H Q _ => ∃ (a : Addr) (ws : List V) (rs : List (List Int)) (x y : Nat), vs = [.ref a, .int (x : Nat), .int (y : Nat)] ∧ H a = some (.lst ws) ∧ RwL H ws rs ∧ x < rs.length ∧ y < rs.length ∧
  ∀ p us H', H p = none → Same H H' → H' p = some (.lst us) → RwL H' us (exL rs x y) → Q (.ref p) H'
/-- how the steps end -/
def Ended (A rs : List (List Int)) (m : Nat) (σ : Nat → Nat) (k : Nat) : Prop := Stg A rs m σ k ∧ (k = A.length ∨ k < A.length ∧ ∀ i, k ≤ i → i < A.length → en rs i k = 0)
def spStepped : Sp := fun vs H Q _ => ∃ (a : Addr) (ws : List V) (A : List (List Int)) (m : Nat), vs = [.ref a] ∧ H a = some (.lst ws) ∧ RwL H ws A ∧ Fine A m ∧
  ∀ p q us rs σ k H', Same H H' → H' p = some (.tup [.ref q, .int (k : Nat)]) → H' q = some (.lst us) → RwL H' us rs → Ended A rs m σ k → Q (.ref p) H'
section
variable {P : Program} {w : World} {K : PySem.W.Frag} {mg : Str → Option Value} {base : Heap}
theorem sc_below_cleared : FnScope ["rows", "at", "last", "lead", "done", "row", "tail", "k"] ["rows", "at", "last"] (defScope s_below_cleared) := ⟨rfl, rfl, rfl, by decide +kernel, rfl, by decide +kernel, by decide +kernel⟩
theorem ok_below_cleared {f : Addr} {fd : FuncData} {k : Nat} (F : Fun K "below_cleared" "below_cleared" s_below_cleared f fd) (z : Zs mg) : FnOk P w K mg base CX0 (k + 1) f fd ["rows", "at", "last"] spBelow := by
  refine F.ok sc_below_cleared (fun vs H Q E h => ?_) (fun cdv A outer s H vs Q E hr h => ?_)
  · obtain ⟨a, ws, A, rs, m, σ, k, last, rfl, _⟩ := h
    rfl
  · obtain ⟨a, ws, A, rs, m, σ, k9, last, rfl, ha, hw, S, FA, hk, hl, k⟩ := h
    refine ⟨_, (pss_cons (ps_set (i := 3) sc_below_cleared.nd rfl (.inr rfl) (pe_ix ix_list (pv 0) (pv 1) (fun _ _ => rfl)))
      (pss_cons (ps_set (i := 4) sc_below_cleared.nd rfl (.inl rfl) (pe_slice sl_list (pv 0) po_none (po_some (pe_op op_add (pv 1) pe_int))))
      (pss_cons (ps_for PassesOwn.never rfl (pi_list (pe_slice sl_list (pv 0) (po_some (pe_op op_add (pv 1) pe_int)) po_none)) (pg_name (i := 5) sc_below_cleared.nd rfl (.inr rfl)) (pss_cons (ps_setLc (i := 6) (own := [("k", 7)]) (g := gName 7) (tt := tYes) (te := (tOp (rI CDivNW fun i j => V.int (i.fdiv j)) (tOp (rI0 fun i j => V.int (i - j)) (tOp (rI CMulW fun i j => V.int (i * j)) (tOp (rIxL K) (tVar 3) (tVar 1)) (tOp (rIxL K) (tVar 5) (tVar 7))) (tOp (rI CMulW fun i j => V.int (i * j)) (tOp (rIxL K) (tVar 5) (tVar 1)) (tOp (rIxL K) (tVar 3) (tVar 7)))) (tVar 2))) (by rfl) sc_below_cleared.nd rfl rfl (sw_true rfl rfl rfl (by decide +kernel)) (pi_range2 (by rfl) z.range (pa_cons (pe_op op_add (pv 1) pe_int) (pa_cons (pe_callB call_len_seq (by rfl) z.len PySem.boot_len (pa_cons (pv 5) pa_nil)) pa_nil))) (blkOk_by (own := [("k", 7)]) (N := ["rows", "at", "last", "lead", "done", "row", "tail", "k"]) (sc := defScope s_below_cleared) (by decide +kernel)) (fun _ _ _ _ _ => by exact (pg_name (i := 7) sc_below_cleared.nd rfl (.inl rfl))) (fun _ _ _ _ _ => by exact pts_nil) (fun _ _ _ _ _ => by exact (pe_op op_fdivNW (pe_op op_sub (pe_op op_mulW (pe_ix ix_list (pv 3) (pv 1) (fun _ _ => rfl)) (pe_ix ix_list (pv 5) (pv 7) (fun _ _ => rfl))) (pe_op op_mulW (pe_ix ix_list (pv 5) (pv 1) (fun _ _ => rfl)) (pe_ix ix_list (pv 3) (pv 7) (fun _ _ => rfl)))) (pv 2))))
      (pss_one (ps_expr (pe_bm PySem.F.plainAttrs_list PySem.F.slot_list_append PySem.F.type_list_append mt_append (pv 4) (pa_cons (pe_op op_cat (pe_op op_rep (pe_lst (pa_cons pe_int pa_nil)) (pe_op op_add (pv 1) pe_int)) (pv 6)) pa_nil))))))
      (pss_one (ps_ret (pv 4)))))), ?_⟩
    have mn := FA.mn
    have n10 := FA.n10
    have lw : ws.length = A.length := by rw [hw.1, S.len]
    obtain ⟨bl, L, eb, el, eg, hL⟩ := hw.row (i := k9) (by rw [S.len]; exact hk)
    obtain ⟨wl, _, _, bL⟩ := S.row FA el
    have last0 : last ≠ 0 := fun e => S.lead k9 (Nat.le_refl _) (by rw [← hl, e]; rfl)
    have lastb := FA.last (Nat.le_of_lt hk) hl
    refine ⟨_, rfl, _, rfl, a, ws, (k9 : Nat), .ref bl, rfl, rfl, SqL.of ha, atI_nat eb, ?_⟩
    refine ⟨_, rfl, _, rfl, _, _, rfl, rfl, _, rfl, a, ws, rfl, SqL.of ha, fun D hD => ?_⟩
    rw [show cutV ws none (some (((k9 : Nat) : Int) + 1)) = ws.take (k9 + 1) from cut_to (n := k9 + 1)]
    have s1 := same_new (o := .lst (ws.take (k9 + 1))) hD
    refine ⟨_, rfl, _, rfl, _, _, rfl, rfl, _, rfl, a, ws, rfl, SqL.of (s1 _ _ ha), fun p2 hp2 => ?_⟩
    rw [show cutV ws (some (((k9 : Nat) : Int) + 1)) none = ws.drop (k9 + 1) from cut_from (n := k9 + 1)]
    have s2 := same_new (o := .lst (ws.drop (k9 + 1))) hp2
    have nD : D ≠ p2 := fun e => by
      rw [← e, upd_same] at hp2
      cases hp2
    have rowD : ∀ {v : V} {vs : List V} {ss : List (List Int)}, RwL H vs ss → v ∈ vs → v ≠ .ref D := fun {v vs ss} hr hv e => by
      obtain ⟨i, hi⟩ := List.mem_iff_getElem?.mp hv
      obtain ⟨b, s, e1, _, e2⟩ := hr.get hi
      rw [e] at e1
      cases e1
      rw [hD] at e2
      cases e2
    refine ⟨p2, rfl, ⟨_, SqL.of upd_same⟩, for_list (K := K) (a := p2) (xs := ws.drop (k9 + 1)) (fun i τ G => Same H G ∧ G p2 = some (.lst (ws.drop (k9 + 1))) ∧ ∃ us y5 y6 y7, τ = [some (.ref a), some (.int (k9 : Nat)), some (.int last), some (.ref bl), some (.ref D), y5, y6, y7] ∧ G D = some (.lst us) ∧ (∀ v ∈ us, v ≠ .ref D) ∧ us.length = k9 + 1 + i ∧ RwL G us (rs.take (k9 + 1) ++ ((rs.drop (k9 + 1)).take i).map (newRow L k9 last m))) ⟨s1.trans s2, upd_same, _, none, none, none, rfl, s2 _ _ upd_same, fun v hv => rowD (hw.take (k9 + 1)) hv, by rw [List.length_take]; omega, ?_⟩ (fun i τ G _ hP => SqL.of hP.2.1) (fun i x τ G hx hP => ?_) (fun τ G hP => ?_)⟩
    · rw [List.take_zero, List.map_nil, List.append_nil]
      exact (hw.take _).same (s1.trans s2)
    · obtain ⟨sG, hp, us, y5, y6, y7, rfl, hus, nus, lus, wus⟩ := hP
      obtain ⟨b, r, rfl, hr, hb⟩ := (hw.drop (k9 + 1)).get hx
      have hr2 := hr
      rw [List.getElem?_drop] at hr2
      obtain ⟨wr, li, _, br⟩ := S.row FA hr2
      have hb2 := sG _ _ hb
      have hL2 := sG _ _ hL
      refine ⟨_, rfl, _, _, rfl, rfl, ?_⟩
      refine ⟨_, rfl, b, _, rfl, .inl (SqL.of hb2), ?_⟩
      refine ⟨((k9 + 1 : Nat) : Int), (m : Nat), by rw [List.length_map, wr]; rfl, ⟨by omega, by omega, by omega, by omega⟩, fun D2 hD2 => ?_⟩
      rw [show (((m : Nat) : Int) - ((k9 + 1 : Nat) : Int)).toNat = m - (k9 + 1) by omega]
      refine lc_range (lo := ((k9 + 1 : Nat) : Int)) (n := m - (k9 + 1)) (fun j G2 => Same G G2 ∧ G2 D2 = some (.lst (((List.range' (k9 + 1) j).map fun t => (L.getD k9 0 * r.getD t 0 - r.getD k9 0 * L.getD t 0).fdiv last).map V.int))) ⟨same_new hD2, upd_same⟩ (fun j G2 hj hP2 => ?_) (fun G2 hP2 => ?_)
      · obtain ⟨sG2, hacc⟩ := hP2
        have hb3 := sG2 _ _ hb2
        have hL3 := sG2 _ _ hL2
        rw [show ((k9 + 1 : Nat) : Int) + (j : Int) = ((k9 + 1 + j : Nat) : Int) by omega]
        refine ⟨rfl, ?_⟩
        have ZM : ∀ {x y : Int}, x.natAbs < 2 ^ 3100 → y.natAbs < 2 ^ 3100 → CMulW x y := fun h1 h2 => wide_mul h1 h2 (by decide) (by decide) (by decide)
        refine ⟨_, rfl, _, rfl, bl, _, (k9 : Nat), .int (L.getD k9 0), rfl, rfl, SqL.of hL3, atZ (by omega), ?_⟩
        refine ⟨_, rfl, _, rfl, b, _, ((k9 + 1 + j : Nat) : Int), .int (r.getD (k9 + 1 + j) 0), rfl, rfl, SqL.of hb3, atZ (by omega), _, _, rfl, rfl, ZM (bL.at _) (br.at _), ?_⟩
        refine ⟨_, rfl, _, rfl, b, _, (k9 : Nat), .int (r.getD k9 0), rfl, rfl, SqL.of hb3, atZ (by omega), ?_⟩
        refine ⟨_, rfl, _, rfl, bl, _, ((k9 + 1 + j : Nat) : Int), .int (L.getD (k9 + 1 + j) 0), rfl, rfl, SqL.of hL3, atZ (by omega), _, _, rfl, rfl, ZM (br.at _) (bL.at _), _, _, rfl, rfl, ?_⟩
        refine ⟨_, rfl, _, _, rfl, rfl, wide_divN last0 lastb (by decide) (by decide), _, hacc, ?_, fun c o e => ?_, ?_⟩
        · rw [List.length_map, List.length_map, List.length_range']
          exact small1000 (by omega)
        · rw [upd_ne (ne_of_none e hD2)]
          exact sG2 _ _ e
        · rw [upd_same, List.range'_concat, List.map_append, List.map_append, Nat.one_mul]
          rfl
      · obtain ⟨sG2, hacc⟩ := hP2
        have hus2 := sG2 _ _ hus
        have hp3 := sG2 _ _ hp
        refine ⟨_, rfl, .inl ⟨rfl, _, SqL.of hus2⟩, ?_⟩
        refine ⟨(by show 1 ≤ sizeLine; decide), fun l1 hl1 => ?_⟩
        have s3 := same_new (o := .lst [.int 0]) hl1
        refine ⟨_, rfl, _, _, rfl, rfl, l1, ((k9 + 1 : Nat) : Int), _, rfl, by rfl, upd_same, by omega, by omega, Nat.le_trans (show 1 * ((k9 + 1 : Nat) : Int).toNat ≤ 1000 by omega) (by decide), fun l2 hl2 => ?_⟩
        have eZ : (List.replicate ((k9 + 1 : Nat) : Int).toNat [V.int 0]).flatten = (List.replicate (k9 + 1) (0 : Int)).map V.int := by
          rw [Int.toNat_natCast]
          generalize k9 + 1 = n
          induction n with
          | zero => rfl
          | succ n ih => rw [List.replicate_succ, List.flatten_cons, ih, List.replicate_succ]; rfl
        rw [eZ]
        have s4 := same_new (o := .lst ((List.replicate (k9 + 1) (0 : Int)).map V.int)) hl2
        refine ⟨_, rfl, l2, D2, _, _, rfl, rfl, upd_same, s4 _ _ (s3 _ _ hacc), ?_, fun l3 hl3 => ?_⟩
        · rw [List.length_map, List.length_map, List.length_map, List.length_range', List.length_replicate]
          exact Nat.le_of_lt (small1000 (show k9 + 1 + (m - (k9 + 1)) ≤ 1000 by omega))
        rw [← List.map_append]
        have eN : List.replicate (k9 + 1) (0 : Int) ++ (List.range' (k9 + 1) (m - (k9 + 1))).map (fun t => (L.getD k9 0 * r.getD t 0 - r.getD k9 0 * L.getD t 0).fdiv last) = newRow L k9 last m r := rfl
        rw [eN]
        have s5 := same_new (o := .lst ((newRow L k9 last m r).map V.int)) hl3
        have S5 := (sG2.trans s3).trans (s4.trans s5)
        have hus5 := S5 _ _ hus
        have n3 : l3 ≠ D := fun e => by
          rw [e] at hl3
          rw [s4 _ _ (s3 _ _ hus2)] at hl3
          cases hl3
        refine ⟨D, us, _, rfl, rfl, hus5, small1000 (by omega), fun c o e => ?_, ?_, us ++ [.ref l3], _, _, _, rfl, upd_same, fun v hv => ?_, by rw [List.length_append, lus]; rfl, ?_⟩
        · rw [upd_ne (ne_of_none e hD)]
          exact S5 _ _ (sG _ _ e)
        · rw [upd_ne nD.symm]
          exact S5 _ _ hp
        · rcases List.mem_append.mp hv with h | h
          · exact nus v h
          · rw [List.mem_singleton.mp h]
            exact fun z => n3 (V.ref.inj z)
        · rw [show (rs.drop (k9 + 1)).take (i + 1) = (rs.drop (k9 + 1)).take i ++ [r] by rw [List.take_succ, hr]; rfl, List.map_append, ← List.append_assoc]
          refine RwL.app ((wus.same S5).but hus5 nus SameBut.upd) (RwL.one ?_)
          rw [upd_ne n3]
          exact upd_same
    · obtain ⟨sG, hp, us, y5, y6, y7, rfl, hus, nus, lus, wus⟩ := hP
      refine ⟨_, rfl, k D us G hD sG hus ?_⟩
      have e9 : (rs.drop (k9 + 1)).take (ws.drop (k9 + 1)).length = rs.drop (k9 + 1) := List.take_of_length_le (by rw [List.length_drop, List.length_drop, lw, S.len]; exact Nat.le_refl _)
      rw [e9] at wus
      unfold belowL
      rw [eg]
      exact wus
theorem sc_row_that_leads : FnScope ["rows", "at", "number"] ["rows", "at"] (defScope s_row_that_leads) := ⟨rfl, rfl, rfl, by decide +kernel, rfl, by decide +kernel, by decide +kernel⟩
theorem ok_row_that_leads {f : Addr} {fd : FuncData} {k : Nat} (F : Fun K "row_that_leads" "row_that_leads" s_row_that_leads f fd) (z : Zs mg) : FnOk P w K mg base CX0 (k + 1) f fd ["rows", "at"] spLeads := by
  refine F.ok sc_row_that_leads (fun vs H Q E h => ?_) (fun cdv A outer s H vs Q E hr h => ?_)
  · obtain ⟨a, ws, rs, m, k, rfl, _⟩ := h
    rfl
  · obtain ⟨a, ws, rs, m, k9, rfl, ha, hw, wd, km, kl, n10, kN, kY⟩ := h
    refine ⟨_, (pss_cons (ps_for PassesOwn.never rfl (pi_range2 (by rfl) z.range (pa_cons (pv 1) (pa_cons (pe_callB call_len_seq (by rfl) z.len PySem.boot_len (pa_cons (pv 0) pa_nil)) pa_nil))) (pg_name (i := 2) sc_row_that_leads.nd rfl (.inl rfl)) (pss_one (ps_if (pt_cmpR op_ne (pe_ix ix_list (pe_ix ix_list (pv 0) (pv 2) (fun _ _ => rfl)) (pv 1) (fun _ _ => rfl)) pe_int (nomark _)) (pss_one (ps_ret (pv 2))) pss_nil)))
      (pss_one (ps_ret pe_non))), ?_⟩
    have lw := hw.1
    refine ⟨_, rfl, _, rfl, a, ws, rfl, .inl (SqL.of ha), (k9 : Nat), (ws.length : Nat), rfl, ⟨by omega, by omega, by omega, by omega⟩, ?_⟩
    rw [show (((ws.length : Nat) : Int) - ((k9 : Nat) : Int)).toNat = rs.length - k9 by omega]
    refine for_range (lo := ((k9 : Nat) : Int)) (n := rs.length - k9) (fun j τ G => G = H ∧ ∃ y : Option V, τ = [some (.ref a), some (.int (k9 : Nat)), y] ∧ ∀ i, k9 ≤ i → i < k9 + j → en rs i k9 = 0) ⟨rfl, none, rfl, fun i h1 h2 => absurd h1 (by omega)⟩ (fun j τ G hj hP => ?_) (fun τ G hP => ?_)
    · obtain ⟨rfl, y, rfl, hz⟩ := hP
      rw [show ((k9 : Nat) : Int) + (j : Int) = ((k9 + j : Nat) : Int) by omega]
      obtain ⟨b, r, e1, e2, e3, e4⟩ := hw.row (i := k9 + j) (by omega)
      have wr := wd r (List.mem_of_getElem? e2)
      refine ⟨_, rfl, _, rfl, a, ws, _, .ref b, rfl, rfl, SqL.of ha, atI_nat e1, ?_⟩
      refine ⟨_, rfl, b, _, _, .int (r.getD k9 0), rfl, rfl, SqL.of e4, atZ (by omega), ?_⟩
      rw [← en_at e2]
      refine ⟨rfl, _, rfl, iteN (fun c => ?_) (fun c => ?_)⟩
      · exact ⟨_, rfl, kY (k9 + j) (by omega) (by omega) fun z => c (by rw [z])⟩
      · have c2 : en rs (k9 + j) k9 = 0 := V.int.inj c
        refine ⟨rfl, _, rfl, fun i h1 h2 => ?_⟩
        by_cases e : i = k9 + j
        · rw [e]
          exact c2
        · exact hz i h1 (by omega)
    · obtain ⟨rfl, y, rfl, hz⟩ := hP
      exact kN fun i h1 h2 => hz i h1 (by omega)
theorem sc_exchanged : FnScope ["rows", "one", "other", "done"] ["rows", "one", "other"] (defScope s_exchanged) := ⟨rfl, rfl, rfl, by decide +kernel, rfl, by decide +kernel, by decide +kernel⟩
theorem ok_exchanged {f : Addr} {fd : FuncData} {k : Nat} (F : Fun K "exchanged" "exchanged" s_exchanged f fd) (z : Zs mg) : FnOk P w K mg base CX0 (k + 1) f fd ["rows", "one", "other"] spExch := by
  refine F.ok sc_exchanged (fun vs H Q E h => ?_) (fun cdv A outer s H vs Q E hr h => ?_)
  · obtain ⟨a, ws, rs, x, y, rfl, _⟩ := h
    rfl
  · obtain ⟨a, ws, rs, x, y, rfl, ha, hw, hx, hy, k⟩ := h
    refine ⟨_, (pss_cons (ps_set (i := 3) sc_exchanged.nd rfl (.inl rfl) (pe_callTy call_list_of (by rfl) z.list (by decide +kernel) (pa_cons (pv 0) pa_nil)))
      (pss_cons (ps_asg (pe_ix ix_list (pv 0) (pv 2) (fun _ _ => rfl)) (pg_sub (pv 3) (pv 1) set_list))
      (pss_cons (ps_asg (pe_ix ix_list (pv 0) (pv 1) (fun _ _ => rfl)) (pg_sub (pv 3) (pv 2) set_list))
      (pss_one (ps_ret (pv 3)))))), ?_⟩
    have lw := hw.1
    obtain ⟨b, r, e1, e2, e3, e4⟩ := hw.row hx
    obtain ⟨c, u, f1, f2, f3, f4⟩ := hw.row hy
    refine ⟨_, rfl, a, ws, rfl, .inl (SqL.of ha), fun l hl => ?_⟩
    have s1 := same_new (o := .lst ws) hl
    have nl : a ≠ l := fun e => by
      rw [e, hl] at ha
      cases ha
    refine ⟨_, rfl, _, rfl, a, ws, _, .ref c, rfl, rfl, SqL.of (s1 _ _ ha), atI_nat f1, ?_⟩
    refine ⟨_, rfl, _, rfl, l, ws, (x : Nat), x, rfl, rfl, upd_same, ixZ (by omega), ?_⟩
    refine ⟨_, rfl, _, rfl, a, ws, _, .ref b, rfl, rfl, SqL.of (by rw [upd_ne nl]; exact s1 _ _ ha), atI_nat e1, ?_⟩
    refine ⟨_, rfl, _, rfl, l, _, (y : Nat), y, rfl, rfl, upd_same, ixZ (by rw [List.length_set]; omega), ?_⟩
    have SS : Same H (upd (upd (upd H l (.lst ws)) l (.lst (ws.set x (.ref c)))) l (.lst ((ws.set x (.ref c)).set y (.ref b)))) := fun p o e => by
      rw [upd_ne (ne_of_none e hl), upd_ne (ne_of_none e hl)]
      exact s1 _ _ e
    refine ⟨_, rfl, k l _ _ hl SS upd_same ?_⟩
    unfold exL
    rw [e3, f3]
    exact ((hw.same SS).set (SS _ _ f4)).set (SS _ _ e4)
theorem sc_stepped : FnScope ["rows", "last", "at", "leading"] ["rows"] (defScope s_stepped) := ⟨rfl, rfl, rfl, by decide +kernel, rfl, by decide +kernel, by decide +kernel⟩
theorem ok_stepped {f : Addr} {fd : FuncData} (F : Fun K "stepped" "stepped" s_stepped f fd) (z : Zs mg) (c_row_that_leads : Cal P w K mg base 1 "row_that_leads" ["rows", "at"] spLeads) (c_below_cleared : Cal P w K mg base 1 "below_cleared" ["rows", "at", "last"] spBelow) (c_exchanged : Cal P w K mg base 1 "exchanged" ["rows", "one", "other"] spExch) : FnOk P w K mg base CX0 2 f fd ["rows"] spStepped := by
  refine F.ok sc_stepped (fun vs H Q E h => ?_) (fun cdv A outer s H vs Q E hr h => ?_)
  · obtain ⟨a, ws, A, m, rfl, _⟩ := h
    rfl
  · obtain ⟨a, ws, A, m, rfl, ha, hw, FA, k⟩ := h
    refine ⟨_, (pss_cons (ps_set (i := 1) sc_stepped.nd rfl (.inl rfl) pe_int)
      (pss_cons (ps_for PassesOwn.never rfl (pi_range1 (by rfl) z.range (pa_cons (pe_callB call_len_seq (by rfl) z.len PySem.boot_len (pa_cons (pv 0) pa_nil)) pa_nil)) (pg_name (i := 2) sc_stepped.nd rfl (.inl rfl)) (pss_cons (ps_set (i := 3) sc_stepped.nd rfl (.inl rfl) (pe_cal c_row_that_leads hr (pa_cons (pv 0) (pa_cons (pv 2) pa_nil))))
      (pss_cons (ps_if (pt_cmpR op_isN (pv 3) pe_non (nomark _)) (pss_one (ps_ret (pe_tup (pa_cons (pv 0) (pa_cons (pv 2) pa_nil))))) pss_nil)
      (pss_cons (ps_set (i := 0) sc_stepped.nd rfl (.inl rfl) (pe_cal c_below_cleared hr (pa_cons (pe_cal c_exchanged hr (pa_cons (pv 0) (pa_cons (pv 2) (pa_cons (pv 3) pa_nil)))) (pa_cons (pv 2) (pa_cons (pv 1) pa_nil)))))
      (pss_one (ps_set (i := 1) sc_stepped.nd rfl (.inl rfl) (pe_ix ix_list (pe_ix ix_list (pv 0) (pv 2) (fun _ _ => rfl)) (pv 2) (fun _ _ => rfl))))))))
      (pss_one (ps_ret (pe_tup (pa_cons (pv 0) (pa_cons (pe_callB call_len_seq (by rfl) z.len PySem.boot_len (pa_cons (pv 0) pa_nil)) pa_nil))))))), ?_⟩
    have lw := hw.1
    have n10 := FA.n10
    have mn := FA.mn
    refine ⟨_, rfl, a, ws, rfl, .inl (SqL.of ha), (ws.length : Nat), rfl, by omega, by omega, ?_⟩
    rw [Int.toNat_natCast, lw]
    refine for_range (lo := 0) (n := A.length) (fun j τ G => Same H G ∧ ∃ (b : Addr) (us : List V) (rs : List (List Int)) (σ : Nat → Nat) (last : Int) (y2 y3 : Option V), τ = [some (.ref b), some (.int last), y2, y3] ∧ G b = some (.lst us) ∧ RwL G us rs ∧ Stg A rs m σ j ∧ (last : Rat) = dd (cA A σ) j) ⟨fun _ _ h => h, a, ws, A, id, 1, none, none, rfl, ha, hw, Stg.start FA.wid, rfl⟩ (fun j τ G hj hP => ?_) (fun τ G hP => ?_)
    · obtain ⟨sG, b, us, rs, σ, last, y2, y3, rfl, hb, hu, S, hl⟩ := hP
      rw [Int.zero_add]
      refine ⟨_, rfl, _, rfl, b, us, rs, m, j, rfl, hb, hu, S.wid, by omega, by rw [S.len]; omega, by rw [S.len]; exact n10, fun none0 => ?_, fun x jx xl nz => ?_⟩
      · rw [S.len] at none0
        refine ⟨_, rfl, rfl, _, rfl, iteC (d := true) (decide_eq_true rfl) (iteT ⟨_, rfl, _, rfl, (by show 2 ≤ sizeLine; decide), fun p hp => ?_⟩)⟩
        have s2 := same_new (o := .tup [.ref b, .int (j : Nat)]) hp
        exact k p b us rs σ j _ (sG.trans s2) upd_same (s2 _ _ hb) (hu.same s2) ⟨S, .inr ⟨hj, none0⟩⟩
      · rw [S.len] at xl
        refine ⟨_, rfl, rfl, _, rfl, iteC (d := false) (decide_eq_false fun e => nomatch e) (iteF ?_)⟩
        refine ⟨_, rfl, _, rfl, _, rfl, b, us, rs, j, x, rfl, hb, hu, by rw [S.len]; exact hj, by rw [S.len]; exact xl, fun p1 us1 G1 hp1 s1 e1 hu1 => ?_⟩
        have S1 := S.ex jx xl
        have nz1 : en (exL rs j x) j j ≠ 0 := by
          rw [en_ex (by rw [S.len]; exact hj) (by rw [S.len]; exact xl), show swp j x j = x by unfold swp; rw [if_pos rfl]]
          exact nz
        have same : ∀ t, t < j → cA A (fun i => σ (swp j x i)) t = cA A σ t := fun t ht => by
          have : swp j x t = t := by
            unfold swp
            rw [if_neg (by omega), if_neg (by omega)]
          show (fun c => ((en A (σ (swp j x t)) c : Int) : Rat)) = _
          rw [this]
          rfl
        have hl1 : (last : Rat) = dd (cA A fun i => σ (swp j x i)) j := by rw [dd_congr same]; exact hl
        refine ⟨_, rfl, _, rfl, p1, us1, A, exL rs j x, m, _, j, last, rfl, e1, hu1, S1, FA, hj, hl1, fun p2 us2 G2 hp2 s2 e2 hu2 => ?_⟩
        obtain ⟨M, M1, M2, _⟩ := FA.bd
        have S2 := S1.step M2 hj (by omega) hl1 nz1
        obtain ⟨c, r, f1, f2, f3, f4⟩ := hu2.row (i := j) (by rw [S2.len]; exact hj)
        have wr := S2.wid r (List.mem_of_getElem? f2)
        refine ⟨_, rfl, _, rfl, p2, us2, _, .ref c, rfl, rfl, SqL.of e2, atI_nat f1, ?_⟩
        refine ⟨_, rfl, c, _, _, .int (r.getD j 0), rfl, rfl, SqL.of f4, atZ (by omega), ?_⟩
        refine ⟨(sG.trans s1).trans s2, p2, us2, _, _, _, _, _, rfl, e2, hu2, S2, ?_⟩
        rw [← en_at f2, S2.val j j hj (by omega), Nat.min_eq_left (Nat.le_succ j), dd_succ]
    · obtain ⟨sG, b, us, rs, σ, last, y2, y3, rfl, hb, hu, S, hl⟩ := hP
      refine ⟨_, rfl, _, rfl, b, us, rfl, .inl (SqL.of hb), (by show 2 ≤ sizeLine; decide), fun p hp => ?_⟩
      rw [hu.1, S.len]
      have s2 := same_new (o := .tup [.ref b, .int (A.length : Nat)]) hp
      exact k p b us rs σ A.length _ (sG.trans s2) upd_same (s2 _ _ hb) (hu.same s2) ⟨S, .inl rfl⟩
end
end E1

namespace E1
open PySem PySem.Spec PyProof.Rows L2

theorem cut_mid {vs : List V} {f u : Nat} (h : f ≤ u) (hu : u ≤ vs.length) : cutV vs (some (f : Int)) (some (u : Int)) = (vs.drop f).take (u - f) := by
  unfold cutV
  rw [HT.sIx_nat, HT.sIx_nat, Nat.min_eq_left hu, Nat.min_eq_left (Nat.le_trans h hu)]
theorem dotZ_sg : ∀ (xs ys : List Int) (n : Nat) (f : Nat → Rat), xs.length = n → ys.length = n → (∀ s, s < n → ((xs.getD s 0 : Int) : Rat) * ((ys.getD s 0 : Int) : Rat) = f s) → ((dotZ xs ys : Int) : Rat) = sg f n
  | [], ys, n, f, hx, hy, h => by
    cases hx
    cases ys with
    | nil => rfl
    | cons y ys => cases hy
  | x :: xs, [], n, f, hx, hy, h => by
    cases hy
    cases hx
  | x :: xs, y :: ys, n, f, hx, hy, h => by
    obtain ⟨k, rfl⟩ : ∃ k, n = k + 1 := ⟨xs.length, hx.symm⟩
    rw [sg_first]
    show ((x * y + dotZ xs ys : Int) : Rat) = _
    rw [Rat.intCast_add, Rat.intCast_mul, dotZ_sg xs ys k (fun i => f (i + 1)) (Nat.succ.inj hx) (Nat.succ.inj hy) fun s hs => h (s + 1) (by omega)]
    rw [← h 0 (by omega)]
    rfl
/-- the tops of Cramer's rule -/
def tau (P : Nat → Nat → Rat) (k t : Nat) : Int := (tp P k k t).num
def madeR (P : Nat → Nat → Rat) (k : Nat) : List Rat := (List.range k).map fun t => tp P k k t / dd P k
theorem madeR_len (P : Nat → Nat → Rat) (k : Nat) : (madeR P k).length = k := by
  unfold madeR
  rw [List.length_map, List.length_range]
theorem Fine.tops {A : List (List Int)} {m : Nat} (F : Fine A m) {k : Nat} (hk : k ≤ A.length) (σ : Nat → Nat) (t : Nat) : tp (cA A σ) k k t = (tau (cA A σ) k t : Rat) ∧ (tau (cA A σ) k t).natAbs < 2 ^ 3100 := by
  obtain ⟨M, h1, h2, h3⟩ := F.lt
  obtain ⟨z, e, b⟩ := tp_wh (cA_wh h2 σ) k k t
  unfold tau
  rw [e]
  exact ⟨rfl, h3 k _ (by omega) (Nat.le_trans b (Nat.mul_le_mul_right _ (by omega)))⟩
theorem Stg.back {A rs : List (List Int)} {m : Nat} {σ : Nat → Nat} {k i s : Nat} {r : List Int} {B : Int} (S : Stg A rs m σ k) (F : Fine A m) (km : k < m) (hB : (B : Rat) = dd (cA A σ) k) (his : i + 1 + s = k) (hr : rs[i]? = some r) :
    (B * r.getD k 0 - dotZ ((r.drop (i + 1)).take s) ((List.range' (i + 1) s).map (tau (cA A σ) k))).fdiv (r.getD i 0) = tau (cA A σ) k i := by
  obtain ⟨wr, li, er, _⟩ := S.row F hr
  have kn : k ≤ A.length := S.kle
  have b := back_one (j0 := k) S.lead his
  have v : ∀ j, j < m → ((r.getD j 0 : Int) : Rat) = bb (cA A σ) i (cA A σ i) j := fun j hj => by
    rw [← er, S.val i j li hj, Nat.min_eq_left (by omega)]
  have dz := dotZ_sg ((r.drop (i + 1)).take s) ((List.range' (i + 1) s).map (tau (cA A σ) k)) s (fun s => bb (cA A σ) i (cA A σ i) (i + 1 + s) * tp (cA A σ) k k (i + 1 + s)) (by rw [List.length_take, List.length_drop]; omega) (by rw [List.length_map, List.length_range']) fun t ht => by
    rw [← v _ (by omega), (F.tops kn σ _).1]
    congr 2
    · rw [List.getD_eq_getElem?_getD, List.getElem?_take, if_pos ht, List.getElem?_drop, List.getD_eq_getElem?_getD]
    · rw [List.getD_eq_getElem?_getD, List.getElem?_map, List.getElem?_range' ht, Nat.one_mul]
      rfl
  rw [← dz, ← v i (by omega), ← v k km, ← hB, (F.tops kn σ i).1] at b
  have b2 : r.getD i 0 * tau (cA A σ) k i = B * r.getD k 0 - dotZ ((r.drop (i + 1)).take s) ((List.range' (i + 1) s).map (tau (cA A σ) k)) := by
    have : ((r.getD i 0 * tau (cA A σ) k i : Int) : Rat) = ((B * r.getD k 0 - dotZ ((r.drop (i + 1)).take s) ((List.range' (i + 1) s).map (tau (cA A σ) k)) : Int) : Rat) := by
      rw [Rat.intCast_mul, Rat.intCast_sub, Rat.intCast_mul]
      exact b
    exact Rat.intCast_inj.mp this
  have n0 : r.getD i 0 ≠ 0 := fun e => by
    have := S.lead (i + 1) (by omega)
    rw [dd_succ, ← v i (by omega), e] at this
    exact this rfl
  rw [← b2, Int.mul_fdiv_cancel_left _ n0]
def spMade : Sp := fun vs H Q _ => ∃ (a : Addr) (us : List V) (A rs : List (List Int)) (m : Nat) (σ : Nat → Nat) (k : Nat), vs = [.ref a, .int (k : Nat)] ∧ H a = some (.lst us) ∧ RwL H us rs ∧ Stg A rs m σ k ∧ Fine A m ∧ ∀ p H', H p = none → Same H H' → FrL H' p (madeR (cA A σ) k) → Q (.ref p) H'
/-- fractions, of which some may be the module's own -/
def FrsK (K : PySem.W.Frag) (H : Hp) (vs : List V) (qs : List Rat) : Prop := vs.length = qs.length ∧ ∀ (i : Nat) (q : Rat), qs[i]? = some q → ∃ p, vs[i]? = some (.ref p) ∧ SqT K H p [.int q.num, .int (q.den : Int)]
theorem sqT_same {K : PySem.W.Frag} {H H' : Hp} {a : Addr} {xs : List V} (h : SqT K H a xs) (e : Same H H') : SqT K H' a xs := by
  rcases h with (h | ⟨o, h⟩) | h
  · exact .inl (.inl (e _ _ h))
  · exact .inl (.inr ⟨o, e _ _ h⟩)
  · exact .inr h
def FrLK (K : PySem.W.Frag) (H : Hp) (a : Addr) (qs : List Rat) : Prop := ∃ vs, H a = some (.lst vs) ∧ FrsK K H vs qs
theorem FrL.k {K : PySem.W.Frag} {H : Hp} {a : Addr} {qs : List Rat} (h : FrL H a qs) : FrLK K H a qs := by
  obtain ⟨vs, e, r⟩ := h
  exact ⟨vs, e, FrsAt.len r, fun i q hq => let ⟨p, h1, h2⟩ := FrsAt.at r hq; ⟨p, h1, SqT.of h2⟩⟩
theorem FrsK.get {K : PySem.W.Frag} {H : Hp} {vs : List V} {qs : List Rat} (h : FrsK K H vs qs) {i : Nat} {v : V} (e : vs[i]? = some v) : ∃ p q, v = .ref p ∧ qs[i]? = some q ∧ SqT K H p [.int q.num, .int (q.den : Int)] := by
  have hi := (List.getElem?_eq_some_iff.mp e).1
  have e2 : qs[i]? = some (qs[i]'(by rw [← h.1]; exact hi)) := List.getElem?_eq_getElem _
  obtain ⟨p, e3, f⟩ := h.2 i _ e2
  rw [e] at e3
  cases e3
  exact ⟨p, _, rfl, e2, f⟩
theorem FrsK.same {K : PySem.W.Frag} {H H' : Hp} {vs : List V} {qs : List Rat} (h : FrsK K H vs qs) (s : Same H H') : FrsK K H' vs qs := ⟨h.1, fun i q e => let ⟨p, e1, f⟩ := h.2 i q e; ⟨p, e1, sqT_same f s⟩⟩
theorem FrLK.same {K : PySem.W.Frag} {H H' : Hp} {a : Addr} {qs : List Rat} (h : FrLK K H a qs) (s : Same H H') : FrLK K H' a qs := let ⟨vs, e, f⟩ := h; ⟨vs, s _ _ e, f.same s⟩
theorem FrsK.app {K : PySem.W.Frag} {H : Hp} {vs us : List V} {ss ts : List Rat} (h : FrsK K H vs ss) (g : FrsK K H us ts) : FrsK K H (vs ++ us) (ss ++ ts) := by
  refine ⟨by rw [List.length_append, List.length_append, h.1, g.1], fun i s e => ?_⟩
  by_cases c : i < ss.length
  · rw [List.getElem?_append_left c] at e
    rw [List.getElem?_append_left (by rw [h.1]; exact c)]
    exact h.2 i s e
  · rw [List.getElem?_append_right (by omega)] at e
    rw [List.getElem?_append_right (by rw [h.1]; omega), h.1]
    exact g.2 _ s e
theorem FrsK.rep {K : PySem.W.Frag} {H : Hp} {p : Addr} {q : Rat} (h : SqT K H p [.int q.num, .int (q.den : Int)]) (n : Nat) : FrsK K H (List.replicate n (.ref p)) (List.replicate n q) := by
  refine ⟨by rw [List.length_replicate, List.length_replicate], fun i r e => ?_⟩
  rw [List.getElem?_replicate] at e ⊢
  split at e
  · rw [if_pos (by assumption)]
    cases e
    exact ⟨p, rfl, h⟩
  · cases e
def cancR (P : Nat → Nat → Rat) (k n : Nat) : List Rat := (madeR P k).map (fun q => -q) ++ [1] ++ List.replicate (n - k - 1) 0
def spCanc (K : PySem.W.Frag) : Sp := fun vs H Q _ => ∃ (a : Addr) (us : List V) (A rs : List (List Int)) (m : Nat) (σ : Nat → Nat) (k n : Nat), vs = [.ref a, .int (k : Nat), .int (n : Nat)] ∧ H a = some (.lst us) ∧ RwL H us rs ∧ Stg A rs m σ k ∧ Fine A m ∧ k < n ∧ n ≤ 10 ∧ ∀ p H', H p = none → Same H H' → FrLK K H' p (cancR (cA A σ) k n) → Q (.ref p) H'
section
variable {P : Program} {w : World} {K : PySem.W.Frag} {mg : Str → Option Value} {base : Heap}
theorem sc_made_up : FnScope ["rows", "at", "bottom", "tops", "number", "row", "known", "top"] ["rows", "at"] (defScope s_made_up) := ⟨rfl, rfl, rfl, by decide +kernel, rfl, by decide +kernel, by decide +kernel⟩
theorem ok_made_up {f : Addr} {fd : FuncData} (F : Fun K "made_up" "made_up" s_made_up f fd) (z : Zs mg) (c_dot : Cal P w K mg base 1 "dot" ["numbers", "others"] spDot) (c_lowest : Cal P w K mg base 2 "lowest" ["top", "bottom"] spLow) : FnOk P w K mg base CX0 3 f fd ["rows", "at"] spMade := by
  refine F.ok sc_made_up (fun vs H Q E h => ?_) (fun cdv A outer s H vs Q E hr h => ?_)
  · obtain ⟨a, us, A, rs, m, σ, k, rfl, _⟩ := h
    rfl
  · obtain ⟨a, us, A, rs, m, σ, k9, rfl, ha, hu, S, FA, k⟩ := h
    refine ⟨_, (pss_cons (ps_if (pt_cmpR op_eq (pv 1) pe_int (nomark _)) (pss_one (ps_ret (pe_lst pa_nil))) pss_nil)
      (pss_cons (ps_set (i := 2) sc_made_up.nd rfl (.inr rfl) (pe_ix ix_list (pe_ix ix_list (pv 0) (pe_op op_sub (pv 1) pe_int) (fun _ _ => rfl)) (pe_op op_sub (pv 1) pe_int) (fun _ _ => rfl)))
      (pss_cons (ps_set (i := 3) sc_made_up.nd rfl (.inl rfl) (pe_lst pa_nil))
      (pss_cons (ps_for PassesOwn.never rfl (pi_revR (by rfl) z.reversed (prg_1 (by rfl) z.range (pv 1))) (pg_name (i := 4) sc_made_up.nd rfl (.inl rfl)) (pss_cons (ps_set (i := 5) sc_made_up.nd rfl (.inl rfl) (pe_ix ix_list (pv 0) (pv 4) (fun _ _ => rfl)))
      (pss_cons (ps_set (i := 6) sc_made_up.nd rfl (.inl rfl) (pe_cal c_dot hr (pa_cons (pe_slice sl_list (pv 5) (po_some (pe_op op_add (pv 4) pe_int)) (po_some (pv 1))) (pa_cons (pv 3) pa_nil))))
      (pss_one (ps_set (i := 3) sc_made_up.nd rfl (.inl rfl) (pe_lst (pa_cons (pe_op op_fdivNW (pe_op op_sub (pe_op op_mulW (pv 2) (pe_ix ix_list (pv 5) (pv 1) (fun _ _ => rfl))) (pv 6)) (pe_ix ix_list (pv 5) (pv 4) (fun _ _ => rfl))) (StX.pa_star (pv 3) pa_nil))))))))
      (pss_one (ps_ret (pe_lc (own := [("top", 7)]) (g := gName 7) (tt := tYes) (te := (tCall spLow [] E0 (tCons (tVar 7) (tCons (tVar 2) tNil)))) (by rfl) sc_made_up.nd (pi_list (pv 3)) (blkOk_by (own := [("top", 7)]) (N := ["rows", "at", "bottom", "tops", "number", "row", "known", "top"]) (sc := defScope s_made_up) (by decide +kernel)) (fun _ _ _ _ _ => by exact (pg_name (i := 7) sc_made_up.nd rfl (.inl rfl))) (fun _ _ _ _ _ => by exact pts_nil) (fun _ _ _ _ _ => by exact (pe_cal c_lowest hr (pa_cons (pv 7) (pa_cons (pv 2) pa_nil))))))))))), ?_⟩
    have mn := FA.mn
    have n10 := FA.n10
    have kn := S.kle
    have lu : us.length = A.length := by rw [hu.1, S.len]
    refine ⟨_, rfl, rfl, _, rfl, ite2 (fun c => ?_) (fun c => ?_)⟩
    · have k0 : k9 = 0 := by
        have := V.int.inj (of_decide_eq_true c)
        omega
      subst k0
      exact ⟨(by show 0 ≤ sizeLine; decide), fun p hp => k p _ hp (same_new hp) ⟨[], upd_same, .nil⟩⟩
    · obtain ⟨k8, rfl⟩ : ∃ k8, k9 = k8 + 1 := ⟨k9 - 1, by
        have : k9 ≠ 0 := fun e => c (decide_eq_true (by rw [e]; rfl))
        omega⟩
      obtain ⟨b, r, e1, e2, e3, e4⟩ := hu.row (i := k8) (by rw [S.len]; omega)
      obtain ⟨wr, _, er, br⟩ := S.row FA e2
      have ek : ((k8 + 1 : Nat) : Int) - 1 = (k8 : Nat) := by omega
      refine ⟨_, rfl, _, rfl, _, _, rfl, rfl, a, us, _, .ref b, rfl, rfl, SqL.of ha, (by rw [ek]; exact atI_nat e1), ?_⟩
      refine ⟨_, rfl, _, _, rfl, rfl, b, _, _, .int (r.getD k8 0), rfl, rfl, SqL.of e4, (by rw [ek]; exact atZ (by omega)), ?_⟩
      have hB : ((r.getD k8 0 : Int) : Rat) = dd (cA A σ) (k8 + 1) := by
        rw [← er, S.val k8 k8 (by omega) (by omega), Nat.min_eq_left (Nat.le_succ k8), dd_succ]
      have B0 : r.getD k8 0 ≠ 0 := fun e => S.lead (k8 + 1) (Nat.le_refl _) (by rw [← hB, e]; rfl)
      have Bb := br.at k8
      generalize r.getD k8 0 = B at *
      refine ⟨(by show 0 ≤ sizeLine; decide), fun l0 hl0 => ?_⟩
      have s1 := same_new (o := .lst []) hl0
      refine ⟨_, rfl, _, rfl, by omega, by omega, by omega, by omega, ?_⟩
      have en9 : (((k8 + 1 : Nat) : Int) - 0).toNat = k8 + 1 := by omega
      rw [en9]
      refine for_rangeC (lo := 0 + (((k8 + 1 : Nat)) : Int) - 1) (c := -1) (n := k8 + 1) (fun j τ G => Same H G ∧ ∃ (L : Addr) (y4 y5 y6 : Option V), τ = [some (.ref a), some (.int (k8 + 1 : Nat)), some (.int B), some (.ref L), y4, y5, y6, none] ∧ G L = some (.lst (((List.range' (k8 + 1 - j) j).map (tau (cA A σ) (k8 + 1))).map V.int))) ⟨s1, l0, none, none, none, rfl, upd_same⟩ (fun j τ G hj hP => ?_) (fun τ G hP => ?_)
      · obtain ⟨sG, L, y4, y5, y6, rfl, hL⟩ := hP
        have ei : 0 + (((k8 + 1 : Nat)) : Int) - 1 + ((j : Nat) : Int) * (-1) = ((k8 - j : Nat) : Int) := by omega
        rw [ei]
        obtain ⟨c, r2, f1, f2, f3, f4⟩ := hu.row (i := k8 - j) (by rw [S.len]; omega)
        obtain ⟨w2, _, er2, b2⟩ := S.row FA f2
        have f5 := sG _ _ f4
        refine ⟨_, rfl, _, rfl, a, us, _, .ref c, rfl, rfl, SqL.of (sG _ _ ha), atI_nat f1, ?_⟩
        refine ⟨_, rfl, _, rfl, _, _, rfl, rfl, _, rfl, _, rfl, _, rfl, c, _, rfl, SqL.of f5, fun p1 hp1 => ?_⟩
        rw [show cutV (r2.map V.int) (some (((k8 - j : Nat) : Int) + 1)) (some ((k8 + 1 : Nat) : Int)) = ((r2.drop (k8 - j + 1)).take j).map V.int by
          rw [show ((k8 - j : Nat) : Int) + 1 = ((k8 - j + 1 : Nat) : Int) by omega, cut_mid (by omega) (by rw [List.length_map]; omega), List.map_take, List.map_drop, show k8 + 1 - (k8 - j + 1) = j by omega]]
        have s2 := same_new (o := .lst (((r2.drop (k8 - j + 1)).take j).map V.int)) hp1
        have bk := S.back FA (by omega) hB (i := k8 - j) (s := j) (by omega) f2
        have tb : Bits 4000 ((List.range' (k8 - j + 1) j).map (tau (cA A σ) (k8 + 1))) := fun x hx => by
          obtain ⟨t, _, rfl⟩ := List.mem_map.mp hx
          exact up (FA.tops kn σ t).2 (by decide)
        have rb : Bits 4000 ((r2.drop (k8 - j + 1)).take j) := fun x hx => up (b2 x (List.mem_of_mem_drop (List.mem_of_mem_take hx))) (by decide)
        rw [show k8 + 1 - j = k8 - j + 1 by omega] at hL
        refine ⟨_, rfl, p1, L, _, _, rfl, upd_same, s2 _ _ hL, by rw [List.length_take]; omega, rb, tb, fun G2 s3 => ?_⟩
        have f6 := s3 _ _ (s2 _ _ f5)
        have hL3 := s3 _ _ (s2 _ _ hL)
        refine ⟨_, rfl, _, rfl, _, rfl, c, _, _, .int (r2.getD (k8 + 1) 0), rfl, rfl, SqL.of f6, atZ (by omega), _, _, rfl, rfl, wide_mul Bb (b2.at _) (by decide) (by decide) (by decide), ?_⟩
        refine ⟨_, rfl, _, _, rfl, rfl, ?_⟩
        have n0 : r2.getD (k8 - j) 0 ≠ 0 := fun e => by
          have := S.lead (k8 - j + 1) (by omega)
          rw [dd_succ] at this
          have v := S.val (k8 - j) (k8 - j) (by omega) (by omega)
          rw [Nat.min_eq_left (by omega), er2, e] at v
          rw [← v] at this
          exact this rfl
        refine ⟨_, rfl, _, rfl, c, _, _, .int (r2.getD (k8 - j) 0), rfl, rfl, SqL.of f6, atZ (by omega), _, _, rfl, rfl, wide_divN n0 (b2.at _) (by decide) (by decide), ?_⟩
        refine ⟨_, rfl, L, _, rfl, .inr (SqL.of hL3), ?_, fun p2 hp2 => ?_⟩
        · rw [List.append_nil]
          show _ + 1 ≤ sizeLine
          rw [List.length_map, List.length_map, List.length_range']
          exact Nat.le_of_lt (small1000 (show j + 1 ≤ 1000 by omega))
        · refine ⟨(sG.trans s2).trans (s3.trans (same_new hp2)), p2, _, _, _, rfl, ?_⟩
          refine (upd_same).trans ?_
          show some (HO.lst (V.int ((B * r2.getD (k8 + 1) 0 - dotZ ((r2.drop (k8 - j + 1)).take j) ((List.range' (k8 - j + 1) j).map (tau (cA A σ) (k8 + 1)))).fdiv (r2.getD (k8 - j) 0)) :: (((List.range' (k8 - j + 1) j).map (tau (cA A σ) (k8 + 1))).map V.int ++ []))) = _
          rw [bk, List.append_nil, show k8 + 1 - (j + 1) = k8 - j by omega, List.range'_succ]
          rfl
      · obtain ⟨sG, L, y4, y5, y6, rfl, hL⟩ := hP
        rw [show k8 + 1 - (k8 + 1) = 0 by omega] at hL
        refine ⟨_, rfl, L, rfl, ⟨_, SqL.of hL⟩, fun D hD => lc_list (K := K) (a := L) (xs := ((List.range' 0 (k8 + 1)).map (tau (cA A σ) (k8 + 1))).map V.int) (fun i G2 => Same G G2 ∧ FrL G2 D ((List.range i).map fun t => tp (cA A σ) (k8 + 1) (k8 + 1) t / dd (cA A σ) (k8 + 1))) ⟨same_new hD, [], upd_same, .nil⟩ (fun i G2 _ hP => SqL.of (hP.1 _ _ hL)) (fun i x G2 hx hP => ?_) (fun G2 hP => ?_)⟩
        · obtain ⟨sG2, vs, hacc, fv⟩ := hP
          have lt := (List.getElem?_eq_some_iff.mp hx).1
          rw [List.length_map, List.length_map, List.length_range'] at lt
          rw [List.getElem?_map, List.getElem?_map, List.getElem?_range' lt, Nat.one_mul, Nat.zero_add] at hx
          cases hx
          refine ⟨rfl, _, rfl, _, rfl, _, _, rfl, B0, up Bb (by decide), fun p hp => ?_⟩
          have s2 := same_new (o := .tup [.int (lowT (tau (cA A σ) (k8 + 1) i) B), .int (lowB (tau (cA A σ) (k8 + 1) i) B)]) hp
          have nD : p ≠ D := fun e => by
            rw [e, hacc] at hp
            cases hp
          have lv := FrsAt.len fv
          rw [List.length_map, List.length_range] at lv
          have fp : Fr (upd G2 p (.tup [.int (lowT (tau (cA A σ) (k8 + 1) i) B), .int (lowB (tau (cA A σ) (k8 + 1) i) B)])) p (tp (cA A σ) (k8 + 1) (k8 + 1) i / dd (cA A σ) (k8 + 1)) := Fr.low B0 (by rw [(FA.tops kn σ i).1, ← hB, Rat.divInt_eq_div]) upd_same
          refine ⟨_, s2 _ _ hacc, small1000 (by omega), fun b o e => ?_, vs ++ [.ref p], upd_same, ?_⟩
          · rw [upd_ne (ne_of_none e hD)]
            exact s2 _ _ (sG2 _ _ e)
          · rw [List.range_succ, List.map_append]
            refine FrsAt.app (PrsAt.but (PrsAt.same fv s2) SameBut.upd (s2 _ _ hacc)) (FrsAt.one ?_)
            show (upd (upd G2 p _) D _) p = _
            rw [upd_ne nD]
            exact fp
        · obtain ⟨sG2, fD⟩ := hP
          rw [List.length_map, List.length_map, List.length_range'] at fD
          exact k D G2 (sG.free hD) (sG.trans sG2) fD
theorem sc_cancelled : FnScope ["rows", "at", "many", "made", "top", "bottom"] ["rows", "at", "many"] (defScope s_cancelled) := ⟨rfl, rfl, rfl, by decide +kernel, rfl, by decide +kernel, by decide +kernel⟩
theorem ok_cancelled {f : Addr} {fd : FuncData} (F : Fun K "cancelled" "cancelled" s_cancelled f fd) (z : Zs mg) {AO AN : Addr} (g_ONE : mg "ONE" = some (.ref AO)) (tO : ∀ H, SqT K H AO [.int 1, .int 1]) (g_NOUGHT : mg "NOUGHT" = some (.ref AN)) (tN : ∀ H, SqT K H AN [.int 0, .int 1]) (c_made_up : Cal P w K mg base 3 "made_up" ["rows", "at"] spMade) : FnOk P w K mg base CX0 4 f fd ["rows", "at", "many"] (spCanc K) := by
  refine F.ok sc_cancelled (fun vs H Q E h => ?_) (fun cdv A outer s H vs Q E hr h => ?_)
  · obtain ⟨a, us, A, rs, m, σ, k, n, rfl, _⟩ := h
    rfl
  · obtain ⟨a, us, A, rs, m, σ, k9, n, rfl, ha, hu, S, FA, hkn, hn, k⟩ := h
    refine ⟨_, (pss_cons (ps_setLc (i := 3) (own := [("top", 4), ("bottom", 5)]) (g := gTup K 2 (gCons (gName 4) (gCons (gName 5) gNil))) (tt := tYes) (te := (tTup (tCons (tUn (rU fun i => V.int (-i)) (tVar 4)) (tCons (tVar 5) tNil)))) (by rfl) sc_cancelled.nd rfl rfl (sw_true rfl rfl rfl (by decide +kernel)) (pi_list (pe_cal c_made_up hr (pa_cons (pv 0) (pa_cons (pv 1) pa_nil)))) (blkOk_by (own := [("top", 4), ("bottom", 5)]) (N := ["rows", "at", "many", "made", "top", "bottom"]) (sc := defScope s_cancelled) (by decide +kernel)) (fun _ _ _ _ _ => by exact (pg_tup (by rfl) (pgs_cons (pg_name (i := 4) sc_cancelled.nd rfl (.inl rfl)) (pgs_cons (pg_name (i := 5) sc_cancelled.nd rfl (.inl rfl)) pgs_nil)))) (fun _ _ _ _ _ => by exact pts_nil) (fun _ _ _ _ _ => by exact (pe_tup (pa_cons (pe_un un_neg (pv 4)) (pa_cons (pv 5) pa_nil)))))
      (pss_one (ps_ret (pe_op op_cat (pe_op op_cat (pv 3) (pe_lst (pa_cons (pe_glob (v := .ref AO) (by rfl) g_ONE rfl) pa_nil))) (pe_op op_rep (pe_lst (pa_cons (pe_glob (v := .ref AN) (by rfl) g_NOUGHT rfl) pa_nil)) (pe_op op_sub (pe_op op_sub (pv 2) (pv 1)) pe_int)))))), ?_⟩
    refine ⟨_, rfl, _, rfl, a, us, A, rs, m, σ, k9, rfl, ha, hu, S, FA, fun p0 G0 hp0 s0 f0 => ?_⟩
    obtain ⟨vs, hv0, lv, hv⟩ := f0.len
    rw [madeR_len] at lv
    refine ⟨p0, rfl, ⟨_, SqL.of hv0⟩, fun D hD => lc_list (K := K) (a := p0) (xs := vs) (fun i G => Same G0 G ∧ FrL G D (((madeR (cA A σ) k9).take i).map fun q => -q)) ⟨same_new hD, [], upd_same, .nil⟩ (fun i G _ hP => SqL.of (hP.1 _ _ hv0)) (fun i x G hx hP => ?_) (fun G hP => ?_)⟩
    · obtain ⟨sG, us2, hacc, fv⟩ := hP
      obtain ⟨p, r, rfl, hr2, fp⟩ := FrsAt.get hv hx
      have li := (List.getElem?_eq_some_iff.mp hr2).1
      rw [madeR_len] at li
      refine ⟨p, _, rfl, SqT.of (sG _ _ fp), rfl, _, _, rfl, _, _, rfl, rfl, rfl, ?_⟩
      refine ⟨_, rfl, _, rfl, _, rfl, (by show 2 ≤ sizeLine; decide), fun t ht => ?_⟩
      have s2 := same_new (o := .tup [.int (-r.num), .int (r.den : Int)]) ht
      have nD : t ≠ D := fun e => by
        rw [e, hacc] at ht
        cases ht
      have l2 := FrsAt.len fv
      rw [List.length_map, List.length_take, madeR_len] at l2
      refine ⟨_, s2 _ _ hacc, small1000 (by omega), fun b o e => ?_, us2 ++ [.ref t], upd_same, ?_⟩
      · rw [upd_ne (ne_of_none e hD)]
        exact s2 _ _ (sG _ _ e)
      · rw [show (madeR (cA A σ) k9).take (i + 1) = (madeR (cA A σ) k9).take i ++ [r] by rw [List.take_succ, hr2]; rfl, List.map_append]
        refine FrsAt.app (PrsAt.but (PrsAt.same fv s2) SameBut.upd (s2 _ _ hacc)) (FrsAt.one ?_)
        show (upd (upd G t _) D _) t = some (.tup [.int (-r).num, .int ((-r).den : Int)])
        rw [upd_ne nD, upd_same, Rat.neg_num, Rat.neg_den]
    · obtain ⟨sG, us2, hacc, fv⟩ := hP
      rw [List.take_of_length_le (by rw [madeR_len, lv]; exact Nat.le_refl _)] at fv
      have l2 := FrsAt.len fv
      rw [List.length_map, madeR_len] at l2
      have SG := s0.trans sG
      refine ⟨_, rfl, (by show 1 ≤ sizeLine; decide), fun l1 hl1 => ?_⟩
      have s1 := same_new (o := .lst [.ref AO]) hl1
      refine ⟨D, l1, us2, _, rfl, rfl, s1 _ _ hacc, upd_same, ?_, fun l2 hl2 => ?_⟩
      · exact Nat.le_of_lt (small1000 (show us2.length + 1 ≤ 1000 by omega))
      have s2 := same_new (o := .lst (us2 ++ [.ref AO])) hl2
      refine ⟨(by show 1 ≤ sizeLine; decide), fun l3 hl3 => ?_⟩
      have s3 := same_new (o := .lst [.ref AN]) hl3
      refine ⟨_, rfl, _, rfl, _, _, rfl, rfl, _, _, rfl, rfl, l3, ((n - k9 - 1 : Nat) : Int), [.ref AN], rfl, ?_, upd_same, by omega, by omega, Nat.le_trans (show 1 * ((n - k9 - 1 : Nat) : Int).toNat ≤ 1000 by omega) (by decide), fun l4 hl4 => ?_⟩
      · show V.int (((n : Nat) : Int) - ((k9 : Nat) : Int) - 1) = _
        rw [show ((n : Nat) : Int) - ((k9 : Nat) : Int) - 1 = ((n - k9 - 1 : Nat) : Int) by omega]
      have eL : (List.replicate ((n - k9 - 1 : Nat) : Int).toNat [V.ref AN]).flatten = List.replicate (n - k9 - 1) (V.ref AN) := by
        rw [Int.toNat_natCast]
        generalize n - k9 - 1 = n
        induction n with
        | zero => rfl
        | succ n ih => rw [List.replicate_succ, List.flatten_cons, ih]; rfl
      rw [eL]
      have s4 := same_new (o := .lst (List.replicate (n - k9 - 1) (V.ref AN))) hl4
      refine ⟨l2, l4, _, _, rfl, rfl, s4 _ _ (s3 _ _ upd_same), upd_same, ?_, fun p hp => ?_⟩
      · rw [List.length_append, List.length_replicate]
        exact Nat.le_of_lt (small1000 (show us2.length + 1 + (n - k9 - 1) ≤ 1000 by omega))
      have s5 := same_new (o := .lst (us2 ++ [.ref AO] ++ List.replicate (n - k9 - 1) (V.ref AN))) hp
      have S5 := (s1.trans s2).trans ((s3.trans s4).trans s5)
      refine k p _ ((SG.trans ((s1.trans s2).trans (s3.trans s4))).free hp) (SG.trans S5) ⟨_, upd_same, ?_⟩
      refine FrsK.app (FrsK.app ?_ ?_) (FrsK.rep (tN _) _)
      · obtain ⟨vs9, e9, f9⟩ := FrL.k (K := K) ⟨us2, hacc, fv⟩
        rw [hacc] at e9
        cases e9
        exact f9.same S5
      · exact FrsK.rep (tO _) 1
end
end E1

namespace E1
open PySem PySem.Spec PyProof.Rows L2
/-! ### what the rows leave of the unknowns -/
def Free (n : Nat) (a : Nat → Nat → Rat) (k : Nat) : Prop := ∀ w : Nat → Rat, (∀ i, i < n → sg (fun t => a i t * w t) k = 0) → ∀ t, t < k → w t = 0
def Onto (n : Nat) (a : Nat → Nat → Rat) : Prop := ∀ y : Nat → Rat, ∃ x : Nat → Rat, ∀ i, i < n → sg (fun t => a i t * x t) n = y i
/-- the only list that leads to the right sides -/
def One (n : Nat) (a : Nat → Nat → Rat) (y : Nat → Rat) (xs : List Rat) : Prop := (∀ i, i < n → sg (fun t => a i t * xs.getD t 0) n = y i) ∧ Free n a n ∧ Onto n a
/-- the first list that leads to noughts -/
def Non (n : Nat) (a : Nat → Nat → Rat) (xs : List Rat) : Prop := ∃ k, k < n ∧ xs.getD k 0 = 1 ∧ (∀ t, k < t → xs.getD t 0 = 0) ∧ (∀ i, i < n → sg (fun t => a i t * xs.getD t 0) n = 0) ∧ Free n a k
def Ans (n : Nat) (a : Nat → Nat → Rat) (y : Nat → Rat) (b : Bool) (xs : List Rat) : Prop := xs.length = n ∧ (b = true → One n a y xs) ∧ (b = false → Non n a xs)
theorem Ans.flag {n : Nat} {a : Nat → Nat → Rat} {y z : Nat → Rat} {b c : Bool} {xs ys : List Rat} (h : Ans n a y b xs) (g : Ans n a z c ys) : b = c := by
  have key : ∀ {xs ys : List Rat} {y : Nat → Rat}, One n a y xs → Non n a ys → False := fun o m => by
    obtain ⟨k, k1, k2, k3, k4, k5⟩ := m
    have := o.2.1 _ k4 k k1
    rw [k2] at this
    exact absurd this (by decide +kernel)
  cases b <;> cases c
  · rfl
  · exact (key (g.2.1 rfl) (h.2.2 rfl)).elim
  · exact (key (h.2.1 rfl) (g.2.2 rfl)).elim
  · rfl
theorem sg_sub (f g : Nat → Rat) (n : Nat) : sg (fun i => f i - g i) n = sg f n - sg g n := by
  have e : sg (fun i => f i - g i) n = sg (fun i => f i + (-1) * g i) n := sg_congr n fun i _ => by grind
  rw [e, sg_add, sg_mul]
  grind
theorem list_ext {xs ys : List Rat} {n : Nat} (hx : xs.length = n) (hy : ys.length = n) (h : ∀ t, t < n → xs.getD t 0 = ys.getD t 0) : xs = ys := by
  refine List.ext_getElem (by rw [hx, hy]) fun i h1 h2 => ?_
  have := h i (by omega)
  rw [List.getD_eq_getElem?_getD, List.getD_eq_getElem?_getD, List.getElem?_eq_getElem h1, List.getElem?_eq_getElem h2] at this
  exact this
theorem Ans.same {n : Nat} {a : Nat → Nat → Rat} {y : Nat → Rat} {b : Bool} {xs ys : List Rat} (h : Ans n a y b xs) (g : Ans n a y b ys) : xs = ys := by
  have dif : ∀ i m, sg (fun t => a i t * (xs.getD t 0 - ys.getD t 0)) m = sg (fun t => a i t * xs.getD t 0) m - sg (fun t => a i t * ys.getD t 0) m := fun i m => by
    rw [← sg_sub]
    exact sg_congr m fun t _ => by grind
  cases b with
  | true =>
    obtain ⟨h1, h2, _⟩ := h.2.1 rfl
    obtain ⟨g1, _, _⟩ := g.2.1 rfl
    refine list_ext h.1 g.1 fun t ht => ?_
    have := h2 (fun t => xs.getD t 0 - ys.getD t 0) (fun i hi => by rw [dif, h1 i hi, g1 i hi]; grind) t ht
    grind
  | false =>
    obtain ⟨k, k1, k2, k3, k4, k5⟩ := h.2.2 rfl
    obtain ⟨l, l1, l2, l3, l4, l5⟩ := g.2.2 rfl
    have low : ∀ {us : List Rat} {k l : Nat}, k < l → l < n → us.getD k 0 = 1 → (∀ t, k < t → us.getD t 0 = 0) → (∀ i, i < n → sg (fun t => a i t * us.getD t 0) n = 0) → Free n a l → False := fun {us k l} kl ln u1 u2 u3 fr => by
      have := fr (fun t => us.getD t 0) (fun i hi => by
        have e := sg_more (fun t => a i t * us.getD t 0) l (n - l) fun t ht _ => by
          show a i t * us.getD t 0 = 0
          rw [u2 t (by omega)]
          grind
        rw [show l + (n - l) = n by omega, u3 i hi] at e
        exact e.symm) k kl
      rw [u1] at this
      exact absurd this (by decide +kernel)
    have kl : k = l := by
      rcases Nat.lt_trichotomy k l with c | c | c
      · exact (low c l1 k2 k3 k4 l5).elim
      · exact c
      · exact (low c k1 l2 l3 l4 k5).elim
    subst kl
    refine list_ext h.1 g.1 fun t ht => ?_
    rcases Nat.lt_trichotomy t k with c | c | c
    · have := k5 (fun t => xs.getD t 0 - ys.getD t 0) (fun i hi => by
        have e := sg_more (fun t => a i t * (xs.getD t 0 - ys.getD t 0)) k (n - k) fun t ht _ => by
          show a i t * (xs.getD t 0 - ys.getD t 0) = 0
          by_cases c : t = k
          · rw [c, k2, l2]
            grind
          · rw [k3 t (by omega), l3 t (by omega)]
            grind
        rw [show k + (n - k) = n by omega, dif, k4 i hi, l4 i hi] at e
        rw [← e]
        grind) t c
      grind
    · rw [c, k2, l2]
    · rw [k3 t c, l3 t c]
/-- the rows from the last to the first -/
theorem Ans.rev {n : Nat} {a : Nat → Nat → Rat} {y : Nat → Rat} {b : Bool} {xs : List Rat} (h : Ans n a y b xs) : Ans n (fun i => a (n - 1 - i)) (fun i => y (n - 1 - i)) b xs := by
  have fr : ∀ {k}, Free n a k → Free n (fun i => a (n - 1 - i)) k := fun f w hw => f w fun i hi => by
    have : sg (fun t => a (n - 1 - (n - 1 - i)) t * w t) _ = 0 := hw (n - 1 - i) (by omega)
    rw [show n - 1 - (n - 1 - i) = i by omega] at this
    exact this
  refine ⟨h.1, fun e => ?_, fun e => ?_⟩
  · obtain ⟨h1, h2, h3⟩ := h.2.1 e
    refine ⟨fun i hi => h1 _ (by omega), fr h2, fun z => ?_⟩
    obtain ⟨x, hx⟩ := h3 fun i => z (n - 1 - i)
    refine ⟨x, fun i hi => ?_⟩
    have := hx (n - 1 - i) (by omega)
    rw [show n - 1 - (n - 1 - i) = i by omega] at this
    exact this
  · obtain ⟨k, k1, k2, k3, k4, k5⟩ := h.2.2 e
    exact ⟨k, k1, k2, k3, fun i hi => k4 _ (by omega), fr k5⟩
theorem Ans.congr {n : Nat} {a a' : Nat → Nat → Rat} {y y' : Nat → Rat} {b : Bool} {xs : List Rat} (h : Ans n a y b xs) (ha : ∀ i t, i < n → t < n → a i t = a' i t) (hy : ∀ i, i < n → y i = y' i) : Ans n a' y' b xs := by
  have sm : ∀ {i k : Nat} {w : Nat → Rat}, i < n → k ≤ n → sg (fun t => a' i t * w t) k = sg (fun t => a i t * w t) k := fun {i k w} hi hk => sg_congr k fun t ht => by rw [ha i t hi (by omega)]
  have fr : ∀ {k}, k ≤ n → Free n a k → Free n a' k := fun hk f w hw => f w fun i hi => by rw [← sm hi hk]; exact hw i hi
  refine ⟨h.1, fun e => ?_, fun e => ?_⟩
  · obtain ⟨h1, h2, h3⟩ := h.2.1 e
    refine ⟨fun i hi => by rw [sm hi (Nat.le_refl n), h1 i hi, hy i hi], fr (Nat.le_refl n) h2, fun z => ?_⟩
    obtain ⟨x, hx⟩ := h3 z
    exact ⟨x, fun i hi => by rw [sm hi (Nat.le_refl n), hx i hi]⟩
  · obtain ⟨k, k1, k2, k3, k4, k5⟩ := h.2.2 e
    exact ⟨k, k1, k2, k3, fun i hi => by rw [sm hi (Nat.le_refl n), k4 i hi], fr (by omega) k5⟩
section
variable {A rs : List (List Int)} {m : Nat} {σ : Nat → Nat} {k : Nat} {c : Nat → Int} {a : Nat → Nat → Rat}
/-- the rows of a, each taken a number of times -/
def Times (A : List (List Int)) (c : Nat → Int) (a : Nat → Nat → Rat) : Prop := ∀ i, i < A.length → 0 < c i ∧ ∀ j, j ≤ A.length → (en A i j : Rat) = (c i : Rat) * a i j
theorem Stg.free (S : Stg A rs m σ k) (hT : Times A c a) : Free A.length a k := fun w hw => by
  have kn := S.kle
  have h : ∀ i, i < k → sg (fun t => cA A σ i t * w t) k = 0 := fun i hi => by
    have e : sg (fun t => cA A σ i t * w t) k = sg (fun t => (c (σ i) : Rat) * (a (σ i) t * w t)) k := sg_congr k fun t ht => by
      show (en A (σ i) t : Rat) * w t = _
      rw [(hT _ (S.p1 i (by omega))).2 t (by omega)]
      grind
    rw [e, sg_mul, hw _ (S.p1 i (by omega))]
    grind
  exact fun t ht => only_one S.lead h k t ht (by omega)
theorem mul_left_inj0 {x y z : Rat} (h : x ≠ 0) (e : x * y = x * z) : y = z := by
  have h1 : x * (y - z) = 0 := by grind
  rcases Rat.mul_eq_zero.mp h1 with z1 | z1
  · exact absurd z1 h
  · grind
theorem ne_cast {z : Int} (h : 0 < z) : (z : Rat) ≠ 0 := fun e => by
  have := Rat.intCast_eq_zero_iff.mp e
  omega
theorem Ended.one (S : Stg A rs m σ A.length) (hT : Times A c a) : Ans A.length a (fun i => a i A.length) true (madeR (cA A σ) A.length) := by
  refine ⟨madeR_len _ _, fun _ => ⟨fun i hi => ?_, S.free hT, fun y => ?_⟩, fun e => nomatch e⟩
  · obtain ⟨t0, ht0, rfl⟩ := S.p2 i hi
    have d0 := S.lead A.length (Nat.le_refl _)
    have own := led_own (P := cA A σ) (n := A.length) (j0 := A.length) ht0
    have c0 := ne_cast (hT _ hi).1
    have e : sg (fun t => cA A σ t0 t * tp (cA A σ) A.length A.length t) A.length = sg (fun t => ((c (σ t0) : Rat) * dd (cA A σ) A.length) * (a (σ t0) t * (madeR (cA A σ) A.length).getD t 0)) A.length := sg_congr _ fun t ht => by
      show (en A (σ t0) t : Rat) * _ = _
      rw [(hT _ hi).2 t (by omega)]
      have : (madeR (cA A σ) A.length).getD t 0 = tp (cA A σ) A.length A.length t / dd (cA A σ) A.length := by
        unfold madeR
        rw [List.getD_eq_getElem?_getD, List.getElem?_map, List.getElem?_range ht]
        rfl
      rw [this]
      have q := Rat.div_mul_cancel (a := tp (cA A σ) A.length A.length t) d0
      generalize tp (cA A σ) A.length A.length t / dd (cA A σ) A.length = u at *
      rw [← q]
      grind
    rw [e, sg_mul] at own
    have v : cA A σ t0 A.length = (c (σ t0) : Rat) * a (σ t0) A.length := (hT _ hi).2 _ (Nat.le_refl _)
    rw [v] at own
    have n0 : (c (σ t0) : Rat) * dd (cA A σ) A.length ≠ 0 := fun z => by
      rcases Rat.mul_eq_zero.mp z with z | z
      · exact c0 z
      · exact d0 z
    have own2 : ((c (σ t0) : Rat) * dd (cA A σ) A.length) * sg (fun t => a (σ t0) t * (madeR (cA A σ) A.length).getD t 0) A.length = ((c (σ t0) : Rat) * dd (cA A σ) A.length) * a (σ t0) A.length := by
      rw [own]
      grind
    exact mul_left_inj0 n0 own2
  · obtain ⟨x, hx⟩ := any_side S.lead fun t => (c (σ t) : Rat) * y (σ t)
    refine ⟨x, fun i hi => ?_⟩
    obtain ⟨t0, ht0, rfl⟩ := S.p2 i hi
    have e : sg (fun t => cA A σ t0 t * x t) A.length = sg (fun t => (c (σ t0) : Rat) * (a (σ t0) t * x t)) A.length := sg_congr _ fun t ht => by
      show (en A (σ t0) t : Rat) * x t = _
      rw [(hT _ hi).2 t (by omega)]
      grind
    have h := hx t0 ht0
    rw [e, sg_mul] at h
    exact mul_left_inj0 (ne_cast (hT _ hi).1) h
theorem Ended.non (S : Stg A rs m σ k) (hT : Times A c a) (mn : m = A.length + 1) (hk : k < A.length) (hz : ∀ i, k ≤ i → i < A.length → en rs i k = 0) (y : Nat → Rat) : Ans A.length a y false (cancR (cA A σ) k A.length) := by
  have lm := madeR_len (cA A σ) k
  have at0 : ∀ t, t < k → (cancR (cA A σ) k A.length).getD t 0 = -(tp (cA A σ) k k t / dd (cA A σ) k) := fun t ht => by
    unfold cancR
    rw [List.append_assoc, List.getD_eq_getElem?_getD, List.getElem?_append_left (by rw [List.length_map, lm]; exact ht), List.getElem?_map]
    unfold madeR
    rw [List.getElem?_map, List.getElem?_range ht]
    rfl
  have at1 : (cancR (cA A σ) k A.length).getD k 0 = 1 := by
    unfold cancR
    rw [List.append_assoc, List.getD_eq_getElem?_getD, List.getElem?_append_right (by rw [List.length_map, lm]; exact Nat.le_refl _), List.length_map, lm, Nat.sub_self]
    rfl
  have at2 : ∀ t, k < t → (cancR (cA A σ) k A.length).getD t 0 = 0 := fun t ht => by
    unfold cancR
    rw [List.getD_eq_getElem?_getD, List.getElem?_append_right (by rw [List.length_append, List.length_map, lm]; exact ht), List.getElem?_replicate]
    split <;> rfl
  refine ⟨?_, (fun e => nomatch e), fun _ => ⟨k, hk, at1, at2, fun i hi => ?_, S.free hT⟩⟩
  · unfold cancR
    rw [List.length_append, List.length_append, List.length_map, lm, List.length_replicate]
    show k + 1 + _ = _
    omega
  · obtain ⟨t0, ht0, rfl⟩ := S.p2 i hi
    have d0 := S.lead k (Nat.le_refl _)
    have lo := S.lost (by omega) hz ht0
    have e1 := sg_more (fun t => a (σ t0) t * (cancR (cA A σ) k A.length).getD t 0) (k + 1) (A.length - (k + 1)) fun t ht _ => by
      show a (σ t0) t * _ = 0
      rw [at2 t (by omega)]
      grind
    rw [show k + 1 + (A.length - (k + 1)) = A.length by omega] at e1
    rw [e1]
    show sg (fun t => a (σ t0) t * (cancR (cA A σ) k A.length).getD t 0) k + a (σ t0) k * (cancR (cA A σ) k A.length).getD k 0 = 0
    rw [at1]
    have e : sg (fun t => cA A σ t0 t * tp (cA A σ) k k t) k = sg (fun t => (-((c (σ t0) : Rat) * dd (cA A σ) k)) * (a (σ t0) t * (cancR (cA A σ) k A.length).getD t 0)) k := sg_congr _ fun t ht => by
      show (en A (σ t0) t : Rat) * _ = _
      rw [(hT _ hi).2 t (by omega), at0 t ht]
      have q := Rat.div_mul_cancel (a := tp (cA A σ) k k t) d0
      generalize tp (cA A σ) k k t / dd (cA A σ) k = u at *
      rw [← q]
      grind
    rw [e, sg_mul] at lo
    have v : cA A σ t0 k = (c (σ t0) : Rat) * a (σ t0) k := (hT _ hi).2 _ (by omega)
    rw [v] at lo
    have n0 : (c (σ t0) : Rat) * dd (cA A σ) k ≠ 0 := fun z => by
      rcases Rat.mul_eq_zero.mp z with z | z
      · exact ne_cast (hT _ hi).1 z
      · exact d0 z
    refine mul_left_inj0 n0 ?_
    generalize sg (fun t => a (σ t0) t * (cancR (cA A σ) k A.length).getD t 0) k = s at *
    grind
end

end E1

namespace E1
open PySem PySem.Spec PyProof.Rows L2
/-! ### lists of rows of fractions -/
def SeL (H : Hp) (vs : List V) (ss : List (List Rat)) : Prop := vs.length = ss.length ∧ ∀ (i : Nat) (s : List Rat), ss[i]? = some s → ∃ b, vs[i]? = some (.ref b) ∧ FrL H b s
theorem SeL.same {H H' : Hp} {vs : List V} {ss : List (List Rat)} (h : SeL H vs ss) (s : Same H H') : SeL H' vs ss := ⟨h.1, fun i x e => let ⟨b, e1, f⟩ := h.2 i x e; ⟨b, e1, f.same s⟩⟩
theorem SeL.get {H : Hp} {vs : List V} {ss : List (List Rat)} (h : SeL H vs ss) {i : Nat} {v : V} (e : vs[i]? = some v) : ∃ b s, v = .ref b ∧ ss[i]? = some s ∧ FrL H b s := by
  have hi := (List.getElem?_eq_some_iff.mp e).1
  have e2 : ss[i]? = some (ss[i]'(by rw [← h.1]; exact hi)) := List.getElem?_eq_getElem _
  obtain ⟨b, e3, f⟩ := h.2 i _ e2
  rw [e] at e3
  cases e3
  exact ⟨b, _, rfl, e2, f⟩
theorem SeL.app {H : Hp} {vs us : List V} {ss ts : List (List Rat)} (h : SeL H vs ss) (g : SeL H us ts) : SeL H (vs ++ us) (ss ++ ts) := by
  refine ⟨by rw [List.length_append, List.length_append, h.1, g.1], fun i s e => ?_⟩
  by_cases c : i < ss.length
  · rw [List.getElem?_append_left c] at e
    rw [List.getElem?_append_left (by rw [h.1]; exact c)]
    exact h.2 i s e
  · rw [List.getElem?_append_right (by omega)] at e
    rw [List.getElem?_append_right (by rw [h.1]; omega), h.1]
    exact g.2 _ s e
theorem SeL.one {H : Hp} {b : Addr} {s : List Rat} (h : FrL H b s) : SeL H [.ref b] [s] := by
  refine ⟨rfl, fun i t e => ?_⟩
  match i with
  | 0 => cases e; exact ⟨b, rfl, h⟩
  | i + 1 => cases e
theorem SeL.drop {H : Hp} {vs : List V} {ss : List (List Rat)} (h : SeL H vs ss) (n : Nat) : SeL H (vs.drop n) (ss.drop n) := by
  refine ⟨by rw [List.length_drop, List.length_drop, h.1], fun i s e => ?_⟩
  rw [List.getElem?_drop] at e ⊢
  exact h.2 _ s e
theorem SeL.take {H : Hp} {vs : List V} {ss : List (List Rat)} (h : SeL H vs ss) (n : Nat) : SeL H (vs.take n) (ss.take n) := by
  refine ⟨by rw [List.length_take, List.length_take, h.1], fun i s e => ?_⟩
  rw [List.getElem?_take] at e ⊢
  split at e
  · rw [if_pos (by assumption)]
    exact h.2 _ s e
  · cases e
theorem SeL.rev {H : Hp} {vs : List V} {ss : List (List Rat)} (h : SeL H vs ss) : SeL H vs.reverse ss.reverse := by
  refine ⟨by rw [List.length_reverse, List.length_reverse, h.1], fun i s e => ?_⟩
  have hi := (List.getElem?_eq_some_iff.mp e).1
  rw [List.length_reverse] at hi
  rw [List.getElem?_reverse hi] at e
  rw [List.getElem?_reverse (by rw [h.1]; exact hi), h.1]
  exact h.2 _ s e
theorem FrL.but {H H' : Hp} {D b : Addr} {us : List V} {s : List Rat} (h : FrL H b s) (n : b ≠ D) (t : SameBut D H H') (hD : H D = some (.lst us)) : FrL H' b s := by
  obtain ⟨vs, e, r⟩ := h
  exact ⟨vs, t _ _ n e, PrsAt.but r t hD⟩

def ad (ss : List (List Rat)) (i j : Nat) : Rat := (ss.getD i []).getD j 0
def clr (s : List Rat) : List Int := tops (com ((s.map pr).map (·.2))) (s.map pr)
/-- rows with their right sides -/
structure Good (ss : List (List Rat)) : Prop where
  btm : ∀ s ∈ ss, ∃ D, Btm D (s.map pr)
  wid : ∀ s ∈ ss, s.length = ss.length + 1
  fine : Fine (ss.map clr) (ss.length + 1)
theorem Good.n10 {ss : List (List Rat)} (G : Good ss) : ss.length ≤ 10 := by
  have := G.fine.n10
  rw [List.length_map] at this
  exact this
theorem top_val {q : Rat} {c : Int} (h : (q.den : Int) ∣ c) : ((q.num * (c / (q.den : Int)) : Int) : Rat) = (c : Rat) * q := by
  obtain ⟨e, rfl⟩ := h
  have d0 := den_ge q
  rw [Int.mul_ediv_cancel_left _ (by omega)]
  have v := q_eq q
  rw [Rat.intCast_mul, Rat.intCast_mul, ← v]
  grind
theorem Good.times {ss : List (List Rat)} (G : Good ss) : Times (ss.map clr) (fun i => com (((ss.getD i []).map pr).map (·.2))) (ad ss) := fun i hi => by
  rw [List.length_map] at hi
  have e1 : ss[i]? = some (ss.getD i []) := by
    rw [List.getD_eq_getElem?_getD, List.getElem?_eq_getElem hi]
    rfl
  have hm := List.mem_of_getElem? e1
  obtain ⟨D, bt⟩ := G.btm _ hm
  obtain ⟨c0, _, dv⟩ := bt.com
  refine ⟨c0, fun j hj => ?_⟩
  rw [List.length_map] at hj
  have wj := G.wid _ hm
  have e2 : (ss.map clr)[i]? = some (clr (ss.getD i [])) := by rw [List.getElem?_map, e1]; rfl
  rw [en_at e2]
  show _ = ((com (((ss.getD i []).map pr).map (·.2)) : Int) : Rat) * (ss.getD i []).getD j 0
  generalize ss.getD i [] = s at *
  have e3 : s[j]? = some (s.getD j 0) := by
    rw [List.getD_eq_getElem?_getD, List.getElem?_eq_getElem (by omega)]
    rfl
  have e4 : (clr s).getD j 0 = (s.getD j 0).num * (com ((s.map pr).map (·.2)) / ((s.getD j 0).den : Int)) := by
    unfold clr tops
    rw [List.getD_eq_getElem?_getD, List.getElem?_map, List.getElem?_map, e3]
    rfl
  rw [e4]
  exact top_val (dv (pr (s.getD j 0)) (List.mem_map_of_mem (List.mem_of_getElem? e3)))
def flagV (b : Bool) : V := if b = true then .str "one" else .str "none"
def Bdd (xs : List Rat) : Prop := ∃ E : Int, E ≠ 0 ∧ E.natAbs < 2 ^ 3100 ∧ ∀ q ∈ xs, Sc E (2 ^ 3100) q
theorem sc_tp {A : List (List Int)} {m : Nat} {σ : Nat → Nat} {k t : Nat} {E : Int} (F : Fine A m) (hk : k ≤ A.length) (hE : (E : Rat) = dd (cA A σ) k) (E0 : E ≠ 0) : Sc E (2 ^ 3100) (tp (cA A σ) k k t / dd (cA A σ) k) := by
  obtain ⟨e, b⟩ := F.tops hk σ t
  refine ⟨tau (cA A σ) k t, ?_, Nat.le_of_lt b⟩
  rw [e, ← hE]
  exact Rat.div_mul_cancel fun z => E0 (Rat.intCast_eq_zero_iff.mp z)
theorem Stg.low {A rs : List (List Int)} {m : Nat} {σ : Nat → Nat} {k : Nat} (S : Stg A rs m σ k) (F : Fine A m) : ∃ E : Int, E ≠ 0 ∧ E.natAbs < 2 ^ 3100 ∧ (E : Rat) = dd (cA A σ) k := by
  obtain ⟨M, _, h2, _⟩ := F.lt
  obtain ⟨z, e, b⟩ := dd_wh (cA_wh h2 σ) k
  refine ⟨z, fun e0 => S.lead k (Nat.le_refl _) (by rw [e, e0]; rfl), F.last S.kle e.symm, e.symm⟩
theorem bdd_made {A rs : List (List Int)} {m : Nat} {σ : Nat → Nat} {k : Nat} (S : Stg A rs m σ k) (F : Fine A m) : Bdd (madeR (cA A σ) k) := by
  obtain ⟨E, E0, Eb, Ed⟩ := S.low F
  refine ⟨E, E0, Eb, fun q hq => ?_⟩
  obtain ⟨t, _, rfl⟩ := List.mem_map.mp hq
  exact sc_tp F S.kle Ed E0
theorem bdd_canc {A rs : List (List Int)} {m n : Nat} {σ : Nat → Nat} {k : Nat} (S : Stg A rs m σ k) (F : Fine A m) : Bdd (cancR (cA A σ) k n) := by
  obtain ⟨E, E0, Eb, Ed⟩ := S.low F
  refine ⟨E, E0, Eb, fun q hq => ?_⟩
  unfold cancR at hq
  rcases List.mem_append.mp hq with h | h
  · rcases List.mem_append.mp h with h | h
    · obtain ⟨r, hr, rfl⟩ := List.mem_map.mp h
      obtain ⟨t, _, rfl⟩ := List.mem_map.mp hr
      obtain ⟨z, e, b⟩ := sc_tp (t := t) F S.kle Ed E0
      refine ⟨-z, ?_, by rw [Int.natAbs_neg]; exact b⟩
      rw [Rat.intCast_neg, ← e]
      grind
    · rw [List.mem_singleton.mp h]
      exact ⟨E, by grind, Nat.le_of_lt Eb⟩
  · rw [(List.mem_replicate.mp h).2]
    exact Sc.zero
def spSolution (K : PySem.W.Frag) : Sp := fun vs H Q _ => ∃ (a : Addr) (ws : List V) (ss : List (List Rat)), vs = [.ref a] ∧ H a = some (.lst ws) ∧ SeL H ws ss ∧ Good ss ∧
  ∀ p q b xs H', H q = none → Same H H' → H' p = some (.tup [flagV b, .ref q]) → FrLK K H' q xs → Ans ss.length (ad ss) (fun i => ad ss i ss.length) b xs → Bdd xs → Q (.ref p) H'
def spIsRow : Sp := fun vs H Q _ => ∃ (a : Addr) (qs : List Rat), vs = [.ref a] ∧ FrL H a qs ∧ 1 ≤ qs.length ∧ qs.length ≤ 10 ∧ ∀ H', Same H H' → Q (.bl true) H'
/-- a matrix of as many rows as columns -/
def Sq (A : List (List Rat)) : Prop := A.length ≤ 10 ∧ ∀ r ∈ A, r.length = A.length
def spIsMat : Sp := fun vs H Q _ => ∃ (a : Addr) (ws : List V) (A : List (List Rat)), vs = [.ref a] ∧ H a = some (.lst ws) ∧ SeL H ws A ∧ Sq A ∧ ∀ H', Same H H' → Q (.bl true) H'
def spShape : Sp := fun vs H Q _ => ∃ (a : Addr) (ws : List V) (A : List (List Rat)), vs = [.ref a] ∧ H a = some (.lst ws) ∧ SeL H ws A ∧ Sq A ∧ ∀ p, H p = none → Q (.ref p) (upd H p (.tup [.int (A.length : Nat), .int (A.length : Nat)]))
def spChkSq : Sp := fun vs H Q _ => ∃ (a : Addr) (ws : List V) (A : List (List Rat)), vs = [.ref a] ∧ H a = some (.lst ws) ∧ SeL H ws A ∧ Sq A ∧ ∀ H', Same H H' → Q .non H'
def spIsList : Sp := fun vs H Q _ => ∃ (a : Addr) (qs : List Rat), vs = [.ref a, .int (qs.length : Nat)] ∧ FrL H a qs ∧ qs.length ≤ 10 ∧ ∀ H', Same H H' → Q (.bl true) H'
def spChkL : Sp := fun vs H Q _ => ∃ (a : Addr) (qs : List Rat), vs = [.ref a, .int (qs.length : Nat)] ∧ FrL H a qs ∧ qs.length ≤ 10 ∧ ∀ H', Same H H' → Q .non H'
/-- each row with its right side at its end -/
def aug : List (List Rat) → List Rat → List (List Rat)
  | r :: A, y :: ys => (r ++ [y]) :: aug A ys
  | _, _ => []
theorem SeL.butN {H H' : Hp} {D : Addr} {us vs : List V} {ss : List (List Rat)} (h : SeL H vs ss) (hD : H D = some (.lst us)) (n : ∀ v ∈ vs, v ≠ .ref D) (t : SameBut D H H') : SeL H' vs ss :=
  ⟨h.1, fun i s e => let ⟨b, e1, f⟩ := h.2 i s e; ⟨b, e1, f.but (fun z => n _ (List.mem_of_getElem? e1) (by rw [z])) t hD⟩⟩
theorem aug_len : ∀ (A : List (List Rat)) (ys : List Rat), A.length = ys.length → (aug A ys).length = A.length
  | [], ys, _ => rfl
  | r :: A, [], h => by cases h
  | r :: A, y :: ys, h => congrArg (· + 1) (aug_len A ys (Nat.succ.inj h))
theorem aug_at : ∀ (A : List (List Rat)) (ys : List Rat) (i : Nat) (r : List Rat) (q : Rat), A[i]? = some r → ys[i]? = some q → (aug A ys)[i]? = some (r ++ [q])
  | a :: A, y :: ys, 0, r, q, h1, h2 => by
    cases h1
    cases h2
    rfl
  | a :: A, y :: ys, i + 1, r, q, h1, h2 => aug_at A ys i r q h1 h2
  | [], _, _, _, _, h1, _ => by cases h1
  | _ :: _, [], _, _, _, _, h2 => by cases h2
theorem aug_take : ∀ (A : List (List Rat)) (ys : List Rat) (i : Nat) (r : List Rat) (q : Rat), A[i]? = some r → ys[i]? = some q → aug (A.take (i + 1)) (ys.take (i + 1)) = aug (A.take i) (ys.take i) ++ [r ++ [q]]
  | a :: A, y :: ys, 0, r, q, h1, h2 => by
    cases h1
    cases h2
    rfl
  | a :: A, y :: ys, i + 1, r, q, h1, h2 => by
    show (a ++ [y]) :: aug (A.take (i + 1)) (ys.take (i + 1)) = (a ++ [y]) :: (aug (A.take i) (ys.take i) ++ [r ++ [q]])
    rw [aug_take A ys i r q h1 h2]
  | [], _, _, _, _, h1, _ => by cases h1
  | _ :: _, [], _, _, _, _, h2 => by cases h2
theorem aug_ad {A : List (List Rat)} {ys : List Rat} (sq : Sq A) (ly : ys.length = A.length) {i : Nat} (hi : i < A.length) : (∀ t, t < A.length → ad (aug A ys) i t = ad A i t) ∧ ad (aug A ys) i A.length = ys.getD i 0 := by
  have e1 : A[i]? = some (A.getD i []) := by
    rw [List.getD_eq_getElem?_getD, List.getElem?_eq_getElem hi]
    rfl
  have e2 : ys[i]? = some (ys.getD i 0) := by
    rw [List.getD_eq_getElem?_getD, List.getElem?_eq_getElem (by omega)]
    rfl
  have w := sq.2 _ (List.mem_of_getElem? e1)
  have e3 := aug_at A ys i _ _ e1 e2
  have e4 : (aug A ys).getD i [] = A.getD i [] ++ [ys.getD i 0] := by
    rw [List.getD_eq_getElem?_getD, e3]
    rfl
  unfold ad
  rw [e4]
  refine ⟨fun t ht => ?_, ?_⟩
  · rw [List.getD_eq_getElem?_getD, List.getElem?_append_left (by omega), ← List.getD_eq_getElem?_getD]
  · rw [List.getD_eq_getElem?_getD, List.getElem?_append_right (by omega), w, Nat.sub_self]
    rfl
def spSolved (K : PySem.W.Frag) : Sp := fun vs H Q _ => ∃ (a c : Addr) (ws : List V) (A : List (List Rat)) (ys : List Rat), vs = [.ref a, .ref c] ∧ H a = some (.lst ws) ∧ SeL H ws A ∧ Sq A ∧ FrL H c ys ∧ ys.length = A.length ∧ Good (aug A ys) ∧
  ∀ p q b xs H', H q = none → Same H H' → H' p = some (.tup [flagV b, .ref q]) → FrLK K H' q xs → Ans A.length (ad A) (fun i => ys.getD i 0) b xs → Bdd xs → Q (.ref p) H'
section
variable {P : Program} {w : World} {K : PySem.W.Frag} {mg : Str → Option Value} {base : Heap}
theorem sc_solution : FnScope ["rows", "whole", "at", "row"] ["rows"] (defScope s_solution) := ⟨rfl, rfl, rfl, by decide +kernel, rfl, by decide +kernel, by decide +kernel⟩
theorem ok_solution {f : Addr} {fd : FuncData} (F : Fun K "solution" "solution" s_solution f fd) (z : Zs mg) (c_cleared : Cal P w K mg base 3 "cleared" ["pairs"] spCleared) (c_stepped : Cal P w K mg base 2 "stepped" ["rows"] spStepped) (c_cancelled : Cal P w K mg base 4 "cancelled" ["rows", "at", "many"] (spCanc K)) (c_made_up : Cal P w K mg base 3 "made_up" ["rows", "at"] spMade) : FnOk P w K mg base CX0 5 f fd ["rows"] (spSolution K) := by
  refine F.ok sc_solution (fun vs H Q E h => ?_) (fun cdv A outer s H vs Q E hr h => ?_)
  · obtain ⟨a, ws, ss, rfl, _⟩ := h
    rfl
  · obtain ⟨a, ws, ss, rfl, ha, hs, GD, k⟩ := h
    refine ⟨_, (pss_cons (ps_asg (pe_cal c_stepped hr (pa_cons (pe_lc (own := [("row", 3)]) (g := gName 3) (tt := tYes) (te := (tOp (rIxT K) (tCall spCleared [] E0 (tCons (tVar 3) tNil)) (tC (.int 0)))) (by rfl) sc_solution.nd (pi_list (pv 0)) (blkOk_by (own := [("row", 3)]) (N := ["rows", "whole", "at", "row"]) (sc := defScope s_solution) (by decide +kernel)) (fun _ _ _ _ _ => by exact (pg_name (i := 3) sc_solution.nd rfl (.inl rfl))) (fun _ _ _ _ _ => by exact pts_nil) (fun _ _ _ _ _ => by exact (pe_ix ix_tup (pe_cal c_cleared hr (pa_cons (pv 3) pa_nil)) pe_int (fun _ _ => rfl)))) pa_nil)) (pg_tup (by rfl) (pgs_cons (pg_name (i := 1) sc_solution.nd rfl (.inl rfl)) (pgs_cons (pg_name (i := 2) sc_solution.nd rfl (.inl rfl)) pgs_nil))))
      (pss_cons (ps_if (pt_cmpR op_lt (pv 2) (pe_callB call_len_seq (by rfl) z.len PySem.boot_len (pa_cons (pv 0) pa_nil)) (nomark _)) (pss_one (ps_ret (pe_tup (pa_cons pe_str (pa_cons (pe_cal c_cancelled hr (pa_cons (pv 1) (pa_cons (pv 2) (pa_cons (pe_callB call_len_seq (by rfl) z.len PySem.boot_len (pa_cons (pv 0) pa_nil)) pa_nil)))) pa_nil))))) pss_nil)
      (pss_one (ps_ret (pe_tup (pa_cons pe_str (pa_cons (pe_cal c_made_up hr (pa_cons (pv 1) (pa_cons (pv 2) pa_nil))) pa_nil))))))), ?_⟩
    have lw := hs.1
    have n10 := GD.n10
    refine ⟨_, rfl, a, rfl, ⟨_, SqL.of ha⟩, fun D hD => lc_list (K := K) (a := a) (xs := ws) (fun i G => Same H G ∧ ∃ us, G D = some (.lst us) ∧ (∀ v ∈ us, v ≠ .ref D) ∧ us.length = i ∧ RwL G us ((ss.take i).map clr)) ⟨same_new hD, [], upd_same, (fun v hv => absurd hv List.not_mem_nil), rfl, rfl, (fun i r e => by rw [List.take_zero] at e; cases e)⟩ (fun i G _ hP => SqL.of (hP.1 _ _ ha)) (fun i x G hx hP => ?_) (fun G hP => ?_)⟩
    · obtain ⟨sG, us, hacc, nus, lus, wus⟩ := hP
      obtain ⟨b, s9, rfl, hs9, fb⟩ := hs.get hx
      have hm := List.mem_of_getElem? hs9
      obtain ⟨Dm, bt⟩ := GD.btm _ hm
      have w9 := GD.wid _ hm
      have li := (List.getElem?_eq_some_iff.mp hs9).1
      obtain ⟨vs, hv, lv, hvs⟩ := (fb.same sG).len
      refine ⟨rfl, _, rfl, b, vs, s9.map pr, Dm, rfl, hv, hvs, bt, by rw [List.length_map]; omega, fun Tp l H2 S2 hT hl2 => ?_⟩
      have hacc2 := S2 _ _ hacc
      have lt : (clr s9).length = ss.length + 1 := by
        unfold clr tops
        rw [List.length_map, List.length_map, w9]
      have nl : l ≠ D := fun e => by
        rw [e, hacc2] at hl2
        have e1 := HO.lst.inj (Option.some.inj hl2)
        have e2 : us.length = (clr s9).length := by
          rw [e1]
          exact List.length_map _
        have e3 : us[0]? = some (.int ((clr s9).getD 0 0)) := by
          rw [e1, List.getElem?_map]
          show ((clr s9)[0]?).map V.int = _
          rw [List.getD_eq_getElem?_getD, List.getElem?_eq_getElem (by omega)]
          rfl
        obtain ⟨b2, r2, f1, _, _⟩ := wus.get e3
        cases f1
      refine ⟨Tp, _, 0, .ref l, rfl, rfl, SqT.of hT, a0, ?_⟩
      refine ⟨_, hacc2, small1000 (by omega), fun c o e => ?_, us ++ [.ref l], upd_same, fun v hv => ?_, by rw [List.length_append, lus]; rfl, ?_⟩
      · rw [upd_ne (ne_of_none e hD)]
        exact S2 _ _ (sG _ _ e)
      · rcases List.mem_append.mp hv with h | h
        · exact nus v h
        · rw [List.mem_singleton.mp h]
          exact fun z => nl (V.ref.inj z)
      · rw [show ss.take (i + 1) = ss.take i ++ [s9] by rw [List.take_succ, hs9]; rfl, List.map_append]
        refine RwL.app ((wus.same S2).but hacc2 nus SameBut.upd) (RwL.one ?_)
        rw [upd_ne nl]
        exact hl2
    · obtain ⟨sG, us, hacc, nus, lus, wus⟩ := hP
      rw [List.take_of_length_le (by omega)] at wus
      refine ⟨D, us, ss.map clr, ss.length + 1, rfl, hacc, wus, GD.fine, fun p q us2 rs σ k9 H2 s2 hp hq hu2 en9 => ?_⟩
      have S2 := sG.trans s2
      obtain ⟨S, en9⟩ := en9
      have TM := GD.times
      have lm : (ss.map clr).length = ss.length := List.length_map _
      have kl := S.kle
      refine ⟨p, _, rfl, SqT.of hp, rfl, _, _, rfl, _, _, rfl, rfl, ?_⟩
      refine ⟨_, rfl, _, rfl, a, _, rfl, .inl (SqL.of (S2 _ _ ha)), _, _, rfl, rfl, _, rfl, ite2 (fun c => ?_) (fun c => ?_)⟩
      · have c1 := toB c
        have kn : k9 < ss.length := by omega
        refine ⟨_, rfl, _, rfl, _, rfl, a, _, rfl, .inl (SqL.of (S2 _ _ ha)), q, us2, _, rs, _, σ, k9, ss.length, by rw [lw]; rfl, hq, hu2, S, GD.fine, kn, n10, fun r H3 hr s3 f3 => ?_⟩
        refine ⟨(by show 2 ≤ sizeLine; decide), fun t ht => ?_⟩
        have s4 := same_new (o := .tup [.str "none", .ref r]) ht
        have S4 := S2.trans (s3.trans s4)
        rcases en9 with e | ⟨_, hz⟩
        · omega
        have an := Ended.non S TM (by rw [lm]) (by rw [lm]; exact kn) hz (fun i => ad ss i ss.length)
        rw [lm] at an
        exact k t r false _ _ (S2.free hr) S4 upd_same (f3.same s4) an (bdd_canc S GD.fine)
      · have c1 := toNB c
        have kn : k9 = ss.length := by omega
        subst kn
        refine ⟨_, rfl, _, rfl, q, us2, _, rs, _, σ, _, rfl, hq, hu2, S, GD.fine, fun r H3 hr s3 f3 => ?_⟩
        refine ⟨(by show 2 ≤ sizeLine; decide), fun t ht => ?_⟩
        have s4 := same_new (o := .tup [.str "one", .ref r]) ht
        have S4 := S2.trans (s3.trans s4)
        have S5 := S
        rw [← lm] at S5
        have an := Ended.one S5 TM
        rw [lm] at an
        exact k t r true _ _ (S2.free hr) S4 upd_same (FrL.k (f3.same s4)) an (bdd_made S GD.fine)
theorem sc_is_row : FnScope ["thing"] ["thing"] (defScope s_is_row) := ⟨rfl, rfl, rfl, by decide +kernel, rfl, by decide +kernel, by decide +kernel⟩
theorem ok_is_row {f : Addr} {fd : FuncData} (F : Fun K "is_row" "is_row" s_is_row f fd) (z : Zs mg) {tT : Tok} (g_MOST_ROWS : mg "MOST_ROWS" = some (.int 10 tT)) (c_is_fractions : Cal P w K mg base 3 "is_fractions" ["thing"] spIsFrs) : FnOk P w K mg base CX0 4 f fd ["thing"] spIsRow := by
  refine F.ok sc_is_row (fun vs H Q E h => ?_) (fun cdv A outer s H vs Q E hr h => ?_)
  · obtain ⟨a, qs, rfl, _⟩ := h
    rfl
  · obtain ⟨a, qs, rfl, hq, h1, h2, k⟩ := h
    refine ⟨_, (pss_one (ps_ret (pe_and (pe_cal c_is_fractions hr (pa_cons (pv 0) pa_nil)) (pe_one (pe_chain op_le op_le pe_int (pe_callB call_len_seq (by rfl) z.len PySem.boot_len (pa_cons (pv 0) pa_nil)) (pe_glob (v := .int 10) (by rfl) g_MOST_ROWS ⟨_, rfl⟩)))))), ?_⟩
    refine ⟨_, rfl, a, qs, rfl, hq, by omega, fun H1 s1 => ?_⟩
    refine ⟨_, rfl, iteT ?_⟩
    obtain ⟨vs, ha, lv, hv⟩ := (hq.same s1).len
    refine ⟨_, rfl, a, vs, rfl, .inl (SqL.of ha), _, _, rfl, rfl, _, rfl, iteC (d := true) (decide_eq_true (by omega)) (iteT ⟨_, _, rfl, rfl, ?_⟩)⟩
    have e9 : decide (((vs.length : Nat) : Int) ≤ 10) = true := decide_eq_true (by omega)
    show Q (.bl (decide (((vs.length : Nat) : Int) ≤ 10))) H1
    rw [e9]
    exact k _ s1
theorem sc_is_matrix : FnScope ["thing", "row"] ["thing"] (defScope s_is_matrix) := ⟨rfl, rfl, rfl, by decide +kernel, rfl, by decide +kernel, by decide +kernel⟩
theorem ok_is_matrix {f : Addr} {fd : FuncData} (F : Fun K "is_matrix" "is_matrix" s_is_matrix f fd) (z : Zs mg) {tT : Tok} (g_MOST_ROWS : mg "MOST_ROWS" = some (.int 10 tT)) (c_is_row : Cal P w K mg base 4 "is_row" ["thing"] spIsRow) : FnOk P w K mg base CX0 5 f fd ["thing"] spIsMat := by
  refine F.ok sc_is_matrix (fun vs H Q E h => ?_) (fun cdv A outer s H vs Q E hr h => ?_)
  · obtain ⟨a, ws, A, rfl, _⟩ := h
    rfl
  · obtain ⟨a, ws, A, rfl, ha, hs, sq, k⟩ := h
    refine ⟨_, (pss_cons (ps_if (PW.pt (pw_or (pt_not (pt_val (pe_callB call_isi (by rfl) z.isinstance (by decide +kernel) (pa_cons (pv 0) (pa_cons (pe_bltn (v := .ty "list") (by rfl) z.list (by decide +kernel) rfl) pa_nil))))) (pw_or1 (pt_cmpR op_gt (pe_callB call_len_seq (by rfl) z.len PySem.boot_len (pa_cons (pv 0) pa_nil)) (pe_glob (v := .int 10) (by rfl) g_MOST_ROWS ⟨_, rfl⟩) (nomark _))))) (pss_one (ps_ret pe_bl)) pss_nil)
      (pss_cons (ps_if (pt_not (pt_val (pe_callB (cr_all rfl) (by rfl) z.all (by decide +kernel) (pa_cons (pe_lc (own := [("row", 1)]) (g := gName 1) (tt := tYes) (te := (tCall spIsRow [] E0 (tCons (tVar 1) tNil))) (by rfl) sc_is_matrix.nd (pi_list (pv 0)) (blkOk_by (own := [("row", 1)]) (N := ["thing", "row"]) (sc := defScope s_is_matrix) (by decide +kernel)) (fun _ _ _ _ _ => by exact (pg_name (i := 1) sc_is_matrix.nd rfl (.inl rfl))) (fun _ _ _ _ _ => by exact pts_nil) (fun _ _ _ _ _ => by exact (pe_cal c_is_row hr (pa_cons (pv 1) pa_nil)))) pa_nil)))) (pss_one (ps_ret pe_bl)) pss_nil)
      (pss_one (ps_ret (pe_callB (cr_all rfl) (by rfl) z.all (by decide +kernel) (pa_cons (pe_lc (own := [("row", 1)]) (g := gName 1) (tt := tYes) (te := (tOp rEq (tCB (fun xs H Q => ∃ p ys, xs = [V.ref p] ∧ (SqL K H p ys ∨ SqT K H p ys) ∧ Q (.int ys.length) H) (tCons (tVar 1) tNil)) (tCB (fun xs H Q => ∃ p ys, xs = [V.ref p] ∧ (SqL K H p ys ∨ SqT K H p ys) ∧ Q (.int ys.length) H) (tCons (tOp (rIxL K) (tVar 0) (tC (.int 0))) tNil)))) (by rfl) sc_is_matrix.nd (pi_list (pv 0)) (blkOk_by (own := [("row", 1)]) (N := ["thing", "row"]) (sc := defScope s_is_matrix) (by decide +kernel)) (fun _ _ _ _ _ => by exact (pg_name (i := 1) sc_is_matrix.nd rfl (.inl rfl))) (fun _ _ _ _ _ => by exact pts_nil) (fun _ _ _ _ _ => by exact (pe_cmpR op_eq (pe_callB call_len_seq (by rfl) z.len PySem.boot_len (pa_cons (pv 1) pa_nil)) (pe_callB call_len_seq (by rfl) z.len PySem.boot_len (pa_cons (pe_ix ix_list (pv 0) pe_int (fun _ _ => rfl)) pa_nil)) (nomark _)))) pa_nil)))))), ?_⟩
    have lw := hs.1
    have n10 := sq.1
    refine ⟨_, rfl, _, .ty "list", _, _, true, rfl, .ty _, .base (.lst ha), kit_ty (by decide +kernel), _, rfl, iteF ?_⟩
    refine ⟨_, rfl, a, ws, rfl, .inl (SqL.of ha), _, _, rfl, rfl, _, rfl, iteC (d := false) (decide_eq_false (by omega)) (iteF ?_)⟩
    refine ⟨_, rfl, a, rfl, ⟨_, SqL.of ha⟩, fun D hD => lc_list (K := K) (a := a) (xs := ws) (fun i G => Same H G ∧ G D = some (.lst ((List.replicate i true).map V.bl))) ⟨same_new hD, upd_same⟩ (fun i G _ hP => SqL.of (hP.1 _ _ ha)) (fun i x G hx hP => ?_) (fun G hP => ?_)⟩
    · obtain ⟨sG, hacc⟩ := hP
      obtain ⟨b, r, rfl, hr2, fb⟩ := hs.get hx
      have li := (List.getElem?_eq_some_iff.mp hr2).1
      have wr := sq.2 r (List.mem_of_getElem? hr2)
      refine ⟨rfl, _, rfl, b, r, rfl, fb.same sG, by omega, by omega, fun G2 s2 => ?_⟩
      refine ⟨_, s2 _ _ hacc, ?_, fun b o e => ?_, ?_⟩
      · rw [List.length_map, List.length_replicate]
        exact small1000 (by omega)
      · rw [upd_ne (ne_of_none e hD)]
        exact s2 _ _ (sG _ _ e)
      · rw [upd_same, List.replicate_succ', List.map_append]
        rfl
    · obtain ⟨sG, hacc⟩ := hP
      refine ⟨D, List.replicate _ true, rfl, SqL.of hacc, ?_⟩
      rw [rep_all]
      refine ⟨_, rfl, iteF ?_⟩
      refine ⟨_, rfl, a, rfl, ⟨_, SqL.of (sG _ _ ha)⟩, fun D2 hD2 => lc_list (K := K) (a := a) (xs := ws) (fun i G2 => Same G G2 ∧ G2 D2 = some (.lst ((List.replicate i true).map V.bl))) ⟨same_new hD2, upd_same⟩ (fun i G2 _ hP => SqL.of (hP.1 _ _ (sG _ _ ha))) (fun i x G2 hx hP => ?_) (fun G2 hP => ?_)⟩
      · obtain ⟨sG2, hacc2⟩ := hP
        obtain ⟨b, r, rfl, hr2, fb⟩ := hs.get hx
        have li := (List.getElem?_eq_some_iff.mp hr2).1
        have wr := sq.2 r (List.mem_of_getElem? hr2)
        obtain ⟨vs, hv, lv, _⟩ := (fb.same (sG.trans sG2)).len
        obtain ⟨b0, e0, f0⟩ := hs.2 0 _ (List.getElem?_eq_getElem (show 0 < A.length by omega))
        have w0 := sq.2 A[0] (List.getElem_mem (show 0 < A.length by omega))
        obtain ⟨us, hu, lu, _⟩ := (f0.same (sG.trans sG2)).len
        refine ⟨rfl, ?_⟩
        refine ⟨_, rfl, b, vs, rfl, .inl (SqL.of hv), _, rfl, a, ws, 0, .ref b0, rfl, rfl, SqL.of (sG2 _ _ (sG _ _ ha)), atI_nat (j := 0) e0, ?_⟩
        refine ⟨b0, us, rfl, .inl (SqL.of hu), rfl, ?_⟩
        rw [dec_int, show (((vs.length : Nat) : Int) == ((us.length : Nat) : Int)) = true by rw [lv, lu, wr, w0]; exact beq_self_eq_true _]
        refine ⟨_, hacc2, ?_, fun b o e => ?_, ?_⟩
        · rw [List.length_map, List.length_replicate]
          exact small1000 (by omega)
        · rw [upd_ne (ne_of_none e hD2)]
          exact sG2 _ _ e
        · rw [upd_same, List.replicate_succ', List.map_append]
          rfl
      · obtain ⟨sG2, hacc2⟩ := hP
        refine ⟨D2, List.replicate _ true, rfl, SqL.of hacc2, ?_⟩
        rw [rep_all]
        exact k _ (sG.trans sG2)
theorem sc_shape_of : FnScope ["matrix"] ["matrix"] (defScope s_shape_of) := ⟨rfl, rfl, rfl, by decide +kernel, rfl, by decide +kernel, by decide +kernel⟩
theorem ok_shape_of {f : Addr} {fd : FuncData} {k : Nat} (F : Fun K "shape_of" "shape_of" s_shape_of f fd) (z : Zs mg) : FnOk P w K mg base CX0 (k + 1) f fd ["matrix"] spShape := by
  refine F.ok sc_shape_of (fun vs H Q E h => ?_) (fun cdv A outer s H vs Q E hr h => ?_)
  · obtain ⟨a, ws, A, rfl, _⟩ := h
    rfl
  · obtain ⟨a, ws, A, rfl, ha, hs, sq, k⟩ := h
    refine ⟨_, (pss_one (ps_ret (pe_tup (pa_cons (pe_callB call_len_seq (by rfl) z.len PySem.boot_len (pa_cons (pv 0) pa_nil)) (pa_cons (pe_ifExp (pt_truth (pv 0) (by intro _; rfl)) (pe_callB call_len_seq (by rfl) z.len PySem.boot_len (pa_cons (pe_ix ix_list (pv 0) pe_int (fun _ _ => rfl)) pa_nil)) pe_int) pa_nil))))), ?_⟩
    have lw := hs.1
    refine ⟨_, rfl, a, _, rfl, .inl (SqL.of ha), ?_⟩
    by_cases c : A.length = 0
    · have c2 : ws = [] := List.length_eq_zero_iff.mp (by omega)
      subst c2
      refine ⟨_, rfl, _, .inl ⟨_, SqL.of ha, rfl⟩, iteF ?_⟩
      have := k
      rw [c] at this
      exact ⟨(by show 2 ≤ sizeLine; decide), fun p hp => this p hp⟩
    · have c2 : ws ≠ [] := fun e => c (by rw [← lw, e]; rfl)
      obtain ⟨b0, e0, f0⟩ := hs.2 0 _ (List.getElem?_eq_getElem (show 0 < A.length by omega))
      have w0 := sq.2 A[0] (List.getElem_mem (show 0 < A.length by omega))
      obtain ⟨us, hu, lu, _⟩ := f0.len
      refine ⟨_, rfl, _, .inl ⟨_, SqL.of ha, rfl⟩, iteC (d := true) (by cases ws with | nil => exact absurd rfl c2 | cons x xs => rfl) (iteT ?_)⟩
      refine ⟨_, rfl, a, ws, 0, .ref b0, rfl, rfl, SqL.of ha, atI_nat (j := 0) e0, b0, us, rfl, .inl (SqL.of hu), ?_⟩
      refine ⟨(by show 2 ≤ sizeLine; decide), fun p hp => ?_⟩
      rw [lw, lu, w0]
      exact k p hp
theorem sc_is_square : FnScope ["thing"] ["thing"] (defScope s_is_square) := ⟨rfl, rfl, rfl, by decide +kernel, rfl, by decide +kernel, by decide +kernel⟩
theorem ok_is_square {f : Addr} {fd : FuncData} (F : Fun K "is_square" "is_square" s_is_square f fd) (z : Zs mg) (c_is_matrix : Cal P w K mg base 5 "is_matrix" ["thing"] spIsMat) (c_shape_of : Cal P w K mg base 1 "shape_of" ["matrix"] spShape) : FnOk P w K mg base CX0 6 f fd ["thing"] spIsMat := by
  refine F.ok sc_is_square (fun vs H Q E h => ?_) (fun cdv A outer s H vs Q E hr h => ?_)
  · obtain ⟨a, ws, A, rfl, _⟩ := h
    rfl
  · obtain ⟨a, ws, A, rfl, ha, hs, sq, k⟩ := h
    refine ⟨_, (pss_one (ps_ret (pe_and (pe_cal c_is_matrix hr (pa_cons (pv 0) pa_nil)) (pe_one (pe_cmpR op_eq (pe_callB call_len_seq (by rfl) z.len PySem.boot_len (pa_cons (pv 0) pa_nil)) (pe_ix ix_tup (pe_cal c_shape_of hr (pa_cons (pv 0) pa_nil)) pe_int (fun _ _ => rfl)) (nomark _)))))), ?_⟩
    have lw := hs.1
    refine ⟨_, rfl, a, ws, A, rfl, ha, hs, sq, fun H1 s1 => ?_⟩
    refine ⟨_, rfl, iteT ?_⟩
    refine ⟨_, rfl, a, _, rfl, .inl (SqL.of (s1 _ _ ha)), _, rfl, a, ws, A, rfl, s1 _ _ ha, hs.same s1, sq, fun p hp => ?_⟩
    refine ⟨p, _, 1, .int (A.length : Nat), rfl, rfl, SqT.of upd_same, a1, rfl, ?_⟩
    rw [dec_int, show (((ws.length : Nat) : Int) == ((A.length : Nat) : Int)) = true by rw [lw]; exact beq_self_eq_true _]
    exact k _ (s1.trans (same_new hp))
theorem sc_is_list_of : FnScope ["thing", "many"] ["thing", "many"] (defScope s_is_list_of) := ⟨rfl, rfl, rfl, by decide +kernel, rfl, by decide +kernel, by decide +kernel⟩
theorem ok_is_list_of {f : Addr} {fd : FuncData} (F : Fun K "is_list_of" "is_list_of" s_is_list_of f fd) (z : Zs mg) (c_is_fractions : Cal P w K mg base 3 "is_fractions" ["thing"] spIsFrs) : FnOk P w K mg base CX0 4 f fd ["thing", "many"] spIsList := by
  refine F.ok sc_is_list_of (fun vs H Q E h => ?_) (fun cdv A outer s H vs Q E hr h => ?_)
  · obtain ⟨a, qs, rfl, _⟩ := h
    rfl
  · obtain ⟨a, qs, rfl, hq, l10, k⟩ := h
    refine ⟨_, (pss_one (ps_ret (pe_and (pe_cal c_is_fractions hr (pa_cons (pv 0) pa_nil)) (pe_one (pe_cmpR op_eq (pe_callB call_len_seq (by rfl) z.len PySem.boot_len (pa_cons (pv 0) pa_nil)) (pv 1) (nomark _)))))), ?_⟩
    refine ⟨_, rfl, a, qs, rfl, hq, by omega, fun H1 s1 => ?_⟩
    refine ⟨_, rfl, iteT ?_⟩
    obtain ⟨vs, ha, lv, hv⟩ := (hq.same s1).len
    refine ⟨_, rfl, a, _, rfl, .inl (SqL.of ha), _, rfl, rfl, ?_⟩
    rw [dec_int, show (((vs.length : Nat) : Int) == ((qs.length : Nat) : Int)) = true by rw [lv]; exact beq_self_eq_true _]
    exact k _ s1
theorem sc_check_square : FnScope ["thing"] ["thing"] (defScope s_check_square) := ⟨rfl, rfl, rfl, by decide +kernel, rfl, by decide +kernel, by decide +kernel⟩
theorem ok_check_square {f : Addr} {fd : FuncData} (F : Fun K "check_square" "check_square" s_check_square f fd) (z : Zs mg) (c_is_square : Cal P w K mg base 6 "is_square" ["thing"] spIsMat) : FnOk P w K mg base CX0 7 f fd ["thing"] spChkSq := by
  refine F.ok sc_check_square (fun vs H Q E h => ?_) (fun cdv A outer s H vs Q E hr h => ?_)
  · obtain ⟨a, ws, A, rfl, _⟩ := h
    rfl
  · obtain ⟨a, ws, A, rfl, ha, hs, sq, k⟩ := h
    refine ⟨_, (pss_one (ps_if (pt_not (pt_val (pe_cal c_is_square hr (pa_cons (pv 0) pa_nil)))) (pss_one ps_never) pss_nil)), ?_⟩
    exact ⟨_, rfl, a, ws, A, rfl, ha, hs, sq, fun H1 s1 => ⟨_, rfl, iteF (k _ s1)⟩⟩
theorem sc_check_list : FnScope ["thing", "many"] ["thing", "many"] (defScope s_check_list) := ⟨rfl, rfl, rfl, by decide +kernel, rfl, by decide +kernel, by decide +kernel⟩
theorem ok_check_list {f : Addr} {fd : FuncData} (F : Fun K "check_list" "check_list" s_check_list f fd) (z : Zs mg) (c_is_list_of : Cal P w K mg base 4 "is_list_of" ["thing", "many"] spIsList) : FnOk P w K mg base CX0 5 f fd ["thing", "many"] spChkL := by
  refine F.ok sc_check_list (fun vs H Q E h => ?_) (fun cdv A outer s H vs Q E hr h => ?_)
  · obtain ⟨a, qs, rfl, _⟩ := h
    rfl
  · obtain ⟨a, qs, rfl, hq, l10, k⟩ := h
    refine ⟨_, (pss_one (ps_if (pt_not (pt_val (pe_cal c_is_list_of hr (pa_cons (pv 0) (pa_cons (pv 1) pa_nil))))) (pss_one ps_never) pss_nil)), ?_⟩
    exact ⟨_, rfl, _, rfl, a, qs, rfl, hq, l10, fun H1 s1 => ⟨_, rfl, iteF (k _ s1)⟩⟩
theorem sc_solved : FnScope ["matrix", "right", "row", "wanted"] ["matrix", "right"] (defScope s_solved) := ⟨rfl, rfl, rfl, by decide +kernel, rfl, by decide +kernel, by decide +kernel⟩
theorem ok_solved {f : Addr} {fd : FuncData} (F : Fun K "solved" "solved" s_solved f fd) (z : Zs mg) (c_check_square : Cal P w K mg base 7 "check_square" ["thing"] spChkSq) (c_check_list : Cal P w K mg base 5 "check_list" ["thing", "many"] spChkL) (c_solution : Cal P w K mg base 5 "solution" ["rows"] (spSolution K)) : FnOk P w K mg base CX0 8 f fd ["matrix", "right"] (spSolved K) := by
  refine F.ok sc_solved (fun vs H Q E h => ?_) (fun cdv A outer s H vs Q E hr h => ?_)
  · obtain ⟨a, c, ws, A, ys, rfl, _⟩ := h
    rfl
  · obtain ⟨a, c, ws, A, ys, rfl, ha, hs, sq, hy, ly, GD, k⟩ := h
    refine ⟨_, (pss_cons (ps_expr (pe_cal c_check_square hr (pa_cons (pv 0) pa_nil)))
      (pss_cons (ps_expr (pe_cal c_check_list hr (pa_cons (pv 1) (pa_cons (pe_callB call_len_seq (by rfl) z.len PySem.boot_len (pa_cons (pv 0) pa_nil)) pa_nil))))
      (pss_one (ps_ret (pe_cal c_solution hr (pa_cons (pe_lc (own := [("row", 2), ("wanted", 3)]) (g := gTup K 2 (gCons (gName 2) (gCons (gName 3) gNil))) (tt := tYes) (te := (tLst (StX.tStar K (tVar 2) (tCons (tVar 3) tNil)))) (by rfl) sc_solved.nd (RZ.pi_zipA (by rfl) z.zip (pa_cons (pv 0) (pa_cons (pv 1) pa_nil))) (blkOk_by (own := [("row", 2), ("wanted", 3)]) (N := ["matrix", "right", "row", "wanted"]) (sc := defScope s_solved) (by decide +kernel)) (fun _ _ _ _ _ => by exact (pg_tup (by rfl) (pgs_cons (pg_name (i := 2) sc_solved.nd rfl (.inl rfl)) (pgs_cons (pg_name (i := 3) sc_solved.nd rfl (.inl rfl)) pgs_nil)))) (fun _ _ _ _ _ => by exact pts_nil) (fun _ _ _ _ _ => by exact (pe_lst (StX.pa_star (pv 2) (pa_cons (pv 3) pa_nil))))) pa_nil)))))), ?_⟩
    have lw := hs.1
    have n10 := sq.1
    refine ⟨_, rfl, a, ws, A, rfl, ha, hs, sq, fun H1 s1 => ?_⟩
    refine ⟨_, rfl, _, rfl, a, _, rfl, .inl (SqL.of (s1 _ _ ha)), c, ys, by rw [ly, lw]; rfl, hy.same s1, by omega, fun H2 s2 => ?_⟩
    have S2 := s1.trans s2
    obtain ⟨vs, hv, lv, hvs⟩ := (hy.same S2).len
    have ha2 := S2 _ _ ha
    have hs2 := hs.same S2
    refine ⟨_, rfl, _, rfl, a, c, _, _, rfl, .inl ⟨SqL.of ha2, SqL.of hv, fun D hD => ?_⟩⟩
    refine lc_it (walk_zip (K := K) (a := a) (b := c) (xs := ws) (ys := vs) rfl) (fun i G => Same H2 G ∧ ∃ us, G D = some (.lst us) ∧ (∀ v ∈ us, v ≠ .ref D) ∧ us.length = i ∧ SeL G us (aug (A.take i) (ys.take i))) ⟨same_new hD, [], upd_same, (fun v hv => absurd hv List.not_mem_nil), rfl, rfl, (fun i r e => by rw [List.take_zero] at e; cases e)⟩ (fun i G _ hP => ⟨SqL.of (hP.1 _ _ ha2), SqL.of (hP.1 _ _ hv)⟩) (fun i x G G2 hi hP hY => ?_) (fun G hP => ?_)
    · obtain ⟨sG, us, hacc, nus, lus, wus⟩ := hP
      obtain ⟨Tp, u, v, rfl, nT, rfl, e1, e2⟩ := hY
      obtain ⟨b, r, rfl, hr2, fb⟩ := hs2.get e1
      obtain ⟨py, q, rfl, hq, fy⟩ := FrsAt.get hvs e2
      have li := (List.getElem?_eq_some_iff.mp hr2).1
      have wr := sq.2 r (List.mem_of_getElem? hr2)
      have sN := same_new (o := .tup [.ref b, .ref py]) nT
      obtain ⟨rs9, hb3, lb3, fb3⟩ := ((fb.same sG).same sN).len
      have fy3 : Fr (upd G Tp (.tup [.ref b, .ref py])) py q := sN _ _ (sG _ _ fy)
      refine ⟨Tp, _, rfl, SqT.of upd_same, rfl, _, _, rfl, _, _, rfl, rfl, rfl, ?_⟩
      refine ⟨_, rfl, b, rs9, rfl, .inr (SqL.of hb3), _, rfl, ?_, fun l hl => ?_⟩
      · exact Nat.le_of_lt (small1000 (by rw [List.length_append]; show rs9.length + 1 ≤ 1000; omega))
      have sl := same_new (o := .lst (rs9 ++ [.ref py])) hl
      have S9 := sN.trans sl
      have hacc2 := S9 _ _ hacc
      have nl : l ≠ D := fun e => by
        rw [e, sN _ _ hacc] at hl
        cases hl
      have fr9 : FrL (upd (upd G Tp (.tup [.ref b, .ref py])) l (.lst (rs9 ++ [.ref py]))) l (r ++ [q]) := by
        refine ⟨_, upd_same, FrsAt.app (PrsAt.same fb3 sl) (FrsAt.one ?_)⟩
        exact sl _ _ fy3
      refine ⟨_, hacc2, small1000 (by omega), fun c o e => ?_, us ++ [.ref l], upd_same, fun v hv => ?_, by rw [List.length_append, lus]; rfl, ?_⟩
      · rw [upd_ne (ne_of_none e hD)]
        exact S9 _ _ (sG _ _ e)
      · rcases List.mem_append.mp hv with h | h
        · exact nus v h
        · rw [List.mem_singleton.mp h]
          exact fun z => nl (V.ref.inj z)
      · rw [aug_take A ys i r q hr2 hq]
        exact SeL.app ((wus.same S9).butN hacc2 nus SameBut.upd) (SeL.one (fr9.but nl SameBut.upd hacc2))
    · obtain ⟨sG, us, hacc, nus, lus, wus⟩ := hP
      rw [show min ws.length vs.length = A.length by omega, List.take_length, show A.length = ys.length from ly.symm, List.take_length] at wus
      have la := aug_len A ys ly.symm
      refine ⟨D, us, aug A ys, rfl, hacc, wus, GD, fun p q b xs H3 hq s3 hp hx an bd => ?_⟩
      have SG := S2.trans sG
      rw [la] at an
      refine k p q b xs H3 (SG.free hq) (SG.trans s3) hp hx (an.congr (fun i t hi ht => (aug_ad sq ly hi).1 t ht) fun i hi => (aug_ad sq ly hi).2) bd
end
end E1

namespace E1
open PySem PySem.Spec PyProof.Rows L2
def SM (D : Int) (M : Nat) (q : Rat) : Prop := Sc D (M * D.natAbs) q
theorem SM.zero {D : Int} {M : Nat} : SM D M 0 := Sc.zero
theorem SM.mono {D : Int} {M N : Nat} {q : Rat} (h : SM D M q) (l : M ≤ N) : SM D N q := Sc.mono h (Nat.mul_le_mul_right _ l)
theorem SM.add {D : Int} {M N : Nat} {q r : Rat} (h : SM D M q) (g : SM D N r) : SM D (M + N) (q + r) := Sc.mono (Sc.add h g) (by rw [Nat.add_mul]; exact Nat.le_refl _)
theorem SM.mul {D E : Int} {M N : Nat} {q r : Rat} (h : SM D M q) (g : SM E N r) : SM (D * E) (M * N) (q * r) := Sc.mono (Sc.mul h g) (by rw [Int.natAbs_mul, Nat.mul_mul_mul_comm]; exact Nat.le_refl _)
theorem SM.grow {D : Int} {M : Nat} {q : Rat} (h : SM D M q) (k : Int) : SM (D * k) M q := Sc.mono (Sc.scale (k := k) h) (by rw [Int.natAbs_mul, Nat.mul_assoc]; exact Nat.le_refl _)
theorem SM.val {D : Int} {M : Nat} {q : Rat} (h : SM D M q) (hD : D ≠ 0) : q.num.natAbs ≤ M * q.den := by
  obtain ⟨n, e, b⟩ := Sc.cross h
  have e2 := congrArg Int.natAbs e
  rw [Int.natAbs_mul, Int.natAbs_mul, Int.natAbs_natCast] at e2
  have := Nat.mul_le_mul_right q.den b
  have d0 : 0 < D.natAbs := Int.natAbs_pos.mpr hD
  refine Nat.le_of_mul_le_mul_right ?_ d0
  rw [e2, Nat.mul_right_comm]
  exact this
theorem SM.neg {D : Int} {M : Nat} {q : Rat} (h : SM D M q) : SM D M (-q) := by
  obtain ⟨n, e, b⟩ := h
  refine ⟨-n, ?_, by rw [Int.natAbs_neg]; exact b⟩
  push_cast
  grind
theorem sg_sm {D : Int} {M : Nat} {f : Nat → Rat} : ∀ n, (∀ i, i < n → SM D M (f i)) → SM D (n * M) (sg f n)
  | 0, _ => .zero
  | n + 1, h => by
    have := (sg_sm n fun i hi => h i (by omega)).add (h n (by omega))
    rw [← Nat.succ_mul] at this
    exact this
theorem sum_sm {D : Int} {M : Nat} : ∀ qs : List Rat, (∀ q ∈ qs, SM D M q) → SM D (qs.length * M) (sumR qs)
  | [], _ => .zero
  | q :: qs, h => by
    have := (h q List.mem_cons_self).add (sum_sm qs fun x hx => h x (List.mem_cons_of_mem _ hx))
    rw [List.length_cons, Nat.succ_mul, Nat.add_comm]
    exact this
theorem Sc.bits {D : Int} {B n : Nat} {q : Rat} (h : Sc D B q) (hD : D ≠ 0) (h1 : D.natAbs < 2 ^ n) (h2 : B < 2 ^ n) : q.num.natAbs < 2 ^ n ∧ ((q.den : Int)).natAbs < 2 ^ n := by
  have d : (q.den : Int).natAbs ∣ D.natAbs := Int.natAbs_dvd_natAbs.mpr h.den
  exact ⟨Nat.lt_of_le_of_lt (h.num hD) h2, Nat.lt_of_le_of_lt (Nat.le_of_dvd (by omega) d) h1⟩
/-- what a step of it makes -/
theorem lowTP {t b : Int} (hb : 0 < b) : t / gI t b = lowT t b ∧ b / gI t b = lowB t b := by
  unfold lowT lowB
  rw [if_neg (by omega), if_neg (by omega)]
  exact ⟨rfl, rfl⟩
def spLowP : Sp := fun vs H Q _ => ∃ t b : Int, vs = [.int t, .int b] ∧ 0 < b ∧ b.natAbs < 2 ^ 8000 ∧ ∀ p, H p = none → Q (.ref p) (upd H p (.tup [.int (lowT t b), .int (lowB t b)]))
def spOne : Sp := fun vs H Q _ => ∃ (w a : Addr) (c : Int) (us : List V), vs = [.ref w, .ref a] ∧ WellAt H w c ∧ c ≤ 100000000 ∧ a ≠ w ∧ H a = some (.lst us) ∧ 0 < us.length ∧ us.length ≤ 1000 ∧ ∀ v ∈ us, ∀ H', SameBut w H H' → (∀ b, H b = none → H' b = none) → WellAt H' w (c + 1) → Q v H'
def spSumP : Sp := fun vs H Q _ => ∃ (a : Addr) (ws : List V) (ps : List (Int × Int)) (D : Int), vs = [.ref a] ∧ H a = some (.lst ws) ∧ PrsAt H ws ps ∧ D ≠ 0 ∧ D.natAbs < 2 ^ 3700 ∧ (∀ p ∈ ps, 0 < p.2 ∧ p.2 ∣ D ∧ p.1.natAbs < 2 ^ 3700) ∧ ps.length ≤ 100 ∧
  ∀ p H', H p = none → Same H H' → Fr H' p (sumR (ps.map fun p => Rat.divInt p.1 p.2)) → Q (.ref p) H'
theorem WellAt.ne {H : Hp} {a p : Addr} {c : Int} (h : WellAt H a c) (n : H p = none) : p ≠ a := fun e => by
  obtain ⟨_, _, _, z, _⟩ := h
  rw [← e, n] at z
  cases z
theorem but_free {H H' : Hp} {w p : Addr} (s : SameBut w H H') (h : H' p = none) (n : p ≠ w) : H p = none := by
  cases e : H p with
  | none => rfl
  | some o =>
    rw [s _ _ n e] at h
    cases h
theorem PrsAt.well {H H' : Hp} {w : Addr} {c : Int} {vs : List V} {ps : List (Int × Int)} (h : PrsAt H vs ps) (s : SameBut w H H') (hw : WellAt H w c) : PrsAt H' vs ps := by
  obtain ⟨_, _, _, e, _⟩ := hw
  exact h.but s e
theorem Fr.well {H H' : Hp} {w p : Addr} {c : Int} {q : Rat} (h : Fr H p q) (s : SameBut w H H') (hw : WellAt H w c) : Fr H' p q := by
  obtain ⟨_, _, _, e, _⟩ := hw
  exact s _ _ (ne_of h e (fun z => nomatch z)) h
theorem plus_div (q : Rat) {n o : Int} (ho : 0 < o) : Rat.divInt (q.num * o + n * q.den) (q.den * o) = q + Rat.divInt n o := by
  apply div_is (Int.mul_ne_zero (den_ne q) (by omega))
  have a := q_eq q
  have b := div_q (t := n) (b := o) (by omega)
  push_cast at *
  grind
theorem sum_sc {D : Int} (hD : D ≠ 0) (hl : D.natAbs < 2 ^ 3700) : ∀ ps : List (Int × Int), (∀ p ∈ ps, 0 < p.2 ∧ p.2 ∣ D ∧ p.1.natAbs < 2 ^ 3700) → Sc D (ps.length * 2 ^ 7400) (sumR (ps.map fun p => Rat.divInt p.1 p.2))
  | [], _ => .zero
  | p :: ps, h => by
    obtain ⟨p0, ⟨k, hk⟩, pl⟩ := h p List.mem_cons_self
    have i := sum_sc hD hl ps fun x hx => h x (List.mem_cons_of_mem _ hx)
    have one : Sc D (2 ^ 7400) (Rat.divInt p.1 p.2) := by
      refine ⟨p.1 * k, ?_, ?_⟩
      · have d := div_q (t := p.1) (b := p.2) (by omega)
        rw [hk]
        push_cast
        grind
      · have kl : k.natAbs ≤ D.natAbs := by
          rw [hk, Int.natAbs_mul]
          exact Nat.le_mul_of_pos_left _ (by omega)
        rw [Int.natAbs_mul]
        have : p.1.natAbs * k.natAbs ≤ 2 ^ 3700 * 2 ^ 3700 := Nat.mul_le_mul (by omega) (by omega)
        rw [← Nat.pow_add] at this
        exact this
    have := one.add i
    refine this.mono ?_
    rw [List.length_cons, Nat.add_mul, Nat.one_mul, Nat.add_comm]
    exact Nat.le_refl _
theorem FrL.well {H H' : Hp} {w a : Addr} {c : Int} {qs : List Rat} (h : FrL H a qs) (s : SameBut w H H') (hw : WellAt H w c) (n : a ≠ w) : FrL H' a qs := by
  obtain ⟨vs, e, r⟩ := h
  exact ⟨vs, s _ _ n e, PrsAt.well r s hw⟩
theorem FrL.app {H : Hp} {a b p : Addr} {xs ys : List Rat} {vs ws : List V} (h : H a = some (.lst vs)) (hv : FrsAt H vs xs) (hw : FrsAt H ws ys) (hp : H p = none) : FrL (upd H p (.lst (vs ++ ws))) p (xs ++ ys) := ⟨_, upd_same, PrsAt.same (FrsAt.app hv hw) (same_new hp)⟩

def Pl (kd : Int) (q : Rat) : Prop := (kd = 0 → SM 12 3 q) ∧ (kd ≠ 0 → q.num.natAbs ≤ 1000000000 ∧ q.den ≤ 1000000000)
def spPlace : Sp := fun vs H Q _ => ∃ (w : Addr) (c kd : Int), vs = [.ref w, .int kd] ∧ WellAt H w c ∧ c ≤ 10000000 ∧ ∀ p q H', H p = none → SameBut w H H' → WellAt H' w (c + 2) → Fr H' p q → Pl kd q → Q (.ref p) H'
theorem pl_small {t b : Int} (ht : t.natAbs ≤ 3) (hb : 1 ≤ b ∧ b ≤ 4) : SM 12 3 (Rat.divInt t b) := by
  have d := div_q (t := t) (b := b) (by omega)
  have hd : b ∣ 12 := by
    have : b = 1 ∨ b = 2 ∨ b = 3 ∨ b = 4 := by omega
    rcases this with rfl | rfl | rfl | rfl <;> decide
  obtain ⟨k, hk⟩ := hd
  have hk' : ((12 : Int) : Rat) = (b : Rat) * (k : Rat) := by
    rw [hk]
    push_cast
    rfl
  refine ⟨t * k, ?_, ?_⟩
  · rw [hk']
    push_cast at *
    grind
  · have kl : k.natAbs ≤ 12 := by
      have e : (12 : Int).natAbs = b.natAbs * k.natAbs := by rw [hk, Int.natAbs_mul]
      have : k.natAbs ≤ b.natAbs * k.natAbs := Nat.le_mul_of_pos_left _ (by omega)
      omega
    rw [Int.natAbs_mul]
    exact Nat.mul_le_mul ht kl
theorem pl_div {t b : Int} (hb : 0 < b) (h1 : b ≤ 1000000000) (h2 : t.natAbs ≤ 1000000000) : (Rat.divInt t b).num.natAbs ≤ 1000000000 ∧ (Rat.divInt t b).den ≤ 1000000000 := by
  have s : Sc b t.natAbs (Rat.divInt t b) := ⟨t, div_q (by omega), Nat.le_refl _⟩
  have d := Nat.le_of_dvd (by omega) (Int.natAbs_dvd_natAbs.mpr s.den)
  have n := s.num (by omega)
  exact ⟨by omega, by omega⟩
/-- the sum of the products, place by place -/
def pairsL : List Rat → List Rat → List (Int × Int)
  | x :: xs, y :: ys => (x.num * y.num, (x.den * y.den : Int)) :: pairsL xs ys
  | _, _ => []
theorem pairs_take : ∀ (xs ys : List Rat) (i : Nat) (x y : Rat), xs[i]? = some x → ys[i]? = some y → pairsL (xs.take (i + 1)) (ys.take (i + 1)) = pairsL (xs.take i) (ys.take i) ++ [(x.num * y.num, (x.den * y.den : Int))]
  | a :: xs, b :: ys, 0, x, y, h1, h2 => by
    cases h1
    cases h2
    rfl
  | a :: xs, b :: ys, i + 1, x, y, h1, h2 => by
    show (a.num * b.num, (a.den * b.den : Int)) :: pairsL (xs.take (i + 1)) (ys.take (i + 1)) = (a.num * b.num, (a.den * b.den : Int)) :: (pairsL (xs.take i) (ys.take i) ++ _)
    rw [pairs_take xs ys i x y h1 h2]
  | [], _, _, _, _, h1, _ => by cases h1
  | _ :: _, [], _, _, _, _, h2 => by cases h2
theorem pairs_mem : ∀ {xs ys : List Rat} {p : Int × Int}, p ∈ pairsL xs ys → ∃ x ∈ xs, ∃ y ∈ ys, p = (x.num * y.num, (x.den * y.den : Int))
  | [], ys, p, h => by cases ys <;> cases h
  | x :: xs, [], p, h => by cases h
  | x :: xs, y :: ys, p, h => by
    rcases List.mem_cons.mp h with h | h
    · exact ⟨x, List.mem_cons_self, y, List.mem_cons_self, h⟩
    · obtain ⟨a, ha, b, hb, e⟩ := pairs_mem h
      exact ⟨a, List.mem_cons_of_mem _ ha, b, List.mem_cons_of_mem _ hb, e⟩
theorem pairs_sum : ∀ (xs ys : List Rat), sumR ((pairsL xs ys).map fun p => Rat.divInt p.1 p.2) = dotR xs ys
  | [], ys => by cases ys <;> rfl
  | x :: xs, [] => rfl
  | x :: xs, y :: ys => by
    show Rat.divInt (x.num * y.num) (x.den * y.den : Int) + sumR ((pairsL xs ys).map fun p => Rat.divInt p.1 p.2) = x * y + dotR xs ys
    rw [pairs_sum xs ys, times_q]
def spLDot (K : PySem.W.Frag) : Sp := fun vs H Q _ => ∃ (a c : Addr) (xs ys : List Rat) (D E : Int), vs = [.ref a, .ref c] ∧ FrL H a xs ∧ FrLK K H c ys ∧ (D ≠ 0 ∧ D.natAbs < 2 ^ 590 ∧ ∀ x ∈ xs, Sc D (2 ^ 599) x) ∧ (E ≠ 0 ∧ E.natAbs < 2 ^ 3100 ∧ ∀ y ∈ ys, Sc E (2 ^ 3100) y) ∧ xs.length = ys.length ∧ ys.length ≤ 10 ∧
  ∀ p H', H p = none → Same H H' → Fr H' p (dotR xs ys) → Q (.ref p) H'
section
variable {P : Program} {w : World} {K : PySem.W.Frag} {mg : Str → Option Value} {base : Heap}
theorem sc__law_cell_at : FnScope ["_law_script", "_law_k"] ["_law_script", "_law_k"] (defScope s__law_cell_at) := ⟨rfl, rfl, rfl, by decide +kernel, rfl, by decide +kernel, by decide +kernel⟩
theorem sc__law_well : FnScope ["_law_cell"] ["_law_cell"] (defScope s__law_well) := ⟨rfl, rfl, rfl, by decide +kernel, rfl, by decide +kernel, by decide +kernel⟩
theorem sc__law_draw : FnScope ["_law_well_here", "_law_many", "_law_digit", "_law_number"] ["_law_well_here", "_law_many"] (defScope s__law_draw) := ⟨rfl, rfl, rfl, by decide +kernel, rfl, by decide +kernel, by decide +kernel⟩
theorem ok_cell {f : Addr} {fd : FuncData} {k : Nat} (F : Fun K "_law_cell_at" "_law_cell_at" s__law_cell_at f fd) (zl : mg "len" = none) : FnOk P w K mg base CX0 (k + 1) f fd ["_law_script", "_law_k"] (spCell K) := by
  refine F.ok sc__law_cell_at (fun vs H Q E h => ?_) (fun cdv A outer s H vs Q E hr h => ?_)
  · obtain ⟨a, ns, k, rfl, _⟩ := h
    rfl
  · obtain ⟨a, ns, k, rfl, hS, q⟩ := h
    refine ⟨_, (pss_cons (ps_if (pt_cmpR op_lt (pv 1) (pe_callB call_len_seq (by rfl) zl PySem.boot_len (pa_cons (pv 0) pa_nil)) (nomark _)) (pss_one (ps_ret (pe_ix ix_list (pv 0) (pv 1) (fun _ _ => rfl)))) pss_nil)
      (pss_one (ps_ret pe_int))), ?_⟩
    refine ⟨_, rfl, _, rfl, a, _, rfl, .inl hS, _, _, rfl, rfl, _, rfl, ite2 (fun c => ?_) (fun c => ?_)⟩
    · have hk : k < ns.length := by
        have := toB c
        rw [List.length_map] at this
        omega
      refine ⟨_, rfl, _, rfl, a, _, k, .int (ns.getD k 0), rfl, rfl, hS, atI_nat ?_, q⟩
      rw [List.getElem?_map, List.getElem?_eq_getElem hk, List.getD_eq_getElem?_getD, List.getElem?_eq_getElem hk]
      rfl
    · have hk : ¬ k < ns.length := fun z => by
        have := toNB c
        rw [List.length_map] at this
        omega
      have e : ns.getD k 0 = 0 := by
        rw [List.getD_eq_getElem?_getD, List.getElem?_eq_none (by omega)]
        rfl
      rw [e] at q
      exact q
theorem ok_well {f : Addr} {fd : FuncData} {k : Nat} (F : Fun K "_law_well" "_law_well" s__law_well f fd) (zi : mg "int" = none) : FnOk P w K mg base CX0 (k + 1) f fd ["_law_cell"] spWell := by
  refine F.ok sc__law_well (fun vs H Q E h => ?_) (fun cdv A outer s H vs Q E hr h => ?_)
  · obtain ⟨c, rfl, _⟩ := h
    rfl
  · obtain ⟨c, rfl, q⟩ := h
    refine ⟨_, (pss_one (ps_ret (pe_lst (pa_cons (pe_op op_mul (pv 0) (pe_callTy call_int1 (by rfl) zi (by decide +kernel) (pa_cons (pe_cmpR op_ge (pv 0) (pe_op op_pow pe_int pe_int) (nomark _)) pa_nil))) (pa_cons (pe_op op_mod (pv 0) pe_int) (pa_cons pe_int pa_nil)))))), ?_⟩
    refine ⟨_, rfl, _, rfl, _, _, rfl, rfl, ⟨by decide, by decide, by decide⟩, _, _, rfl, rfl, .inr ⟨_, rfl, _, _, rfl, rfl, .inr ?_, ?_⟩⟩
    · split <;> decide
    · refine ⟨_, rfl, _, _, rfl, rfl, (by show (0 : Int) < 2147483647; decide), (by show 3 ≤ sizeLine; decide), fun p hp => ?_⟩
      exact q p hp _ (same_new hp) ⟨_, _, _, upd_same, Int.emod_nonneg _ (by decide), Int.emod_lt_of_pos _ (by decide), Int.le_refl _, Int.le_refl _⟩

theorem ok_draw {f : Addr} {fd : FuncData} {k : Nat} (F : Fun K "_law_draw" "_law_draw" s__law_draw f fd) : FnOk P w K mg base CX0 (k + 1) f fd ["_law_well_here", "_law_many"] spDraw := by
  refine F.ok sc__law_draw (fun vs H Q E h => ?_) (fun cdv A outer s H vs Q E hr h => ?_)
  · obtain ⟨a, c, m, rfl, _⟩ := h
    rfl
  · obtain ⟨a, c, m, rfl, ⟨x, y, z, hw, y0, y1, z0, z1⟩, hc, m0, m1, q⟩ := h
    have fr : ∀ o b, H b = none → (upd H a o) b = none := fun o b hb => by
      rw [upd_ne (fun e => by rw [e, hw] at hb; cases hb)]
      exact hb
    refine ⟨_, (pss_cons (ps_if (pt_cmpR op_gt (pe_ix ix_list (pv 0) pe_int (fun _ _ => rfl)) pe_int (nomark _)) (pss_cons (ps_set (i := 2) sc__law_draw.nd rfl (.inl rfl) (pe_op op_mod (pe_ix ix_list (pv 0) pe_int (fun _ _ => rfl)) (pv 1)))
      (pss_cons (ps_asg (pe_op op_fdivW (pe_ix ix_list (pv 0) pe_int (fun _ _ => rfl)) (pv 1)) (pg_sub (pv 0) pe_int set_list))
      (pss_one (ps_ret (pv 2))))) pss_nil)
      (pss_cons (ps_asg (pe_op op_add (pe_ix ix_list (pv 0) pe_int (fun _ _ => rfl)) pe_int) (pg_sub (pv 0) pe_int set_list))
      (pss_cons (ps_set (i := 3) sc__law_draw.nd rfl (.inl rfl) (pe_op op_mod (pe_op op_pow (pe_op op_add (pe_op op_add (pe_ix ix_list (pv 0) pe_int (fun _ _ => rfl)) (pe_op op_mul pe_int (pe_ix ix_list (pv 0) pe_int (fun _ _ => rfl)))) pe_int) pe_int) pe_int))
      (pss_cons (ps_set (i := 3) sc__law_draw.nd rfl (.inl rfl) (pe_op op_mod (pe_op op_mul (pv 3) (pe_op op_add (pe_op op_fdiv (pv 3) pe_int) pe_int)) pe_int))
      (pss_one (ps_ret (pe_op op_mod (pe_op op_fdiv (pe_op op_mod (pe_op op_mul (pv 3) (pe_op op_add (pe_op op_add (pe_op op_fdiv (pv 3) pe_int) pe_int) (pe_ix ix_list (pv 0) pe_int (fun _ _ => rfl)))) pe_int) pe_int) (pv 1)))))))), ?_⟩
    refine ⟨_, rfl, a, _, 0, .int x, rfl, rfl, SqL.of hw, a0, x, 0, rfl, rfl, _, rfl, ite2 (fun c => ?_) (fun c => ?_)⟩
    · refine ⟨_, rfl, a, _, 0, .int x, rfl, rfl, SqL.of hw, a0, _, rfl, x, m, rfl, rfl, m0, ?_⟩
      refine ⟨_, rfl, a, _, 0, .int x, rfl, rfl, SqL.of hw, a0, _, rfl, x, m, rfl, rfl, wide_div m0 m1 (by decide) (Nat.le_refl _), _, rfl, a, _, 0, 0, rfl, rfl, hw, rfl, ?_⟩
      refine ⟨_, rfl, q _ _ (Int.emod_nonneg _ (by omega)) (Int.emod_lt_of_pos _ m0) SameBut.upd (fr _) ⟨_, _, _, upd_same, y0, y1, z0, by omega⟩⟩
    · refine ⟨_, rfl, a, _, 2, .int z, rfl, rfl, SqL.of hw, a2, z, 1, rfl, rfl, _, rfl, a, _, 2, 2, rfl, rfl, hw, rfl, ?_⟩
      have hw2 : (upd H a (.lst [V.int x, V.int y, V.int (z + 1)])) a = some (.lst [V.int x, V.int y, V.int (z + 1)]) := upd_same
      have n5 : 0 ≤ y + 7919 * (z + 1) + 1 ∧ y + 7919 * (z + 1) + 1 < 18446744073709551616 := by omega
      refine ⟨_, rfl, a, _, 1, .int y, rfl, rfl, SqL.of hw2, a1, _, rfl, a, _, 2, .int (z + 1), rfl, rfl, SqL.of hw2, a2, _, _, rfl, rfl, .inl ⟨by decide, by decide⟩, _, _, rfl, rfl, _, _, rfl, rfl, _, _, rfl, rfl, ⟨by decide, by decide, ?_⟩, _, _, rfl, rfl, (by show (0 : Int) < 2147483629; decide), ?_⟩
      · show (y + 7919 * (z + 1) + 1).natAbs < 18446744073709551616
        omega
      · generalize hn : (y + 7919 * (z + 1) + 1) ^ (3 : Int).toNat % 2147483629 = n
        have n0 : 0 ≤ n := by rw [← hn]; exact Int.emod_nonneg _ (by decide)
        have n1 : n < 2147483629 := by rw [← hn]; exact Int.emod_lt_of_pos _ (by decide)
        refine ⟨_, rfl, _, rfl, _, _, rfl, rfl, ⟨by decide, by decide⟩, _, _, rfl, rfl, _, _, rfl, rfl, .inl ⟨by omega, by omega⟩, _, _, rfl, rfl, (by show (0 : Int) < 2147483587; decide), ?_⟩
        generalize hm : n * (n / 1009 + 69621) % 2147483587 = u
        have u0 : 0 ≤ u := by rw [← hm]; exact Int.emod_nonneg _ (by decide)
        have u1 : u < 2147483587 := by rw [← hm]; exact Int.emod_lt_of_pos _ (by decide)
        refine ⟨_, rfl, _, rfl, _, _, rfl, rfl, ⟨by decide, by decide⟩, _, _, rfl, rfl, _, rfl, a, _, 2, .int (z + 1), rfl, rfl, SqL.of hw2, a2, _, _, rfl, rfl, _, _, rfl, rfl, .inl ⟨by omega, by omega⟩, _, _, rfl, rfl, (by show (0 : Int) < 2147483579; decide), _, _, rfl, rfl, ⟨by decide, by decide⟩, _, rfl, _, _, rfl, rfl, m0, ?_⟩
        exact q _ _ (Int.emod_nonneg _ (by omega)) (Int.emod_lt_of_pos _ m0) SameBut.upd (fr _) ⟨_, _, _, upd_same, y0, y1, by omega, by omega⟩
theorem sc__law_one : FnScope ["_law_well_here", "_law_some"] ["_law_well_here", "_law_some"] (defScope s__law_one) := ⟨rfl, rfl, rfl, by decide +kernel, rfl, by decide +kernel, by decide +kernel⟩
theorem ok__law_one {f : Addr} {fd : FuncData} (F : Fun K "_law_one" "_law_one" s__law_one f fd) (z : Zs mg) (c__law_draw : Cal P w K mg base 1 "_law_draw" ["_law_well_here", "_law_many"] spDraw) : FnOk P w K mg base CX0 2 f fd ["_law_well_here", "_law_some"] spOne := by
  refine F.ok sc__law_one (fun vs H Q E h => ?_) (fun cdv A outer s H vs Q E hr h => ?_)
  · obtain ⟨w1, a, c, us, rfl, _⟩ := h
    rfl
  · obtain ⟨w1, a, c, us, rfl, hw, hc, ne, ha, l0, l1, q⟩ := h
    refine ⟨_, (pss_one (ps_ret (pe_ix ix_list (pv 1) (pe_cal c__law_draw hr (pa_cons (pv 0) (pa_cons (pe_callB call_len_seq (by rfl) z.len PySem.boot_len (pa_cons (pv 1) pa_nil)) pa_nil))) (fun _ _ => rfl)))), ?_⟩
    refine ⟨_, rfl, _, rfl, _, rfl, a, _, rfl, .inl (SqL.of ha), w1, c, _, rfl, hw, by omega, by omega, ?_, fun r H1 r0 r1 d1 f1 w2 => ?_⟩
    · exact Nat.lt_of_le_of_lt (show ((us.length : Int)).natAbs ≤ 1000 by omega) (up (show 1000 < 2 ^ 10 by decide) (by decide))
    · obtain ⟨k, rfl⟩ : ∃ k : Nat, r = k := ⟨r.toNat, by omega⟩
      have hk : k < us.length := by omega
      exact ⟨a, _, _, _, rfl, rfl, SqL.of (d1 _ _ ne ha), atI_nat (List.getElem?_eq_getElem hk), q _ (List.getElem_mem hk) H1 d1 f1 w2⟩
theorem sc__law_low : FnScope ["_law_top", "_law_bottom", "_law_one_here", "_law_other"] ["_law_top", "_law_bottom"] (defScope s__law_low) := ⟨rfl, rfl, rfl, by decide +kernel, rfl, by decide +kernel, by decide +kernel⟩
theorem ok__law_low {f : Addr} {fd : FuncData} {k : Nat} (F : Fun K "_law_low" "_law_low" s__law_low f fd) (z : Zs mg) : FnOk P w K mg base CX0 (k + 1) f fd ["_law_top", "_law_bottom"] spLowP := by
  refine F.ok sc__law_low (fun vs H Q E h => ?_) (fun cdv A outer s H vs Q E hr h => ?_)
  · obtain ⟨t, b, rfl, _⟩ := h
    rfl
  · obtain ⟨t, b, rfl, hb, hl, q⟩ := h
    refine ⟨_, (pss_cons (ps_par (i := 2) (j := 3) (by rfl) sc__law_low.nd rfl rfl (by decide) rfl rfl (pa_cons (pe_callB call_abs (by rfl) z.abs (by decide +kernel) (pa_cons (pv 0) pa_nil)) (pa_cons (pv 1) pa_nil)) (by rfl))
      (pss_cons (ps_while PassesOwn.never (pt_cmpR op_gt (pv 3) pe_int (nomark _)) (pss_one (ps_par (i := 2) (j := 3) (by rfl) sc__law_low.nd rfl rfl (by decide) rfl rfl (pa_cons (pv 3) (pa_cons (pe_op op_mod (pv 2) (pv 3)) pa_nil)) (by rfl))))
      (pss_one (ps_ret (pe_tup (pa_cons (pe_op op_fdivW (pv 0) (pv 2)) (pa_cons (pe_op op_fdivW (pv 1) (pv 2)) pa_nil))))))), ?_⟩
    have g0 := gI_pos (t := t) (b := b) (by omega)
    have g1 : (gI t b).natAbs < 2 ^ 8000 := Nat.lt_of_le_of_lt (gI_le (by omega)) hl
    refine ⟨_, rfl, _, rfl, _, rfl, _, _, rfl, ?_⟩
    dsimp only [gName, tSeq]
    refine while_by (fun σ H' => H' = H ∧ ∃ m n : Nat, σ = [some (.int t), some (.int b), some (.int (m : Int)), some (.int (n : Int))] ∧ Nat.gcd m n = Int.gcd t b)
      (fun σ _ => match σ with | [_, _, _, some (.int r)] => r.toNat | _ => 0) ⟨rfl, t.natAbs, b.natAbs, ?_, rfl⟩ (fun σ H1 hP => ?_) (fun σ H Q Q' m hh => ?_)
    · have e1 : (if t < 0 then -t else t) = (t.natAbs : Int) := by split <;> omega
      have e2 : b = (b.natAbs : Int) := by omega
      show [some (V.int t), some (V.int b), some (V.int (if t < 0 then -t else t)), some (V.int b)] = _
      rw [e1, ← e2]
    · obtain ⟨rfl, m, n, rfl, hg⟩ := hP
      refine ⟨_, rfl, _, _, rfl, rfl, _, rfl, ite2 (fun c => ?_) (fun c => ?_)⟩
      · have hn := toB c
        refine ⟨_, rfl, _, rfl, _, rfl, _, _, rfl, rfl, (by omega), _, _, rfl, ⟨⟨rfl, n, m % n, rfl, ?_⟩, ?_⟩⟩
        · rw [← hg, Nat.gcd_comm n (m % n), ← Nat.gcd_rec n m, Nat.gcd_comm]
        · show ((m : Int) % (n : Int)).toNat < ((n : Int)).toNat
          have := Int.emod_lt_of_pos (m : Int) (show (0 : Int) < n by omega)
          have := Int.emod_nonneg (m : Int) (show (n : Int) ≠ 0 by omega)
          omega
      · have hn := toNB c
        have e0 : n = 0 := by omega
        subst e0
        rw [Nat.gcd_zero_right] at hg
        have e2 : (m : Int) = gI t b := by
          unfold gI
          rw [hg]
        rw [e2]
        refine ⟨_, rfl, _, rfl, _, _, rfl, rfl, wide_div g0 g1 (by decide) (by decide), _, rfl, _, rfl, _, _, rfl, rfl, wide_div g0 g1 (by decide) (by decide), (by show 2 ≤ sizeLine; decide), fun p hp => ?_⟩
        have := q p hp
        rw [← (lowTP hb).1, ← (lowTP hb).2] at this
        exact this
    · obtain ⟨v, e, i, j, e1, e2, kk, ek, hq⟩ := hh
      exact ⟨v, e, i, j, e1, e2, kk, ek, m _ _ hq⟩
theorem sc__law_sum : FnScope ["_law_some", "_law_top", "_law_bottom", "_law_one_here", "_law_other"] ["_law_some"] (defScope s__law_sum) := ⟨rfl, rfl, rfl, by decide +kernel, rfl, by decide +kernel, by decide +kernel⟩
theorem ok__law_sum {f : Addr} {fd : FuncData} (F : Fun K "_law_sum" "_law_sum" s__law_sum f fd) (c__law_low : Cal P w K mg base 1 "_law_low" ["_law_top", "_law_bottom"] spLowP) : FnOk P w K mg base CX0 2 f fd ["_law_some"] spSumP := by
  refine F.ok sc__law_sum (fun vs H Q E h => ?_) (fun cdv A outer s H vs Q E hr h => ?_)
  · obtain ⟨a, ws, ps, D, rfl, _⟩ := h
    rfl
  · obtain ⟨a, ws, ps, D, rfl, ha, hp0, hD, hDl, hps, hl, q⟩ := h
    refine ⟨_, (pss_cons (ps_asg (pe_tup (pa_cons pe_int (pa_cons pe_int pa_nil))) (pg_tup (by rfl) (pgs_cons (pg_name (i := 1) sc__law_sum.nd rfl (.inl rfl)) (pgs_cons (pg_name (i := 2) sc__law_sum.nd rfl (.inl rfl)) pgs_nil))))
      (pss_cons (ps_for PassesOwn.never rfl (pi_list (pv 0)) (pg_tup (by rfl) (pgs_cons (pg_name (i := 3) sc__law_sum.nd rfl (.inl rfl)) (pgs_cons (pg_name (i := 4) sc__law_sum.nd rfl (.inl rfl)) pgs_nil))) (pss_one (ps_asg (pe_cal c__law_low hr (pa_cons (pe_op op_add (pe_op op_mulW (pv 1) (pv 4)) (pe_op op_mulW (pv 3) (pv 2))) (pa_cons (pe_op op_mulW (pv 2) (pv 4)) pa_nil))) (pg_tup (by rfl) (pgs_cons (pg_name (i := 1) sc__law_sum.nd rfl (.inl rfl)) (pgs_cons (pg_name (i := 2) sc__law_sum.nd rfl (.inl rfl)) pgs_nil))))))
      (pss_one (ps_ret (pe_tup (pa_cons (pv 1) (pa_cons (pv 2) pa_nil))))))), ?_⟩
    have hlen := hp0.len
    refine ⟨(by show 2 ≤ sizeLine; decide), fun p0 hp00 => ⟨p0, _, rfl, SqT.of upd_same, rfl, _, _, rfl, _, _, rfl, rfl, ?_⟩⟩
    have sI := same_new (o := .tup [.int 0, .int 1]) hp00
    refine ⟨_, rfl, a, rfl, ⟨_, SqL.of (sI _ _ ha)⟩, for_list (K := K) (a := a) (xs := ws) (fun i σ H' => Same H H' ∧ ∃ y3 y4 : Option V, σ = [some (.ref a), some (.int (sumR ((ps.take i).map fun p => Rat.divInt p.1 p.2)).num), some (.int ((sumR ((ps.take i).map fun p => Rat.divInt p.1 p.2)).den : Int)), y3, y4]) ⟨sI, none, none, rfl⟩ (fun i σ H' _ hP => SqL.of (hP.1 _ _ ha)) (fun i x σ H' hx hP => ?_) (fun σ H' hP => ?_)⟩
    · obtain ⟨s1, y3, y4, rfl⟩ := hP
      obtain ⟨p, n, o, rfl, hi, hm, hp⟩ := PrL_get hp0 hx
      obtain ⟨o0, oD, nl⟩ := hps _ hm
      have o0 : 0 < o := o0
      have oD : o ∣ D := oD
      have nl : n.natAbs < 2 ^ 3700 := nl
      have sc := sum_sc hD hDl (ps.take i) fun p hp => hps p (List.mem_of_mem_take hp)
      have tl : (ps.take i).length ≤ 100 := by
        rw [List.length_take]
        omega
      have sc2 := sc.mono (C := 2 ^ 7410 - 1) (by
        have h1 : (ps.take i).length * 2 ^ 7400 ≤ 100 * 2 ^ 7400 := Nat.mul_le_mul_right _ tl
        have h2 : 100 * 2 ^ 7400 ≤ 2 ^ 7410 - 1 := by
          rw [show (7410 : Nat) = 10 + 7400 by decide, Nat.pow_add]
          have : 0 < 2 ^ 7400 := Nat.pow_pos (by decide)
          omega
        omega)
      have bq := sc2.bits hD (up hDl (show 3700 ≤ 7410 by decide)) (by have : 0 < 2 ^ 7410 := Nat.pow_pos (by decide); omega)
      have od : o.natAbs < 2 ^ 3700 := Nat.lt_of_le_of_lt (Nat.le_of_dvd (by omega) (Int.natAbs_dvd_natAbs.mpr oD)) hDl
      have dd : ((sumR ((ps.take i).map fun p => Rat.divInt p.1 p.2)).den : Int).natAbs < 2 ^ 3700 := Nat.lt_of_le_of_lt (Nat.le_of_dvd (by omega) (Int.natAbs_dvd_natAbs.mpr sc.den)) hDl
      have e : sumR ((ps.take (i + 1)).map fun p => Rat.divInt p.1 p.2) = sumR ((ps.take i).map fun p => Rat.divInt p.1 p.2) + Rat.divInt n o := by
        rw [List.take_succ, hi, Option.toList_some, List.map_append, sumR_append]
        show _ + (Rat.divInt n o + 0) = _
        grind
      rw [e]
      have pd := plus_div (sumR ((ps.take i).map fun p => Rat.divInt p.1 p.2)) (n := n) o0
      generalize sumR ((ps.take i).map fun p => Rat.divInt p.1 p.2) = sq at *
      refine ⟨p, [.int n, .int o], rfl, SqT.of (s1 _ _ hp), rfl, _, _, rfl, _, _, rfl, rfl, ?_⟩
      have hne : (sq.den : Int) * o ≠ 0 := Int.mul_ne_zero (den_ne sq) (by omega)
      refine ⟨_, rfl, _, rfl, _, _, rfl, rfl, wide_mul bq.1 od (by decide) (by decide) (by decide), _, rfl, _, rfl, _, _, rfl, rfl, wide_mul nl dd (by decide) (by decide) (by decide), _, _, rfl, rfl, _, rfl, _, rfl, _, _, rfl, rfl, wide_mul dd od (by decide) (by decide) (by decide), _, _, rfl, Int.mul_pos (den_ge sq) o0, ?_, fun p2 hp2 => ?_⟩
      · show ((sq.den : Int) * o).natAbs < 2 ^ 8000
        rw [Int.natAbs_mul]
        have : (sq.den : Int).natAbs * o.natAbs < 2 ^ 3700 * 2 ^ 3700 := Nat.mul_lt_mul'' dd od
        rw [← Nat.pow_add] at this
        exact up this (by decide)
      · rw [lowT_num hne, lowB_den hne, pd]
        exact ⟨p2, _, rfl, SqT.of upd_same, rfl, _, _, rfl, _, _, rfl, rfl, s1.trans (same_new hp2), _, _, rfl⟩
    · obtain ⟨s1, y3, y4, rfl⟩ := hP
      rw [hlen, List.take_length]
      refine ⟨_, rfl, _, rfl, (by show 2 ≤ sizeLine; decide), fun p hp => ?_⟩
      exact q p _ (s1.free hp) (s1.trans (same_new hp)) upd_same
theorem sc__law_dot : FnScope ["_law_one_here", "_law_other", "_law_a", "_law_b"] ["_law_one_here", "_law_other"] (defScope s__law_dot) := ⟨rfl, rfl, rfl, by decide +kernel, rfl, by decide +kernel, by decide +kernel⟩
theorem ok__law_dot {f : Addr} {fd : FuncData} (F : Fun K "_law_dot" "_law_dot" s__law_dot f fd) (z : Zs mg) (c__law_sum : Cal P w K mg base 2 "_law_sum" ["_law_some"] spSumP) : FnOk P w K mg base CX0 3 f fd ["_law_one_here", "_law_other"] (spLDot K) := by
  refine F.ok sc__law_dot (fun vs H Q E h => ?_) (fun cdv A outer s H vs Q E hr h => ?_)
  · obtain ⟨a, c, xs, ys, D, E9, rfl, _⟩ := h
    rfl
  · obtain ⟨a, c, xs, ys, D, E9, rfl, ⟨vs, ha, hx⟩, ⟨us, hc, hy⟩, ⟨D0, Dl, hD⟩, ⟨E0, El, hE⟩, hl, l10, k⟩ := h
    refine ⟨_, (pss_one (ps_ret (pe_cal c__law_sum hr (pa_cons (pe_lc (own := [("_law_a", 2), ("_law_b", 3)]) (g := gTup K 2 (gCons (gName 2) (gCons (gName 3) gNil))) (tt := tYes) (te := (tTup (tCons (tOp (rI CMulW fun i j => V.int (i * j)) (tOp (rIxT K) (tVar 2) (tC (.int 0))) (tOp (rIxT K) (tVar 3) (tC (.int 0)))) (tCons (tOp (rI CMulW fun i j => V.int (i * j)) (tOp (rIxT K) (tVar 2) (tC (.int 1))) (tOp (rIxT K) (tVar 3) (tC (.int 1)))) tNil)))) (by rfl) sc__law_dot.nd (RZ.pi_zipA (by rfl) z.zip (pa_cons (pv 0) (pa_cons (pv 1) pa_nil))) (blkOk_by (own := [("_law_a", 2), ("_law_b", 3)]) (N := ["_law_one_here", "_law_other", "_law_a", "_law_b"]) (sc := defScope s__law_dot) (by decide +kernel)) (fun _ _ _ _ _ => by exact (pg_tup (by rfl) (pgs_cons (pg_name (i := 2) sc__law_dot.nd rfl (.inl rfl)) (pgs_cons (pg_name (i := 3) sc__law_dot.nd rfl (.inl rfl)) pgs_nil)))) (fun _ _ _ _ _ => by exact pts_nil) (fun _ _ _ _ _ => by exact (pe_tup (pa_cons (pe_op op_mulW (pe_ix ix_tup (pv 2) pe_int (fun _ _ => rfl)) (pe_ix ix_tup (pv 3) pe_int (fun _ _ => rfl))) (pa_cons (pe_op op_mulW (pe_ix ix_tup (pv 2) pe_int (fun _ _ => rfl)) (pe_ix ix_tup (pv 3) pe_int (fun _ _ => rfl))) pa_nil))))) pa_nil)))), ?_⟩
    have lx := FrsAt.len hx
    have ly := hy.1
    refine ⟨_, rfl, _, rfl, a, c, vs, us, rfl, .inl ⟨SqL.of ha, SqL.of hc, fun l hL => ?_⟩⟩
    refine lc_it (walk_zip (K := K) (a := a) (b := c) (xs := vs) (ys := us) rfl) (fun i H2 => Same H H2 ∧ ∃ ws, H2 l = some (.lst ws) ∧ PrsAt H2 ws (pairsL (xs.take i) (ys.take i)) ∧ ws.length ≤ i) ⟨same_new hL, [], upd_same, .nil, Nat.le_refl _⟩ (fun i H2 _ hP => ⟨SqL.of (hP.1 _ _ ha), SqL.of (hP.1 _ _ hc)⟩) (fun i x H2 H3 hi hP hY => ?_) (fun H2 hP => ?_)
    · obtain ⟨s1, ws, hw, hps, hwl⟩ := hP
      obtain ⟨Tp, u, v, rfl, nT, rfl, e1, e2⟩ := hY
      obtain ⟨p, qx, rfl, hqx, hp⟩ := FrsAt.get hx e1
      obtain ⟨r, qy, rfl, hqy, hr'⟩ := hy.get e2
      have sN := same_new (o := .tup [.ref p, .ref r]) nT
      have S1 := s1.trans sN
      have hp3 : SqT K _ p [.int qx.num, .int (qx.den : Int)] := SqT.of (S1 _ _ hp)
      have hr3 := sqT_same hr' S1
      have hw3 := sN _ _ hw
      have ps3 := hps.same sN
      have sx := hD _ (List.mem_of_getElem? hqx)
      have sy := hE _ (List.mem_of_getElem? hqy)
      have li : i < min vs.length us.length := hi
      have dx : ((qx.den : Int)).natAbs < 2 ^ 590 := Nat.lt_of_le_of_lt (Nat.le_of_dvd (by omega) (Int.natAbs_dvd_natAbs.mpr sx.den)) Dl
      have dy : ((qy.den : Int)).natAbs < 2 ^ 3100 := Nat.lt_of_le_of_lt (Nat.le_of_dvd (by omega) (Int.natAbs_dvd_natAbs.mpr sy.den)) El
      have nx : qx.num.natAbs < 2 ^ 600 := Nat.lt_of_le_of_lt (sx.num D0) (Nat.pow_lt_pow_right (by decide) (by decide))
      have ny : qy.num.natAbs < 2 ^ 3101 := Nat.lt_of_le_of_lt (sy.num E0) (Nat.pow_lt_pow_right (by decide) (by decide))
      refine ⟨Tp, [.ref p, .ref r], rfl, SqT.of upd_same, rfl, _, _, rfl, _, _, rfl, rfl, rfl, ?_⟩
      refine ⟨_, rfl, p, _, 0, .int qx.num, rfl, rfl, hp3, a0, _, rfl, r, _, 0, .int qy.num, rfl, rfl, hr3, a0, _, _, rfl, rfl, wide_mul nx ny (by decide) (by decide) (by decide), _, rfl, p, _, 1, .int qx.den, rfl, rfl, hp3, a1, _, rfl, r, _, 1, .int qy.den, rfl, rfl, hr3, a1, _, _, rfl, rfl, wide_mul dx dy (by decide) (by decide) (by decide), (by show 2 ≤ sizeLine; decide), fun t ht => ?_⟩
      have sT := same_new (o := .tup [.int (qx.num * qy.num), .int (qx.den * qy.den : Int)]) ht
      have nl : t ≠ l := fun e => by
        rw [e, hw3] at ht
        cases ht
      refine ⟨_, sT _ _ hw3, small1000 (by omega), fun b o e => ?_, ws ++ [.ref t], upd_same, ?_, by rw [List.length_append]; show ws.length + 1 ≤ i + 1; omega⟩
      · rw [upd_ne (ne_of_none e hL)]
        exact sT _ _ (S1 _ _ e)
      · rw [pairs_take xs ys i qx qy hqx hqy]
        have A : PrsAt (upd (upd (upd H2 Tp (.tup [.ref p, .ref r])) t (.tup [.int (qx.num * qy.num), .int (qx.den * qy.den : Int)])) l (.lst (ws ++ [.ref t]))) ws (pairsL (xs.take i) (ys.take i)) := (ps3.same sT).but SameBut.upd (sT _ _ hw3)
        refine A.app (.cons ?_ .nil)
        rw [upd_ne nl]
        exact upd_same
    · obtain ⟨s1, ws, hw, hps, hwl⟩ := hP
      rw [show min vs.length us.length = xs.length by omega, List.take_length, show xs.length = ys.length from hl, List.take_length] at hps
      have pl := hps.len
      refine ⟨l, ws, _, D * E9, rfl, hw, hps, Int.mul_ne_zero D0 E0, ?_, fun p hp => ?_, by omega, fun p H3 hp s3 f3 => ?_⟩
      · rw [Int.natAbs_mul]
        have : D.natAbs * E9.natAbs < 2 ^ 590 * 2 ^ 3100 := Nat.mul_lt_mul'' Dl El
        rw [← Nat.pow_add] at this
        exact up this (by decide)
      · obtain ⟨x, hx9, y, hy9, rfl⟩ := pairs_mem hp
        have sx := hD x hx9
        have sy := hE y hy9
        refine ⟨Int.mul_pos (den_ge x) (den_ge y), Int.mul_dvd_mul sx.den sy.den, ?_⟩
        show (x.num * y.num).natAbs < 2 ^ 3700
        rw [Int.natAbs_mul]
        have : x.num.natAbs * y.num.natAbs ≤ 2 ^ 599 * 2 ^ 3100 := Nat.mul_le_mul (sx.num D0) (sy.num E0)
        rw [← Nat.pow_add] at this
        exact Nat.lt_of_le_of_lt this (Nat.pow_lt_pow_right (by decide) (by decide))
      · rw [pairs_sum] at f3
        exact k p H3 (s1.free hp) (s1.trans s3) f3
theorem sc__law_place : FnScope ["_law_well_here", "_law_kind"] ["_law_well_here", "_law_kind"] (defScope s__law_place) := ⟨rfl, rfl, rfl, by decide +kernel, rfl, by decide +kernel, by decide +kernel⟩
theorem ok__law_place {f : Addr} {fd : FuncData} (F : Fun K "_law_place" "_law_place" s__law_place f fd) (c__law_draw : Cal P w K mg base 1 "_law_draw" ["_law_well_here", "_law_many"] spDraw) (c__law_low : Cal P w K mg base 1 "_law_low" ["_law_top", "_law_bottom"] spLowP) : FnOk P w K mg base CX0 2 f fd ["_law_well_here", "_law_kind"] spPlace := by
  refine F.ok sc__law_place (fun vs H Q E h => ?_) (fun cdv A outer s H vs Q E hr h => ?_)
  · obtain ⟨ww, c, kd, rfl, _⟩ := h
    rfl
  · obtain ⟨ww, c, kd, rfl, hw, hc, q⟩ := h
    refine ⟨_, (pss_cons (ps_if (pt_cmpR op_eq (pv 1) pe_int (nomark _)) (pss_one (ps_ret (pe_cal c__law_low hr (pa_cons (pe_op op_sub (pe_cal c__law_draw hr (pa_cons (pv 0) (pa_cons pe_int pa_nil))) pe_int) (pa_cons (pe_op op_add pe_int (pe_cal c__law_draw hr (pa_cons (pv 0) (pa_cons pe_int pa_nil)))) pa_nil))))) pss_nil)
      (pss_one (ps_ret (pe_cal c__law_low hr (pa_cons (pe_op op_add (pe_op op_sub (pe_cal c__law_draw hr (pa_cons (pv 0) (pa_cons (pe_op op_sub (pe_op op_mul pe_int (pe_op op_pow pe_int pe_int)) pe_int) pa_nil))) (pe_op op_pow pe_int pe_int)) pe_int) (pa_cons (pe_op op_add pe_int (pe_cal c__law_draw hr (pa_cons (pv 0) (pa_cons (pe_op op_sub (pe_op op_pow pe_int pe_int) pe_int) pa_nil)))) pa_nil)))))), ?_⟩
    have fin : ∀ (t b : Int) (H2 : Hp) (p : Addr), SameBut ww H H2 → WellAt H2 ww (c + 1 + 1) → H2 p = none → 0 < b → Pl kd (Rat.divInt t b) → Q (.ref p) (upd H2 p (.tup [.int (lowT t b), .int (lowB t b)])) := fun t b H2 p dd w2 hp hb hpl => q p _ _ (but_free dd hp (w2.ne hp)) (dd.trans (SameBut.of (same_new hp))) ((w2.same (same_new hp)).mono (by omega)) (Fr.low (by omega) rfl upd_same) hpl
    have b40 : ∀ {b : Int}, b.natAbs < 2 ^ 40 → b.natAbs < 2 ^ 8000 := fun h => up h (by decide)
    refine ⟨_, rfl, rfl, _, rfl, ite2 (fun ck => ?_) (fun ck => ?_)⟩
    · have k0 : kd = 0 := V.int.inj (toB ck)
      refine ⟨_, rfl, ww, c, 7, rfl, hw, by omega, by decide, by decide, fun r1 H1 r10 r11 d1 f1 w1 => ⟨_, _, rfl, rfl, _, rfl, ww, c + 1, 4, rfl, w1, by omega, by decide, by decide, fun r2 H2 r20 r21 d2 f2 w2 => ⟨_, _, rfl, rfl, _, _, rfl, by omega, b40 (by omega), fun p hp => ?_⟩⟩⟩
      exact fin _ _ H2 p (d1.trans d2) w2 hp (by omega) ⟨fun _ => pl_small (by omega) (by omega), fun h => absurd k0 h⟩
    · have k0 : kd ≠ 0 := fun e => ck (decide_eq_true (by rw [e]))
      refine ⟨_, rfl, _, _, rfl, rfl, ⟨by decide, by decide, by decide⟩, _, _, rfl, rfl, .inl ⟨by decide, by decide⟩, _, _, rfl, rfl, ww, c, 1999999999, rfl, hw, by omega, by decide, by decide, fun r1 H1 r10 r11 d1 f1 w1 => ⟨_, _, rfl, rfl, ⟨by decide, by decide, by decide⟩, _, _, rfl, rfl, _, _, rfl, rfl, _, rfl, _, _, rfl, rfl, ⟨by decide, by decide, by decide⟩, _, _, rfl, rfl, ww, c + 1, 999999999, rfl, w1, by omega, by decide, by decide, fun r2 H2 r20 r21 d2 f2 w2 => ⟨_, _, rfl, rfl, _, _, rfl, by omega, b40 (by omega), fun p hp => ?_⟩⟩⟩
      have e9 : (10 : Int) ^ (9 : Int).toNat = 1000000000 := by decide
      rw [e9]
      exact fin _ _ H2 p (d1.trans d2) w2 hp (by omega) ⟨fun h => absurd h k0, fun _ => pl_div (by omega) (by omega) (by omega)⟩
end
end E1

namespace E1
open PySem PySem.Spec PyProof.Rows L2
/-! ### matrices of the law -/
def mP (kd : Int) : Nat := if kd = 0 then 3 else 2 ^ 30
structure Dn (kd : Int) (k : Nat) (D : Int) : Prop where
  ne : D ≠ 0
  z : kd = 0 → D = 12
  nz : kd ≠ 0 → D.natAbs ≤ 2 ^ (30 * k)
theorem Dn.start (kd : Int) : ∃ D, Dn kd 0 D := by
  by_cases c : kd = 0
  · exact ⟨12, by decide, fun _ => rfl, fun h => absurd c h⟩
  · exact ⟨1, by decide, fun h => absurd h c, fun _ => by decide⟩
theorem Dn.more {kd : Int} {k : Nat} {D : Int} {q : Rat} (h : Dn kd k D) (p : Pl kd q) : ∃ D', Dn kd (k + 1) D' ∧ (∀ M x, SM D M x → SM D' M x) ∧ SM D' (mP kd) q := by
  unfold mP
  by_cases c : kd = 0
  · rw [if_pos c]
    refine ⟨D, ⟨h.ne, h.z, fun z => absurd c z⟩, fun M x hx => hx, ?_⟩
    rw [h.z c]
    exact p.1 c
  · rw [if_neg c]
    obtain ⟨p1, p2⟩ := p.2 c
    have d0 := den_ge q
    refine ⟨D * (q.den : Int), ⟨Int.mul_ne_zero h.ne (by omega), fun z => absurd z c, fun _ => ?_⟩, fun M x hx => hx.grow _, ?_⟩
    · rw [Int.natAbs_mul, Int.natAbs_natCast, Nat.mul_add, Nat.pow_add]
      exact Nat.mul_le_mul (h.nz c) (Nat.le_trans p2 (by decide))
    · have s : SM (q.den : Int) (2 ^ 30) q := ⟨q.num, q_eq q, by
        rw [Int.natAbs_natCast]
        exact Nat.le_trans (Nat.le_trans p1 (by decide)) (Nat.le_mul_of_pos_right _ (by omega))⟩
      rw [Int.mul_comm]
      exact s.grow D
theorem Dn.mono {kd : Int} {k m : Nat} {D : Int} (h : Dn kd k D) (l : k ≤ m) : Dn kd m D := ⟨h.ne, h.z, fun c => Nat.le_trans (h.nz c) (Nat.pow_le_pow_right (by decide) (by omega))⟩
theorem pl_zero (kd : Int) : Pl kd 0 := ⟨fun _ => SM.zero, fun _ => ⟨by decide, by decide⟩⟩
theorem sm_one {D : Int} {M : Nat} (h : 1 ≤ M) : SM D M 1 := ⟨D, by grind, Nat.le_mul_of_pos_left _ h⟩
def EnL (D : Int) (M : Nat) (A : List (List Rat)) : Prop := ∀ r ∈ A, ∀ q ∈ r, SM D M q
/-- ones on the diagonal, noughts above it -/
def UL (n : Nat) (L : List (List Rat)) : Prop := L.length = n ∧ ∀ (i : Nat) (r : List Rat), L[i]? = some r → r.length = n ∧ r.getD i 0 = 1 ∧ ∀ j, i < j → r.getD j 0 = 0
def Reg (n : Nat) (A : List (List Rat)) : Prop := ∀ w : Nat → Rat, (∀ r ∈ A, sg (fun t => r.getD t 0 * w t) n = 0) → ∀ t, t < n → w t = 0
theorem UL.reg {n : Nat} {L : List (List Rat)} (h : UL n L) : Reg n L := fun w hw => by
  have key : ∀ m t, t < m → t < n → w t = 0 := fun m => by
    induction m with
    | zero => intro t ht; omega
    | succ m ih =>
      intro t ht hn
      by_cases c : t < m
      · exact ih t c hn
      · have e1 : L[t]? = some (L[t]'(by rw [h.1]; exact hn)) := List.getElem?_eq_getElem _
        obtain ⟨_, r1, r0⟩ := h.2 t _ e1
        have := hw _ (List.mem_of_getElem? e1)
        have e := sg_more (fun s => (L[t]'(by rw [h.1]; exact hn)).getD s 0 * w s) (t + 1) (n - (t + 1)) fun s hs _ => by
          show _ * w s = 0
          rw [r0 s (by omega)]
          grind
        rw [show t + 1 + (n - (t + 1)) = n by omega, this] at e
        have e2 : sg (fun s => (L[t]'(by rw [h.1]; exact hn)).getD s 0 * w s) t = 0 := sg_zero _ fun s hs => by
          rw [ih s (by omega) (by omega)]
          grind
        have e3 : sg (fun s => (L[t]'(by rw [h.1]; exact hn)).getD s 0 * w s) (t + 1) = sg (fun s => (L[t]'(by rw [h.1]; exact hn)).getD s 0 * w s) t + (L[t]'(by rw [h.1]; exact hn)).getD t 0 * w t := rfl
        rw [e3, e2, r1] at e
        grind
  exact fun t ht => key (t + 1) t (Nat.lt_succ_self t) ht
theorem sg_two (f : Nat → Nat → Rat) (n : Nat) : ∀ m, sg (fun k => sg (fun s => f s k) n) m = sg (fun s => sg (fun k => f s k) m) n
  | 0 => (sg_zero n fun _ _ => rfl).symm
  | m + 1 => by
    show sg (fun k => sg (fun s => f s k) n) m + sg (fun s => f s m) n = _
    rw [sg_two f n m, ← sg_add]
    rfl
theorem sg_turn (f : Nat → Rat) : ∀ n, sg (fun k => f (n - 1 - k)) n = sg f n
  | 0 => rfl
  | n + 1 => by
    rw [sg_first]
    have e : sg (fun i => f (n + 1 - 1 - (i + 1))) n = sg (fun i => f (n - 1 - i)) n := sg_congr n fun i hi => by rw [show n + 1 - 1 - (i + 1) = n - 1 - i by omega]
    rw [e, sg_turn f n]
    show f n + sg f n = sg f n + f n
    grind
theorem dot_sgN : ∀ (xs ys : List Rat) (n : Nat), xs.length = n → ys.length = n → dotR xs ys = sg (fun t => xs.getD t 0 * ys.getD t 0) n
  | [], ys, n, hx, hy => by
    cases hx
    cases ys with
    | nil => rfl
    | cons y ys => cases hy
  | x :: xs, [], n, hx, hy => by
    cases hy
    cases hx
  | x :: xs, y :: ys, n, hx, hy => by
    obtain ⟨k, rfl⟩ : ∃ k, n = k + 1 := ⟨xs.length, hx.symm⟩
    rw [sg_first]
    show x * y + dotR xs ys = _
    rw [dot_sgN xs ys k (Nat.succ.inj hx) (Nat.succ.inj hy)]
    rfl
def turnU (L : List (List Rat)) : List (List Rat) := (L.map List.reverse).reverse
def rowM (U : List (List Rat)) (n : Nat) (r : List Rat) : List Rat := (List.range n).map fun k => dotR r (U.map fun l => l.getD k 0)
theorem rev_getD {r : List Rat} {n k : Nat} (h : r.length = n) (hk : k < n) : r.reverse.getD k 0 = r.getD (n - 1 - k) 0 := by
  rw [List.getD_eq_getElem?_getD, List.getElem?_reverse (by omega), h, ← List.getD_eq_getElem?_getD]
theorem row_getD {U : List (List Rat)} {n k : Nat} {r : List Rat} (hk : k < n) : (rowM U n r).getD k 0 = dotR r (U.map fun l => l.getD k 0) := by
  unfold rowM
  rw [List.getD_eq_getElem?_getD, List.getElem?_map, List.getElem?_range hk]
  rfl
theorem built_reg {n : Nat} {L L' : List (List Rat)} (h : UL n L) (h' : UL n L') : Reg n (L.map (rowM (turnU L') n)) := fun w hw => by
  have lU : (turnU L').length = n := by
    unfold turnU
    rw [List.length_reverse, List.length_map, h'.1]
  have uAt : ∀ s, s < n → ∃ r, L'[n - 1 - s]? = some r ∧ (turnU L').getD s [] = r.reverse := fun s hs => by
    obtain ⟨r, e1⟩ : ∃ r, L'[n - 1 - s]? = some r := ⟨_, List.getElem?_eq_getElem (by rw [h'.1]; omega)⟩
    refine ⟨r, e1, ?_⟩
    unfold turnU
    rw [List.getD_eq_getElem?_getD, List.getElem?_reverse (by rw [List.length_map, h'.1]; exact hs), List.length_map, h'.1, List.getElem?_map, e1]
    rfl
  have z : ∀ s, s < n → sg (fun k => ((turnU L').getD s []).getD k 0 * w k) n = 0 := by
    refine h.reg (fun s => sg (fun k => ((turnU L').getD s []).getD k 0 * w k) n) fun r hr => ?_
    have lr : r.length = n := by
      obtain ⟨i, hi⟩ := List.mem_iff_getElem?.mp hr
      exact (h.2 i r hi).1
    have e := hw _ (List.mem_map_of_mem hr)
    have e1 : sg (fun t => (rowM (turnU L') n r).getD t 0 * w t) n = sg (fun k => sg (fun s => r.getD s 0 * (((turnU L').getD s []).getD k 0 * w k)) n) n := sg_congr n fun k hk => by
      rw [row_getD hk, dot_sgN _ _ n lr (by rw [List.length_map, lU])]
      have c1 : sg (fun t => r.getD t 0 * ((turnU L').map fun l => l.getD k 0).getD t 0) n * w k = w k * sg (fun t => r.getD t 0 * ((turnU L').map fun l => l.getD k 0).getD t 0) n := by grind
      rw [c1, ← sg_mul]
      refine sg_congr n fun s hs => ?_
      have c2 : ((turnU L').map fun l => l.getD k 0).getD s 0 = ((turnU L').getD s []).getD k 0 := by
        rw [List.getD_eq_getElem?_getD, List.getElem?_map, List.getD_eq_getElem?_getD (l := turnU L'), List.getElem?_eq_getElem (by rw [lU]; exact hs)]
        rfl
      rw [c2]
      grind
    rw [e1, sg_two] at e
    exact Eq.trans (sg_congr n fun s hs => (sg_mul _ _ n).symm) e
  have v : ∀ k, k < n → w (n - 1 - k) = 0 := by
    refine h'.reg (fun k => w (n - 1 - k)) fun r hr => ?_
    obtain ⟨i, hi⟩ := List.mem_iff_getElem?.mp hr
    have li := (List.getElem?_eq_some_iff.mp hi).1
    rw [h'.1] at li
    obtain ⟨r2, e1, e2⟩ := uAt (n - 1 - i) (by omega)
    rw [show n - 1 - (n - 1 - i) = i by omega, hi] at e1
    cases e1
    have := z (n - 1 - i) (by omega)
    rw [e2] at this
    refine Eq.trans ?_ this
    rw [← sg_turn (fun k => r.reverse.getD k 0 * w k)]
    refine sg_congr n fun k hk => ?_
    rw [rev_getD (h'.2 i r hi).1 (by omega), show n - 1 - (n - 1 - k) = k by omega]
  intro t ht
  have := v (n - 1 - t) (by omega)
  rw [show n - 1 - (n - 1 - t) = t by omega] at this
  exact this
theorem Reg.perm {n : Nat} {A B : List (List Rat)} (h : Reg n A) (p : ∀ r ∈ A, r ∈ B) : Reg n B := fun w hw => h w fun r hr => hw r (p r hr)
theorem ad_row {A : List (List Rat)} {i : Nat} {r : List Rat} (h : A[i]? = some r) (t : Nat) : ad A i t = r.getD t 0 := by
  have e : A.getD i [] = r := by
    rw [List.getD_eq_getElem?_getD, h]
    rfl
  unfold ad
  rw [e]
theorem Reg.yes {n : Nat} {A : List (List Rat)} {y : Nat → Rat} {b : Bool} {xs : List Rat} (h : Reg n A) (l : A.length = n) (a : Ans n (ad A) y b xs) : b = true := by
  cases b with
  | true => rfl
  | false =>
    obtain ⟨k, k1, k2, _, k4, _⟩ := a.2.2 rfl
    have := h (fun t => xs.getD t 0) (fun r hr => by
      obtain ⟨i, hi⟩ := List.mem_iff_getElem?.mp hr
      have li := (List.getElem?_eq_some_iff.mp hi).1
      exact Eq.trans (sg_congr n fun t _ => by rw [ad_row hi]) (k4 i (by omega))) k k1
    rw [k2] at this
    exact absurd this (by decide +kernel)
/-- a row is the sum of others -/
def Dep (n : Nat) (A : List (List Rat)) : Prop := ∃ p, p < n ∧ ∃ so : List (List Rat), (∀ r ∈ so, ∃ i, i < n ∧ i ≠ p ∧ A[i]? = some r) ∧ ∀ t, t < n → ad A p t = sumR (so.map fun r => r.getD t 0)
theorem sum_sg (x : Nat → Rat) (n : Nat) : ∀ so : List (List Rat), sg (fun t => sumR (so.map fun r => r.getD t 0) * x t) n = sumR (so.map fun r => sg (fun t => r.getD t 0 * x t) n)
  | [] => sg_zero n fun t _ => by
    show (0 : Rat) * x t = 0
    grind
  | r :: so => by
    show _ = sg (fun t => r.getD t 0 * x t) n + sumR (so.map fun r => sg (fun t => r.getD t 0 * x t) n)
    rw [← sum_sg x n so, ← sg_add]
    refine sg_congr n fun t _ => ?_
    show (r.getD t 0 + sumR (so.map fun r => r.getD t 0)) * x t = _
    grind
theorem sumR_zero : ∀ qs : List Rat, (∀ q ∈ qs, q = 0) → sumR qs = 0
  | [], _ => rfl
  | q :: qs, h => by
    show q + sumR qs = 0
    rw [h q List.mem_cons_self, sumR_zero qs fun x hx => h x (List.mem_cons_of_mem _ hx)]
    grind
theorem Dep.no {n : Nat} {A : List (List Rat)} {y : Nat → Rat} {b : Bool} {xs : List Rat} (h : Dep n A) (a : Ans n (ad A) y b xs) : b = false := by
  cases b with
  | false => rfl
  | true =>
    obtain ⟨p, hp, so, h1, h2⟩ := h
    obtain ⟨_, _, on⟩ := a.2.1 rfl
    obtain ⟨x, hx⟩ := on fun i => if i = p then 1 else 0
    have e := hx p hp
    rw [if_pos rfl] at e
    have e1 : sg (fun t => ad A p t * x t) n = sg (fun t => sumR (so.map fun r => r.getD t 0) * x t) n := sg_congr n fun t ht => by rw [h2 t ht]
    rw [e1, sum_sg, sumR_zero] at e
    · exact absurd e (by decide +kernel)
    · intro q hq
      obtain ⟨r, hr, rfl⟩ := List.mem_map.mp hq
      obtain ⟨i, hi, ne, ei⟩ := h1 r hr
      have := hx i hi
      rw [if_neg ne] at this
      exact Eq.trans (sg_congr n fun t _ => by rw [ad_row ei]) this
/-! ### sizes of the law's matrices -/
def dB (kd : Int) : Nat := if kd = 0 then 144 else 2 ^ 480
def mB (kd : Int) : Nat := if kd = 0 then 1000 else 2 ^ 64
def m0 (kd : Int) : Nat := if kd = 0 then 1728000 else 2 ^ 574
def MB (kd : Int) (A : List (List Rat)) : Prop := ∃ D : Int, D ≠ 0 ∧ D.natAbs ≤ dB kd ∧ EnL D (mB kd) A
def NK (kd : Int) (n : Nat) : Prop := n ≤ 10 ∧ (kd ≠ 0 → n ≤ 4)
theorem MB.sc {kd : Int} {A : List (List Rat)} (h : MB kd A) : ∃ D : Int, D ≠ 0 ∧ D.natAbs < 2 ^ 590 ∧ ∀ r ∈ A, ∀ q ∈ r, Sc D (2 ^ 599) q := by
  obtain ⟨D, D0, Db, Em⟩ := h
  have b1 : dB kd ≤ 2 ^ 480 := by unfold dB; split <;> decide +kernel
  have b2 : mB kd ≤ 2 ^ 64 := by unfold mB; split <;> decide +kernel
  refine ⟨D, D0, Nat.lt_of_le_of_lt (Nat.le_trans Db b1) (by decide +kernel), fun r hr q hq => Sc.mono (Em r hr q hq) ?_⟩
  exact Nat.le_trans (Nat.mul_le_mul b2 (Nat.le_trans Db b1)) (by decide +kernel)
theorem good_of {kd : Int} {A : List (List Rat)} {ys : List Rat} (sq : Sq A) (nk : NK kd A.length) (mb : MB kd A) (ly : ys.length = A.length) (hy : ∀ y ∈ ys, Pl kd y) : Good (aug A ys) := by
  have la := aug_len A ys ly.symm
  have row : ∀ s ∈ aug A ys, s.length = A.length + 1 ∧ ∃ D : Int, D ≠ 0 ∧ mB kd * D.natAbs ≤ m0 kd ∧ D.natAbs < 2 ^ 2000 ∧ ∀ q ∈ s, SM D (mB kd) q := fun s hs => by
    obtain ⟨i, hi⟩ := List.mem_iff_getElem?.mp hs
    have li := (List.getElem?_eq_some_iff.mp hi).1
    rw [la] at li
    have e1 : A[i]? = some A[i] := List.getElem?_eq_getElem li
    have e2 : ys[i]? = some (ys[i]'(by omega)) := List.getElem?_eq_getElem _
    rw [aug_at A ys i _ _ e1 e2] at hi
    cases hi
    have mr := List.getElem_mem li
    refine ⟨by rw [List.length_append, sq.2 _ mr]; rfl, ?_⟩
    obtain ⟨D, D0, Db, Em⟩ := mb
    have dn : Dn kd 16 D → ∃ D', Dn kd 17 D' ∧ (∀ M x, SM D M x → SM D' M x) ∧ SM D' (mP kd) ys[i] := fun h => h.more (hy _ (List.getElem_mem _))
    have mp : mP kd ≤ mB kd := by unfold mP mB; split <;> decide +kernel
    by_cases c : kd = 0
    · have py := (hy (ys[i]'(by omega)) (List.getElem_mem _)).1 c
      have mbe : mB kd = 1000 := if_pos c
      have dbe : dB kd = 144 := if_pos c
      have m0e : m0 kd = 1728000 := if_pos c
      refine ⟨D * 12, Int.mul_ne_zero D0 (by decide), ?_, ?_, fun q hq => ?_⟩
      · rw [mbe, m0e, Int.natAbs_mul]
        rw [dbe] at Db
        show 1000 * (D.natAbs * 12) ≤ 1728000
        omega
      · rw [dbe] at Db
        rw [Int.natAbs_mul]
        exact Nat.lt_of_le_of_lt (show D.natAbs * 12 ≤ 2 ^ 11 by omega) (Nat.pow_lt_pow_right (by decide) (by decide))
      · rcases List.mem_append.mp hq with h | h
        · exact (Em _ mr q h).grow _
        · rw [List.mem_singleton.mp h, Int.mul_comm]
          exact (py.grow D).mono (by rw [mbe]; decide)
    · obtain ⟨p1, p2⟩ := (hy (ys[i]'(by omega)) (List.getElem_mem _)).2 c
      have mbe : mB kd = 2 ^ 64 := if_neg c
      have dbe : dB kd = 2 ^ 480 := if_neg c
      have m0e : m0 kd = 2 ^ 574 := if_neg c
      generalize ys[i] = y at *
      have d0 := den_ge y
      rw [dbe] at Db
      have dl : (D * (y.den : Int)).natAbs ≤ 2 ^ 480 * 2 ^ 30 := by
        rw [Int.natAbs_mul, Int.natAbs_natCast]
        exact Nat.mul_le_mul Db (Nat.le_trans p2 (by decide))
      refine ⟨D * (y.den : Int), Int.mul_ne_zero D0 (by omega), ?_, Nat.lt_of_le_of_lt dl (by decide +kernel), fun q hq => ?_⟩
      · rw [mbe, m0e]
        exact Nat.le_trans (Nat.mul_le_mul_left _ dl) (by decide +kernel)
      · rcases List.mem_append.mp hq with h | h
        · exact (Em _ mr q h).grow _
        · rw [List.mem_singleton.mp h, Int.mul_comm]
          have s : SM (y.den : Int) (2 ^ 30) y := ⟨y.num, q_eq y, by
            rw [Int.natAbs_natCast]
            exact Nat.le_trans (Nat.le_trans p1 (by decide)) (Nat.le_mul_of_pos_right _ (by omega))⟩
          exact (s.grow D).mono (by rw [mbe]; decide +kernel)
  have m0b : m0 kd ≤ 2 ^ 574 := by unfold m0; split <;> decide +kernel
  have btm : ∀ s ∈ aug A ys, ∃ D : Int, Btm D (s.map pr) ∧ mB kd * D.natAbs ≤ m0 kd ∧ ∀ q ∈ s, SM D (mB kd) q := fun s hs => by
    obtain ⟨_, D, D0, Dm, Dl, hq⟩ := row s hs
    refine ⟨D, ⟨D0, Dl, fun p hp => ?_⟩, Dm, hq⟩
    obtain ⟨q, hq2, rfl⟩ := List.mem_map.mp hp
    refine ⟨den_ge q, Sc.den (hq q hq2), ?_⟩
    exact Nat.lt_of_le_of_lt (Nat.le_trans (Sc.num (hq q hq2) D0) (Nat.le_trans Dm m0b)) (Nat.pow_lt_pow_right (by decide) (by decide))
  refine ⟨fun s hs => let ⟨D, h, _⟩ := btm s hs; ⟨D, h⟩, fun s hs => by rw [la]; exact (row s hs).1, ?_⟩
  have lc : ((aug A ys).map clr).length = A.length := by rw [List.length_map, la]
  refine ⟨by rw [lc]; exact nk.1, by rw [lc, la], fun r hr => ?_, m0 kd, ?_, fun i j => ?_, ?_⟩
  · obtain ⟨s, hs, rfl⟩ := List.mem_map.mp hr
    unfold clr tops
    rw [List.length_map, List.length_map, la]
    exact (row s hs).1
  · unfold m0
    split <;> decide +kernel
  · have zero : ∀ {n : Nat}, (0 : Int).natAbs ≤ n := Nat.zero_le _
    unfold en
    rw [List.getD_eq_getElem?_getD (l := (aug A ys).map clr), List.getElem?_map]
    cases hs : (aug A ys)[i]? with
    | none => exact zero
    | some s =>
      have ms := List.mem_of_getElem? hs
      obtain ⟨D, bt, Dm, hq⟩ := btm s ms
      obtain ⟨c0, cd, dv⟩ := bt.com
      show ((clr s).getD j 0).natAbs ≤ _
      unfold clr tops
      rw [List.getD_eq_getElem?_getD, List.getElem?_map, List.getElem?_map]
      cases hj : s[j]? with
      | none => exact zero
      | some q =>
        have mq := List.mem_of_getElem? hj
        have v := (hq q mq).val bt.1
        have d9 := dv (pr q) (List.mem_map_of_mem mq)
        show (q.num * (com ((s.map pr).map (·.2)) / (q.den : Int))).natAbs ≤ m0 kd
        generalize com ((s.map pr).map (·.2)) = c at *
        have d0 := den_ge q
        obtain ⟨e, rfl⟩ : (q.den : Int) ∣ c := d9
        rw [Int.mul_ediv_cancel_left _ (by omega), Int.natAbs_mul]
        have cl := Nat.le_of_dvd (Int.natAbs_pos.mpr bt.1) (Int.natAbs_dvd_natAbs.mpr cd)
        rw [Int.natAbs_mul, Int.natAbs_natCast] at cl
        refine Nat.le_trans (Nat.mul_le_mul_right _ v) (Nat.le_trans ?_ Dm)
        rw [Nat.mul_assoc]
        exact Nat.mul_le_mul_left _ cl
  · rw [lc]
    by_cases c : kd = 0
    · rw [show m0 kd = 1728000 from if_pos c]
      refine Nat.lt_of_le_of_lt (Nat.mul_le_mul (show A.length + 1 ≤ 11 by have := nk.1; omega) (Nat.mul_le_mul (fac_mono (show A.length + 1 ≤ 11 by have := nk.1; omega)) (Nat.pow_le_pow_right (by decide) (show A.length + 1 ≤ 11 by have := nk.1; omega)))) (by decide +kernel)
    · rw [show m0 kd = 2 ^ 574 from if_neg c]
      refine Nat.lt_of_le_of_lt (Nat.mul_le_mul (show A.length + 1 ≤ 5 by have := nk.2 c; omega) (Nat.mul_le_mul (fac_mono (show A.length + 1 ≤ 5 by have := nk.2 c; omega)) (Nat.pow_le_pow_right (Nat.pow_pos (by decide)) (show A.length + 1 ≤ 5 by have := nk.2 c; omega)))) (by decide +kernel)

end E1

namespace E1
open PySem PySem.Spec PyProof.Rows L2
theorem FrL.nw {H : Hp} {a w : Addr} {qs : List Rat} {c : Int} (h : FrL H a qs) (hw : WellAt H w c) : a ≠ w := fun e => by
  obtain ⟨vs, h1, h2⟩ := h
  obtain ⟨x, y, z, h3, _⟩ := hw
  rw [e, h3] at h1
  cases h1
  cases hq : qs with
  | nil => rw [hq] at h2; cases h2
  | cons q qs' => rw [hq] at h2; cases h2

theorem SeL.well {H H' : Hp} {w : Addr} {c : Int} {vs : List V} {ss : List (List Rat)} (h : SeL H vs ss) (s : SameBut w H H') (hw : WellAt H w c) : SeL H' vs ss := ⟨h.1, fun i r e => let ⟨b, e1, f⟩ := h.2 i r e; ⟨b, e1, f.well s hw (f.nw hw)⟩⟩
theorem SeL.nw {H : Hp} {w a : Addr} {c : Int} {vs : List V} {ss : List (List Rat)} (h : SeL H vs ss) (ha : H a = some (.lst vs)) (hw : WellAt H w c) : a ≠ w := fun e => by
  obtain ⟨x, y, z, h3, _⟩ := hw
  rw [e, h3] at ha
  cases ha
  obtain ⟨b, s, e1, _⟩ := h.get (i := 0) rfl
  cases e1
theorem FrsAt.rev {H : Hp} : ∀ {qs : List Rat} {vs : List V}, FrsAt H vs qs → FrsAt H vs.reverse qs.reverse
  | [], vs, h => by
    cases h
    exact .nil
  | q :: qs, vs, h => by
    cases h with
    | cons e r =>
      rw [List.reverse_cons, List.reverse_cons]
      exact FrsAt.app (FrsAt.rev r) (FrsAt.one e)
theorem FrsAt.rep {H : Hp} {p : Addr} {q : Rat} (f : Fr H p q) : ∀ n, FrsAt H (List.replicate n (.ref p)) (List.replicate n q)
  | 0 => .nil
  | n + 1 => FrsAt.app (FrsAt.one f) (FrsAt.rep f n)
def tri : Nat → Nat
  | 0 => 0
  | i + 1 => tri i + i
def bM (kd : Int) : Nat := if kd = 0 then 90 else 2 ^ 62
def MBb (kd : Int) (A : List (List Rat)) : Prop := ∃ D : Int, D ≠ 0 ∧ D.natAbs ≤ dB kd ∧ EnL D (bM kd) A
def Low (n : Nat) (kd : Int) (L : List (List Rat)) : Prop := UL n L ∧ ∃ D, Dn kd (tri n) D ∧ EnL D (mP kd) L
def spLower : Sp := fun vs H Q _ => ∃ (w : Addr) (c kd : Int) (n : Nat), vs = [.ref w, .int (n : Nat), .int kd] ∧ WellAt H w c ∧ c ≤ 10000 ∧ n ≤ 10 ∧ ∀ p us L H', H p = none → SameBut w H H' → WellAt H' w (c + 200) → H' p = some (.lst us) → SeL H' us L → Low n kd L → Q (.ref p) H'
def spBuilt : Sp := fun vs H Q _ => ∃ (w : Addr) (c kd : Int) (n : Nat), vs = [.ref w, .int (n : Nat), .int kd] ∧ WellAt H w c ∧ c ≤ 1000 ∧ NK kd n ∧ ∀ p us A H', H p = none → SameBut w H H' → WellAt H' w (c + 500) → H' p = some (.lst us) → SeL H' us A → Sq A → A.length = n → MBb kd A → Reg n A → Q (.ref p) H'
def spFlat : Sp := fun vs H Q _ => ∃ (w a : Addr) (c kd : Int) (ws : List V) (A : List (List Rat)), vs = [.ref w, .ref a] ∧ WellAt H w c ∧ c ≤ 10000 ∧ H a = some (.lst ws) ∧ SeL H ws A ∧ Sq A ∧ 0 < A.length ∧ NK kd A.length ∧ MBb kd A ∧ ∀ p us B H', H p = none → SameBut w H H' → WellAt H' w (c + 2) → H' p = some (.lst us) → SeL H' us B → Sq B → B.length = A.length → MB kd B → Dep A.length B → Q (.ref p) H'
theorem SeL.erase {H : Hp} {vs : List V} {ss : List (List Rat)} (h : SeL H vs ss) (k : Nat) : SeL H (vs.eraseIdx k) (ss.eraseIdx k) := by
  rw [List.eraseIdx_eq_take_drop_succ, List.eraseIdx_eq_take_drop_succ]
  exact (h.take k).app (h.drop (k + 1))
theorem mem_erase {α : Type} {xs : List α} {k : Nat} {y r : α} (h : xs[k]? = some y) (hr : r ∈ xs) : r = y ∨ r ∈ xs.eraseIdx k := by
  obtain ⟨lt, e⟩ := List.getElem?_eq_some_iff.mp h
  have d := List.drop_eq_getElem_cons lt
  rw [← List.take_append_drop k xs, d, e] at hr
  rw [List.eraseIdx_eq_take_drop_succ]
  rcases List.mem_append.mp hr with h | h
  · exact .inr (List.mem_append.mpr (.inl h))
  · rcases List.mem_cons.mp h with h | h
    · exact .inl h
    · exact .inr (List.mem_append.mpr (.inr h))
theorem small9000 {m : Int} (h0 : 0 ≤ m) (h : m ≤ 1000) : m.natAbs < 2 ^ 9000 := Nat.lt_of_lt_of_le (show m.natAbs < 2 ^ 10 by omega) (Nat.pow_le_pow_right (by decide) (by decide))
theorem one_fr {H : Hp} {p : Addr} (h : H p = some (.tup [.int 1, .int 1])) : Fr H p 1 := by
  show H p = _
  rw [h]
  rfl
theorem nul_fr {H : Hp} {p : Addr} (h : H p = some (.tup [.int 0, .int 1])) : Fr H p 0 := by
  show H p = _
  rw [h]
  rfl
section
variable {P : Program} {w : World} {K : PySem.W.Frag} {mg : Str → Option Value} {base : Heap}
theorem sc__law_lower : FnScope ["_law_well_here", "_law_many", "_law_kind", "_law_rows", "_law_i", "_law_j"] ["_law_well_here", "_law_many", "_law_kind"] (defScope s__law_lower) := ⟨rfl, rfl, rfl, by decide +kernel, rfl, by decide +kernel, by decide +kernel⟩
theorem ok__law_lower {f : Addr} {fd : FuncData} (F : Fun K "_law_lower" "_law_lower" s__law_lower f fd) (z : Zs mg) (c__law_place : Cal P w K mg base 2 "_law_place" ["_law_well_here", "_law_kind"] spPlace) : FnOk P w K mg base CX0 3 f fd ["_law_well_here", "_law_many", "_law_kind"] spLower := by
  refine F.ok sc__law_lower (fun vs H Q E h => ?_) (fun cdv A outer s H vs Q E hr h => ?_)
  · obtain ⟨ww, c, kd, n, rfl, _⟩ := h
    rfl
  · obtain ⟨ww, c, kd, n, rfl, hw, hc, n10, k⟩ := h
    refine ⟨_, (pss_cons (ps_set (i := 3) sc__law_lower.nd rfl (.inl rfl) (pe_lst pa_nil))
      (pss_cons (ps_for PassesOwn.never rfl (pi_range1 (by rfl) z.range (pa_cons (pv 1) pa_nil)) (pg_name (i := 4) sc__law_lower.nd rfl (.inl rfl)) (pss_one (ps_expr (pe_bm PySem.F.plainAttrs_list PySem.F.slot_list_append PySem.F.type_list_append mt_append (pv 3) (pa_cons (pe_op op_cat (pe_op op_cat (pe_lc (own := [("_law_j", 5)]) (g := gName 5) (tt := tYes) (te := (tCall spPlace [] E0 (tCons (tVar 0) (tCons (tVar 2) tNil)))) (by rfl) sc__law_lower.nd (pi_range1 (by rfl) z.range (pa_cons (pv 4) pa_nil)) (blkOk_by (own := [("_law_j", 5)]) (N := ["_law_well_here", "_law_many", "_law_kind", "_law_rows", "_law_i", "_law_j"]) (sc := defScope s__law_lower) (by decide +kernel)) (fun _ _ _ _ _ => by exact (pg_name (i := 5) sc__law_lower.nd rfl (.inl rfl))) (fun _ _ _ _ _ => by exact pts_nil) (fun _ _ _ _ _ => by exact (pe_cal c__law_place hr (pa_cons (pv 0) (pa_cons (pv 2) pa_nil))))) (pe_lst (pa_cons (pe_tup (pa_cons pe_int (pa_cons pe_int pa_nil))) pa_nil))) (pe_op op_rep (pe_lst (pa_cons (pe_tup (pa_cons pe_int (pa_cons pe_int pa_nil))) pa_nil)) (pe_op op_sub (pe_op op_sub (pv 1) pe_int) (pv 4)))) pa_nil)))))
      (pss_one (ps_ret (pv 3))))), ?_⟩
    refine ⟨(by show 0 ≤ sizeLine; decide), fun R hR => ?_⟩
    have nR := hw.ne hR
    have sR := same_new (o := .lst []) hR
    obtain ⟨D00, dn00⟩ := Dn.start kd
    refine ⟨_, rfl, n, rfl, by omega, by omega, for_range (lo := 0) (n := n) (fun i σ G => SameBut ww H G ∧ WellAt G ww (c + 20 * (i : Int)) ∧ ∃ (us : List V) (L : List (List Rat)) (y4 y5 : Option V), σ = [some (.ref ww), some (.int (n : Nat)), some (.int kd), some (.ref R), y4, y5] ∧ G R = some (.lst us) ∧ (∀ v ∈ us, v ≠ .ref R) ∧ SeL G us L ∧ L.length = i ∧ (∀ (j : Nat) (r : List Rat), L[j]? = some r → r.length = n ∧ r.getD j 0 = 1 ∧ ∀ t, j < t → r.getD t 0 = 0) ∧ ∃ D, Dn kd (tri i) D ∧ EnL D (mP kd) L) ⟨SameBut.of sR, (hw.same sR).mono (by omega), [], [], none, none, rfl, upd_same, (fun v hv => absurd hv List.not_mem_nil), ⟨rfl, fun i r e => by cases e⟩, rfl, (fun j r e => by cases e), D00, dn00, fun r hr => absurd hr List.not_mem_nil⟩ (fun i σ G hi hP => ?_) (fun σ G hP => ?_)⟩
    · obtain ⟨b1, w1, us, L, y4, y5, rfl, eus, nus, sL, lL, rows, D1, dn1, en1⟩ := hP
      rw [Int.zero_add]
      refine ⟨_, rfl, .inl ⟨rfl, _, SqL.of eus⟩, ?_⟩
      refine ⟨_, rfl, i, rfl, by omega, by omega, fun P hP => ?_⟩
      rw [Int.toNat_natCast]
      have nP := w1.ne hP
      refine lc_range (lo := 0) (n := i) (fun j X => SameBut ww G X ∧ WellAt X ww (c + 20 * (i : Int) + 2 * (j : Int)) ∧ ∃ vs qs, X P = some (.lst vs) ∧ FrsAt X vs qs ∧ qs.length = j ∧ ∃ D, Dn kd (tri i + j) D ∧ (∀ M x, SM D1 M x → SM D M x) ∧ ∀ q ∈ qs, SM D (mP kd) q) ⟨SameBut.of (same_new hP), (w1.same (same_new hP)).mono (by omega), [], [], upd_same, .nil, rfl, D1, dn1, (fun M x h => h), fun q h => absurd h List.not_mem_nil⟩ (fun j X hj hP3 => ?_) (fun X hP3 => ?_)
      · obtain ⟨bX, wX, vs, qs, eX, fX, lq, D, dn, gr, sq⟩ := hP3
        have lv := FrsAt.len fX
        refine ⟨rfl, _, rfl, _, rfl, ww, _, kd, rfl, wX, by omega, fun p q Y hp dY wY fY pl => ?_⟩
        obtain ⟨D', dn', gr', sq'⟩ := dn.more pl
        have eY := dY _ _ nP eX
        have np : p ≠ P := fun e => by
          rw [e, eX] at hp
          cases hp
        refine ⟨_, eY, small1000 (by omega), fun b o nb e => ?_, ?_, vs ++ [.ref p], qs ++ [q], upd_same, ?_, by rw [List.length_append, lq]; rfl, D', dn', fun M x h => gr' M x (gr M x h), fun x hx => ?_⟩
        · rw [upd_ne (ne_of_none e hP)]
          exact dY _ _ nb (bX _ _ nb e)
        · obtain ⟨x, y, zz, e, e1, e2, e3, e4⟩ := wY
          exact ⟨x, y, zz, by rw [upd_ne (Ne.symm nP)]; exact e, e1, e2, e3, by omega⟩
        · refine FrsAt.app (PrsAt.but (PrsAt.well fX dY wX) SameBut.upd eY) (FrsAt.one ?_)
          show (upd Y P _) p = _
          rw [upd_ne np]
          exact fY
        · rcases List.mem_append.mp hx with hx | hx
          · exact gr' _ _ (sq x hx)
          · rw [List.mem_singleton.mp hx]
            exact sq'
      · obtain ⟨bX, wX, vs, qs, eX, fX, lq, D, dn, gr, sq⟩ := hP3
        have lv := FrsAt.len fX
        refine ⟨(by show 2 ≤ sizeLine; decide), fun t1 ht1 => ⟨(by show 1 ≤ sizeLine; decide), fun l1 hl1 => ?_⟩⟩
        have s1 := same_new (o := .tup [.int 1, .int 1]) ht1
        have s2 := same_new (o := .lst [.ref t1]) hl1
        refine ⟨P, l1, vs, _, rfl, rfl, s2 _ _ (s1 _ _ eX), upd_same, Nat.le_of_lt (small1000 (show vs.length + 1 ≤ 1000 by omega)), fun l2 hl2 => ?_⟩
        have s3 := same_new (o := .lst (vs ++ [.ref t1])) hl2
        refine ⟨(by show 2 ≤ sizeLine; decide), fun t0 ht0 => ⟨(by show 1 ≤ sizeLine; decide), fun l3 hl3 => ?_⟩⟩
        have s4 := same_new (o := .tup [.int 0, .int 1]) ht0
        have s5 := same_new (o := .lst [.ref t0]) hl3
        refine ⟨_, rfl, _, _, rfl, rfl, _, rfl, _, _, rfl, rfl, l3, ((n - 1 - i : Nat) : Int), [.ref t0], rfl, ?_, upd_same, by omega, by omega, Nat.le_trans (show 1 * ((n - 1 - i : Nat) : Int).toNat ≤ 1000 by omega) (by decide), fun l4 hl4 => ?_⟩
        · show V.int (((n : Nat) : Int) - 1 - ((i : Nat) : Int)) = _
          rw [show ((n : Nat) : Int) - 1 - ((i : Nat) : Int) = ((n - 1 - i : Nat) : Int) by omega]
        have eL9 : (List.replicate ((n - 1 - i : Nat) : Int).toNat [V.ref t0]).flatten = List.replicate (n - 1 - i) (V.ref t0) := by
          rw [Int.toNat_natCast]
          generalize n - 1 - i = n
          induction n with
          | zero => rfl
          | succ n ih => rw [List.replicate_succ, List.flatten_cons, ih]; rfl
        rw [eL9]
        have s6 := same_new (o := .lst (List.replicate (n - 1 - i) (V.ref t0))) hl4
        refine ⟨l2, l4, _, _, rfl, rfl, s6 _ _ (s5 _ _ (s4 _ _ upd_same)), upd_same, ?_, fun l5 hl5 => ?_⟩
        · rw [List.length_append, List.length_replicate]
          exact Nat.le_of_lt (small1000 (show vs.length + 1 + (n - 1 - i) ≤ 1000 by omega))
        have s7 := same_new (o := .lst (vs ++ [.ref t1] ++ List.replicate (n - 1 - i) (V.ref t0))) hl5
        have F1 := s6.trans s7
        have F2 := (s4.trans s5).trans F1
        have F3 := (s2.trans s3).trans F2
        have FF := s1.trans F3
        have f1 : Fr _ t1 1 := one_fr (F3 _ _ upd_same)
        have f0 : Fr _ t0 0 := nul_fr (s7 _ _ (s6 _ _ (s5 _ _ upd_same)))
        have fr9 : FrL _ l5 (qs ++ [1] ++ List.replicate (n - 1 - i) 0) := ⟨_, upd_same, FrsAt.app (FrsAt.app (PrsAt.same fX FF) (FrsAt.one f1)) (FrsAt.rep f0 _)⟩
        have B9 := bX.trans (SameBut.of FF)
        have W9 := wX.same FF
        have eR9 := B9 _ _ nR eus
        have nl5 : l5 ≠ R := fun e => by
          rw [e] at hl5
          rw [s6 _ _ (s5 _ _ (s4 _ _ (s3 _ _ (s2 _ _ (s1 _ _ (bX _ _ nR eus))))))] at hl5
          cases hl5
        have lr : (qs ++ [1] ++ List.replicate (n - 1 - i) 0).length = n := by
          rw [List.length_append, List.length_append, List.length_replicate, lq]
          show i + 1 + (n - 1 - i) = n
          omega
        have rowi : (qs ++ [1] ++ List.replicate (n - 1 - i) 0).getD i 0 = 1 ∧ ∀ t, i < t → (qs ++ [1] ++ List.replicate (n - 1 - i) 0).getD t 0 = 0 := by
          refine ⟨?_, fun t ht => ?_⟩
          · rw [List.append_assoc, List.getD_eq_getElem?_getD, List.getElem?_append_right (by omega), lq, Nat.sub_self]
            rfl
          · rw [List.getD_eq_getElem?_getD, List.getElem?_append_right (by rw [List.length_append, lq]; exact ht), List.getElem?_replicate]
            split <;> rfl
        refine ⟨R, us, _, rfl, rfl, eR9, small1000 (by have := sL.1; omega), fun b o nb e => ?_, ?_, us ++ [.ref l5], L ++ [qs ++ [1] ++ List.replicate (n - 1 - i) 0], _, _, rfl, upd_same, fun v hv => ?_, ?_, by rw [List.length_append, lL]; rfl, fun j r e => ?_, D, dn, fun r hr q hq => ?_⟩
        · rw [upd_ne (ne_of_none e hR)]
          exact B9 _ _ nb (b1 _ _ nb e)
        · obtain ⟨x, y, zz, e, e1, e2, e3, e4⟩ := W9
          exact ⟨x, y, zz, by rw [upd_ne (Ne.symm nR)]; exact e, e1, e2, e3, by omega⟩
        · rcases List.mem_append.mp hv with h | h
          · exact nus v h
          · rw [List.mem_singleton.mp h]
            exact fun z => nl5 (V.ref.inj z)
        · exact SeL.app ((sL.well B9 w1).butN eR9 nus SameBut.upd) (SeL.one (fr9.but nl5 SameBut.upd eR9))
        · by_cases cj : j < L.length
          · rw [List.getElem?_append_left cj] at e
            exact rows j r e
          · have lj := (List.getElem?_eq_some_iff.mp e).1
            rw [List.length_append] at lj
            have ej : j = i := by
              have : j < L.length + 1 := lj
              omega
            subst ej
            rw [List.getElem?_append_right (by omega), lL, Nat.sub_self] at e
            cases e
            exact ⟨lr, rowi.1, rowi.2⟩
        · rcases List.mem_append.mp hr with h | h
          · exact gr _ _ (en1 r h q hq)
          · rw [List.mem_singleton.mp h] at hq
            have m1 : 1 ≤ mP kd := by unfold mP; split <;> decide +kernel
            rcases List.mem_append.mp hq with h | h
            · rcases List.mem_append.mp h with h | h
              · exact sq q h
              · rw [List.mem_singleton.mp h]
                exact sm_one m1
            · rw [(List.mem_replicate.mp h).2]
              exact SM.zero
    · obtain ⟨b1, w1, us, L, y4, y5, rfl, eus, nus, sL, lL, rows, D1, dn1, en1⟩ := hP
      exact ⟨_, rfl, k R us L G hR b1 (w1.mono (by omega)) eus sL ⟨⟨lL, rows⟩, D1, dn1, en1⟩⟩
theorem sc__law_built : FnScope ["_law_well_here", "_law_many", "_law_kind", "_law_lower_here", "_law_upper", "_law_rows", "_law_row", "_law_k", "_law_line"] ["_law_well_here", "_law_many", "_law_kind"] (defScope s__law_built) := ⟨rfl, rfl, rfl, by decide +kernel, rfl, by decide +kernel, by decide +kernel⟩
theorem ok__law_built {f : Addr} {fd : FuncData} (F : Fun K "_law_built" "_law_built" s__law_built f fd) (z : Zs mg) (c__law_draw : Cal P w K mg base 1 "_law_draw" ["_law_well_here", "_law_many"] spDraw) (c__law_dot : Cal P w K mg base 3 "_law_dot" ["_law_one_here", "_law_other"] (spLDot K)) (c__law_lower : Cal P w K mg base 3 "_law_lower" ["_law_well_here", "_law_many", "_law_kind"] spLower) : FnOk P w K mg base CX0 4 f fd ["_law_well_here", "_law_many", "_law_kind"] spBuilt := by
  refine F.ok sc__law_built (fun vs H Q E h => ?_) (fun cdv A outer s H vs Q E hr h => ?_)
  · obtain ⟨ww, c, kd, n, rfl, _⟩ := h
    rfl
  · obtain ⟨ww, c, kd, n, rfl, hw, hc, nk, k⟩ := h
    refine ⟨_, (pss_cons (ps_set (i := 3) sc__law_built.nd rfl (.inl rfl) (pe_cal c__law_lower hr (pa_cons (pv 0) (pa_cons (pv 1) (pa_cons (pv 2) pa_nil)))))
      (pss_cons (ps_set (i := 4) sc__law_built.nd rfl (.inr rfl) (pe_revL (pe_lc (own := [("_law_row", 6)]) (g := gName 6) (tt := tYes) (te := (tRevL K (tVar 6))) (by rfl) sc__law_built.nd (pi_list (pe_cal c__law_lower hr (pa_cons (pv 0) (pa_cons (pv 1) (pa_cons (pv 2) pa_nil))))) (blkOk_by (own := [("_law_row", 6)]) (N := ["_law_well_here", "_law_many", "_law_kind", "_law_lower_here", "_law_upper", "_law_rows", "_law_row", "_law_k", "_law_line"]) (sc := defScope s__law_built) (by decide +kernel)) (fun _ _ _ _ _ => by exact (pg_name (i := 6) sc__law_built.nd rfl (.inl rfl))) (fun _ _ _ _ _ => by exact pts_nil) (fun _ _ _ _ _ => by exact (pe_revL (pv 6))))))
      (pss_cons (ps_set (i := 5) sc__law_built.nd rfl (.inr rfl) (pe_lc (own := [("_law_row", 6)]) (g := gName 6) (tt := tYes) (te := (tLc (iRng1 (tCons (tVar 1) tNil)) (gName 7) tYes (tCall (spLDot K) [] E0 (tCons (tVar 6) (tCons (tLc (iList K (tVar 4)) (gName 8) tYes (tOp (rIxL K) (tVar 8) (tVar 7)) (([("_law_line", 8)] : List (Str × Nat)).map (·.2))) tNil))) (([("_law_k", 7)] : List (Str × Nat)).map (·.2)))) (by rfl) sc__law_built.nd (pi_list (pv 3)) (blkOk_by (own := [("_law_row", 6)]) (N := ["_law_well_here", "_law_many", "_law_kind", "_law_lower_here", "_law_upper", "_law_rows", "_law_row", "_law_k", "_law_line"]) (sc := defScope s__law_built) (by decide +kernel)) (fun _ _ _ _ _ => by exact (pg_name (i := 6) sc__law_built.nd rfl (.inr rfl))) (fun _ _ _ _ _ => by exact pts_nil) (fun _ _ _ _ _ => by exact (@pe_lc _ _ _ _ _ _ _ _ _ _ _ _ (by rfl) sc__law_built.nd (pi_range1 (by rfl) z.range (pa_cons (pv 1) pa_nil)) (blkOk_by (own := [("_law_k", 7)]) (N := ["_law_well_here", "_law_many", "_law_kind", "_law_lower_here", "_law_upper", "_law_rows", "_law_row", "_law_k", "_law_line"]) (sc := ({ kind := PySem.ScopeKind.function, names := [(".0", .local), ("_law_row", .cell), ("range", .globalImplicit), ("_law_many", .cell), ("_law_upper", .cell)], isGenerator := false, isCoroutine := false, more := [] })) (by decide +kernel)) (fun _ _ _ _ _ => by exact (pg_name (i := 7) sc__law_built.nd rfl (.inr rfl))) (fun _ _ _ _ _ => by exact pts_nil) (fun _ _ _ _ _ => by exact (pe_cal c__law_dot hr (pa_cons (pv 6) (pa_cons (@pe_lc _ _ _ _ _ _ _ _ _ _ _ _ (by rfl) sc__law_built.nd (pi_list (pv 4)) (blkOk_by (own := [("_law_line", 8)]) (N := ["_law_well_here", "_law_many", "_law_kind", "_law_lower_here", "_law_upper", "_law_rows", "_law_row", "_law_k", "_law_line"]) (sc := ({ kind := PySem.ScopeKind.function, names := [(".0", .local), ("_law_k", .cell), ("_law_dot", .globalImplicit), ("_law_row", .cell), ("_law_upper", .cell)], isGenerator := false, isCoroutine := false, more := [] })) (by decide +kernel)) (fun _ _ _ _ _ => by exact (pg_name (i := 8) sc__law_built.nd rfl (.inl rfl))) (fun _ _ _ _ _ => by exact pts_nil) (fun _ _ _ _ _ => by exact (pe_ix ix_list (pv 8) (pv 7) (fun _ _ => rfl))) (by intro _; rfl)) pa_nil)))) (by intro _; rfl)))))
      (pss_one (ps_ret (pe_lc (own := [("_law_k", 7)]) (g := gName 7) (tt := tYes) (te := (tBM K "list" rPopAt (tVar 5) (tCons (tCall spDraw [] E0 (tCons (tVar 0) (tCons (tCB (fun xs H Q => ∃ p ys, xs = [V.ref p] ∧ (SqL K H p ys ∨ SqT K H p ys) ∧ Q (.int ys.length) H) (tCons (tVar 5) tNil)) tNil))) tNil))) (by rfl) sc__law_built.nd (pi_range1 (by rfl) z.range (pa_cons (pv 1) pa_nil)) (blkOk_by (own := [("_law_k", 7)]) (N := ["_law_well_here", "_law_many", "_law_kind", "_law_lower_here", "_law_upper", "_law_rows", "_law_row", "_law_k", "_law_line"]) (sc := defScope s__law_built) (by decide +kernel)) (fun _ _ _ _ _ => by exact (pg_name (i := 7) sc__law_built.nd rfl (.inl rfl))) (fun _ _ _ _ _ => by exact pts_nil) (fun _ _ _ _ _ => by exact (pe_bm PySem.F.plainAttrs_list PySem.F.slot_list_pop PySem.F.type_list_pop mt_popAt (pv 5) (pa_cons (pe_cal c__law_draw hr (pa_cons (pv 0) (pa_cons (pe_callB call_len_seq (by rfl) z.len PySem.boot_len (pa_cons (pv 5) pa_nil)) pa_nil))) pa_nil))))))))), ?_⟩
    have n10 := nk.1
    refine ⟨_, rfl, _, rfl, _, rfl, ww, c, kd, n, rfl, hw, by omega, n10, fun a1_ us1 L H1 hp1 d1 w1 ea1 sL1 low1 => ?_⟩
    refine ⟨_, rfl, _, rfl, _, rfl, ww, _, kd, n, rfl, w1, by omega, n10, fun a2_ us2 L' H2 hp2 d2 w2 ea2 sL2 low2 => ?_⟩
    have D12 := d1.trans d2
    obtain ⟨ul1, Da, dna, ena⟩ := low1
    obtain ⟨ul2, Db, dnb, enb⟩ := low2
    have n1 := sL1.nw ea1 w1
    have ea1' := d2 _ _ n1 ea1
    have sL1' := sL1.well d2 w1
    have lu2 := sL2.1
    refine ⟨a2_, rfl, ⟨_, SqL.of ea2⟩, fun P hP => lc_list (K := K) (a := a2_) (xs := us2) (fun i G => Same H2 G ∧ ∃ vs, G P = some (.lst vs) ∧ (∀ v ∈ vs, v ≠ .ref P) ∧ SeL G vs ((L'.take i).map List.reverse)) ⟨same_new hP, [], upd_same, (fun v hv => absurd hv List.not_mem_nil), ⟨rfl, fun i r e => by rw [List.take_zero] at e; cases e⟩⟩ (fun i G _ hQ => SqL.of (hQ.1 _ _ ea2)) (fun i x G hx hQ => ?_) (fun G hQ => ?_)⟩
    · obtain ⟨sG, vs, eP, nvs, sv⟩ := hQ
      obtain ⟨b, r, rfl, hr2, fb⟩ := sL2.get hx
      have li := (List.getElem?_eq_some_iff.mp hr2).1
      have l10 : L'.length ≤ 10 := by rw [ul2.1]; exact n10
      obtain ⟨rs9, hb, lb, fb2⟩ := (fb.same sG).len
      refine ⟨rfl, _, rfl, b, rs9, rfl, SqL.of hb, fun q hq => ?_⟩
      have s3 := same_new (o := .lst rs9.reverse) hq
      have nq : q ≠ P := fun e => by
        rw [e, eP] at hq
        cases hq
      have lv := sv.1
      rw [List.length_map, List.length_take] at lv
      refine ⟨_, s3 _ _ eP, small1000 (by omega), fun b o e => ?_, vs ++ [.ref q], upd_same, fun v hv => ?_, ?_⟩
      · rw [upd_ne (ne_of_none e hP)]
        exact s3 _ _ (sG _ _ e)
      · rcases List.mem_append.mp hv with h | h
        · exact nvs v h
        · rw [List.mem_singleton.mp h]
          exact fun z => nq (V.ref.inj z)
      · rw [show L'.take (i + 1) = L'.take i ++ [r] by rw [List.take_succ, hr2]; rfl, List.map_append]
        have fq : FrL (upd G q (.lst rs9.reverse)) q r.reverse := ⟨_, upd_same, PrsAt.same (FrsAt.rev fb2) s3⟩
        exact SeL.app ((sv.same s3).butN (s3 _ _ eP) nvs SameBut.upd) (SeL.one (fq.but nq SameBut.upd (s3 _ _ eP)))
    · obtain ⟨sG, vs, eP, nvs, sv⟩ := hQ
      rw [List.take_of_length_le (by omega)] at sv
      refine ⟨P, vs, rfl, SqL.of eP, fun U hU => ?_⟩
      have sU := same_new (o := .lst vs.reverse) hU
      have svU : SeL (upd G U (.lst vs.reverse)) vs.reverse (turnU L') := (sv.same sU).rev
      have eU : (upd G U (.lst vs.reverse)) U = some (.lst vs.reverse) := upd_same
      have SU := sG.trans sU
      generalize upd G U (.lst vs.reverse) = G5 at svU eU SU ⊢
      generalize vs.reverse = uv at svU eU ⊢
      have W5 := w2.same SU
      have B5 := D12.trans (SameBut.of SU)
      have ea5 := SU _ _ ea1'
      have sL5 := sL1'.same SU
      clear sU hU sG sv nvs eP
      have lU : (turnU L').length = n := by
        unfold turnU
        rw [List.length_reverse, List.length_map, ul2.1]
      have rowU : ∀ r ∈ turnU L', r.length = n ∧ ∀ q ∈ r, SM Db (mP kd) q := fun r hr => by
        unfold turnU at hr
        rw [List.mem_reverse] at hr
        obtain ⟨r2, h2, rfl⟩ := List.mem_map.mp hr
        obtain ⟨j, hj⟩ := List.mem_iff_getElem?.mp h2
        exact ⟨by rw [List.length_reverse]; exact (ul2.2 j r2 hj).1, fun q hq => enb r2 h2 q (List.mem_reverse.mp hq)⟩
      have bigD : ∀ {D : Int}, Dn kd (tri n) D → D.natAbs < 2 ^ 590 ∧ mP kd * D.natAbs ≤ 2 ^ 599 := fun {D} dn => by
        by_cases c : kd = 0
        · have : mP kd = 3 := if_pos c
          rw [this, dn.z c]
          decide +kernel
        · have e : mP kd = 2 ^ 30 := if_neg c
          have tr : tri n ≤ 6 := by
            have := nk.2 c
            rcases (by omega : n = 0 ∨ n = 1 ∨ n = 2 ∨ n = 3 ∨ n = 4) with rfl | rfl | rfl | rfl | rfl <;> decide
          have b := Nat.le_trans (dn.nz c) (Nat.pow_le_pow_right (show 0 < 2 by decide) (show 30 * tri n ≤ 180 by omega))
          rw [e]
          exact ⟨Nat.lt_of_le_of_lt b (by decide +kernel), Nat.le_trans (Nat.mul_le_mul_left _ b) (by decide +kernel)⟩
      refine ⟨_, rfl, a1_, rfl, ⟨_, SqL.of ea5⟩, fun R hR => lc_list (K := K) (a := a1_) (xs := us1) (fun i X => Same G5 X ∧ ∃ vs, X R = some (.lst vs) ∧ (∀ v ∈ vs, v ≠ .ref R) ∧ SeL X vs ((L.take i).map (rowM (turnU L') n))) ⟨same_new hR, [], upd_same, (fun v hv => absurd hv List.not_mem_nil), ⟨rfl, fun i r e => by rw [List.take_zero] at e; cases e⟩⟩ (fun i X _ hQ => SqL.of (hQ.1 _ _ ea5)) (fun i x X hx hQ => ?_) (fun X hQ => ?_)⟩
      · obtain ⟨sX, vs, eR, nvs, sv⟩ := hQ
        obtain ⟨b, r, rfl, hr2, fb⟩ := sL5.get hx
        have li := (List.getElem?_eq_some_iff.mp hr2).1
        have mr := List.mem_of_getElem? hr2
        have lr := (ul1.2 i r hr2).1
        refine ⟨rfl, ?_⟩
        refine ⟨_, rfl, n, rfl, by omega, by omega, fun P2 hP2 => ?_⟩
        rw [Int.toNat_natCast]
        refine lc_range (lo := 0) (n := n) (fun j Y => Same X Y ∧ FrL Y P2 ((List.range j).map fun t => dotR r ((turnU L').map fun l => l.getD t 0))) ⟨same_new hP2, [], upd_same, .nil⟩ (fun j Y hj hQ2 => ?_) (fun Y hQ2 => ?_)
        · obtain ⟨sY, ws, eP2, fw⟩ := hQ2
          rw [Int.zero_add]
          have SY := sX.trans sY
          refine ⟨rfl, _, rfl, _, rfl, U, rfl, ⟨_, SqL.of (SY _ _ eU)⟩, fun P3 hP3 => lc_list (K := K) (a := U) (xs := uv) (fun s Z => Same Y Z ∧ FrL Z P3 (((turnU L').take s).map fun l => l.getD j 0)) ⟨same_new hP3, [], upd_same, by rw [List.take_zero]; exact .nil⟩ (fun s Z _ hQ3 => SqL.of (hQ3.1 _ _ (SY _ _ eU))) (fun s x Z hx hQ3 => ?_) (fun Z hQ3 => ?_)⟩
          · obtain ⟨sZ, zs, eP3, fz⟩ := hQ3
            obtain ⟨b2, r2, rfl, hr3, fb2⟩ := svU.get hx
            have ls := (List.getElem?_eq_some_iff.mp hr3).1
            have wr2 := (rowU r2 (List.mem_of_getElem? hr3)).1
            obtain ⟨rs9, hb2, lb2, fb3⟩ := (fb2.same (SY.trans sZ)).len
            obtain ⟨p, e1, e2⟩ := FrsAt.at fb3 (List.getElem?_eq_getElem (show j < r2.length by omega))
            have lz := FrsAt.len fz
            rw [List.length_map, List.length_take] at lz
            refine ⟨rfl, _, rfl, _, rfl, b2, rs9, (j : Nat), .ref p, rfl, rfl, SqL.of hb2, atI_nat e1, ?_⟩
            refine ⟨_, eP3, small1000 (by omega), fun b o e => ?_, zs ++ [.ref p], upd_same, ?_⟩
            · rw [upd_ne (ne_of_none e hP3)]
              exact sZ _ _ e
            · rw [show (turnU L').take (s + 1) = (turnU L').take s ++ [r2] by rw [List.take_succ, hr3]; rfl, List.map_append]
              have eg : r2.getD j 0 = r2[j]'(by omega) := by rw [List.getD_eq_getElem?_getD, List.getElem?_eq_getElem (by omega)]; rfl
              refine FrsAt.app (PrsAt.but fz SameBut.upd eP3) (FrsAt.one ?_)
              show Fr _ p (r2.getD j 0)
              rw [eg]
              show (upd Z P3 _) p = _
              rw [upd_ne (ne_of e2 eP3 (fun z => nomatch z))]
              exact e2
          · obtain ⟨sZ, fz⟩ := hQ3
            rw [List.take_of_length_le (by have := svU.1; omega)] at fz
            have lw := FrsAt.len fw
            rw [List.length_map, List.length_range] at lw
            have SZ9 := SY.trans sZ
            have bd1 := bigD dna
            have bd2 := bigD dnb
            refine ⟨b, P3, r, _, Da, Db, rfl, fb.same SZ9, FrL.k fz, ⟨dna.ne, bd1.1, fun q hq => Sc.mono (ena r mr q hq) bd1.2⟩, ⟨dnb.ne, Nat.lt_trans bd2.1 (by decide +kernel), fun q hq => ?_⟩, by rw [List.length_map, lU, lr], by rw [List.length_map, lU]; exact n10, fun p Z2 hp s9 f9 => ?_⟩
            · obtain ⟨l, hl, rfl⟩ := List.mem_map.mp hq
              obtain ⟨wl, sl⟩ := rowU l hl
              have ml : l.getD j 0 ∈ l := by
                rw [List.getD_eq_getElem?_getD, List.getElem?_eq_getElem (by omega)]
                exact List.getElem_mem _
              exact Sc.mono (sl _ ml) (Nat.le_trans bd2.2 (by decide +kernel))
            · have eP9 := s9 _ _ (sZ _ _ eP2)
              refine ⟨_, eP9, small1000 (by omega), fun b o e => ?_, ws ++ [.ref p], upd_same, ?_⟩
              · rw [upd_ne (ne_of_none e hP2)]
                exact s9 _ _ (sZ _ _ (sY _ _ e))
              · rw [List.range_succ, List.map_append]
                refine FrsAt.app (PrsAt.but (PrsAt.same (PrsAt.same fw sZ) s9) SameBut.upd eP9) (FrsAt.one ?_)
                show (upd Z2 P2 _) p = _
                rw [upd_ne (ne_of f9 eP9 (fun z => nomatch z))]
                exact f9
        · obtain ⟨sY, fP2⟩ := hQ2
          have lv := sv.1
          rw [List.length_map, List.length_take] at lv
          have eRY := sY _ _ eR
          have nP2 : P2 ≠ R := fun e => by
            rw [e, eR] at hP2
            cases hP2
          refine ⟨_, eRY, small1000 (by have := ul1.1; omega), fun b o e => ?_, vs ++ [.ref P2], upd_same, fun v hv => ?_, ?_⟩
          · rw [upd_ne (ne_of_none e hR)]
            exact sY _ _ (sX _ _ e)
          · rcases List.mem_append.mp hv with h | h
            · exact nvs v h
            · rw [List.mem_singleton.mp h]
              exact fun z => nP2 (V.ref.inj z)
          · rw [show L.take (i + 1) = L.take i ++ [r] by rw [List.take_succ, hr2]; rfl, List.map_append]
            exact SeL.app ((sv.same sY).butN eRY nvs SameBut.upd) (SeL.one (fP2.but nP2 SameBut.upd eRY))
      · obtain ⟨sX, vs, eR, nvs, sv⟩ := hQ
        rw [List.take_of_length_le (by have := sL5.1; omega)] at sv
        have lM : (L.map (rowM (turnU L') n)).length = n := by rw [List.length_map, ul1.1]
        have reg := built_reg ul1 ul2
        have mbb : ∃ D : Int, D ≠ 0 ∧ D.natAbs ≤ dB kd ∧ ∀ r ∈ L.map (rowM (turnU L') n), r.length = n ∧ ∀ q ∈ r, SM D (bM kd) q := by
          refine ⟨Da * Db, Int.mul_ne_zero dna.ne dnb.ne, ?_, fun r hr => ?_⟩
          · rw [Int.natAbs_mul]
            unfold dB
            by_cases c : kd = 0
            · rw [if_pos c, dna.z c, dnb.z c]
              decide
            · rw [if_neg c]
              have tr : tri n ≤ 6 := by
                have := nk.2 c
                rcases (by omega : n = 0 ∨ n = 1 ∨ n = 2 ∨ n = 3 ∨ n = 4) with rfl | rfl | rfl | rfl | rfl <;> decide
              have b1 := Nat.le_trans (dna.nz c) (Nat.pow_le_pow_right (show 0 < 2 by decide) (show 30 * tri n ≤ 180 by omega))
              have b2 := Nat.le_trans (dnb.nz c) (Nat.pow_le_pow_right (show 0 < 2 by decide) (show 30 * tri n ≤ 180 by omega))
              exact Nat.le_trans (Nat.mul_le_mul b1 b2) (by decide +kernel)
          · obtain ⟨r2, hr2, rfl⟩ := List.mem_map.mp hr
            obtain ⟨j, hj⟩ := List.mem_iff_getElem?.mp hr2
            have lr2 := (ul1.2 j r2 hj).1
            refine ⟨by unfold rowM; rw [List.length_map, List.length_range], fun q hq => ?_⟩
            obtain ⟨t, ht, rfl⟩ := List.mem_map.mp hq
            have ht2 := List.mem_range.mp ht
            rw [dot_sgN r2 _ n lr2 (by rw [List.length_map, lU])]
            refine (sg_sm (D := Da * Db) (M := mP kd * mP kd) n fun s hs => ?_).mono ?_
            · have m1 : r2.getD s 0 ∈ r2 := by
                rw [List.getD_eq_getElem?_getD, List.getElem?_eq_getElem (by omega)]
                exact List.getElem_mem _
              have m2 : ((turnU L').map fun l => l.getD t 0).getD s 0 = ((turnU L')[s]'(by rw [lU]; exact hs)).getD t 0 := by
                rw [List.getD_eq_getElem?_getD, List.getElem?_map, List.getElem?_eq_getElem (by rw [lU]; exact hs)]
                rfl
              rw [m2]
              obtain ⟨wl, sl⟩ := rowU _ (List.getElem_mem (show s < (turnU L').length by rw [lU]; exact hs))
              refine (ena r2 hr2 _ m1).mul (sl _ ?_)
              rw [List.getD_eq_getElem?_getD, List.getElem?_eq_getElem (by omega)]
              exact List.getElem_mem _
            · unfold mP bM
              by_cases c : kd = 0
              · rw [if_pos c, if_pos c]
                omega
              · rw [if_neg c, if_neg c]
                have := nk.2 c
                exact Nat.le_trans (Nat.mul_le_mul_right _ this) (by decide +kernel)
        generalize L.map (rowM (turnU L') n) = M at *
        have nR5 := W5.ne hR
        have nRw : R ≠ ww := nR5
        have W6 := W5.same sX
        refine ⟨_, rfl, n, rfl, by omega, by omega, fun P9 hP9 => ?_⟩
        rw [Int.toNat_natCast]
        have s9 := same_new (o := .lst []) hP9
        have nP9 := W6.ne hP9
        have nPR : P9 ≠ R := fun e => by
          rw [e, eR] at hP9
          cases hP9
        have nvs9 : ∀ v ∈ vs, v ≠ .ref P9 := fun v hv e => by
          obtain ⟨i, hi⟩ := List.mem_iff_getElem?.mp hv
          obtain ⟨b, s, e1, _, zs, e2, _⟩ := sv.get hi
          rw [e] at e1
          cases e1
          rw [hP9] at e2
          cases e2
        refine lc_range (lo := 0) (n := n) (fun j Y => (∀ b o, b ≠ ww → b ≠ R → X b = some o → Y b = some o) ∧ WellAt Y ww (c + 400 + (j : Int)) ∧ ∃ rest ps B A, Y R = some (.lst rest) ∧ Y P9 = some (.lst ps) ∧ SeL Y rest B ∧ SeL Y ps A ∧ (∀ v ∈ rest, v ≠ .ref R ∧ v ≠ .ref P9) ∧ (∀ v ∈ ps, v ≠ .ref R ∧ v ≠ .ref P9) ∧ A.length = j ∧ B.length + j = n ∧ (∀ r ∈ M, r ∈ A ∨ r ∈ B) ∧ (∀ r ∈ A, r ∈ M) ∧ (∀ r ∈ B, r ∈ M)) ⟨fun b o _ _ h => s9 _ _ h, (W6.same s9).mono (by omega), vs, [], M, [], s9 _ _ eR, upd_same, sv.same s9, ⟨rfl, fun i r e => by cases e⟩, fun v hv => ⟨nvs v hv, nvs9 v hv⟩, fun v hv => absurd hv List.not_mem_nil, rfl, by omega, fun r hr => .inr hr, fun r hr => absurd hr List.not_mem_nil, fun r hr => hr⟩ (fun j Y hj hQ => ?_) (fun Y hQ => ?_)
        · obtain ⟨keep, wY, rest, ps, B, A, eRY, ePY, sB, sA, nre, nps, lA, lB, h1, h2, h3⟩ := hQ
          have lre := sB.1
          refine ⟨rfl, _, rfl, .inl ⟨rfl, _, SqL.of eRY⟩, ?_⟩
          refine ⟨_, rfl, _, rfl, R, _, rfl, .inl (SqL.of eRY), ww, c + 400 + (j : Int), (rest.length : Nat), rfl, wY, by omega, by omega, small9000 (by omega) (by omega), fun r Z r0 r1 dZ fZ wZ => ?_⟩
          have eRZ := dZ _ _ nRw eRY
          have ePZ := dZ _ _ nP9 ePY
          obtain ⟨k9, rfl⟩ : ∃ k9 : Nat, r = k9 := ⟨r.toNat, by omega⟩
          have lk : k9 < rest.length := by omega
          have sBZ := sB.well dZ wY
          have sAZ := sA.well dZ wY
          obtain ⟨b, s', eb, es, fb⟩ := sBZ.get (List.getElem?_eq_getElem lk)
          have hget : rest[k9]? = some (.ref b) := by rw [List.getElem?_eq_getElem lk, eb]
          have nb := nre _ (List.mem_of_getElem? hget)
          have nbR : b ≠ R := fun e => nb.1 (by rw [e])
          have nbP : b ≠ P9 := fun e => nb.2 (by rw [e])
          refine ⟨R, rest, (k9 : Nat), k9, .ref b, rfl, rfl, eRZ, by omega, by omega, (ixN_seq (ixZ lk)).1, hget, ?_⟩
          have u1 : SameBut R Z (upd Z R (.lst (rest.eraseIdx k9))) := SameBut.upd
          have ePU : (upd Z R (.lst (rest.eraseIdx k9))) P9 = some (.lst ps) := u1 _ _ nPR ePZ
          have fb1 := fb.but nbR u1 eRZ
          have mE : ∀ v ∈ rest.eraseIdx k9, v ∈ rest := fun v hv => List.mem_of_mem_eraseIdx hv
          have sB1 := (sBZ.erase k9).butN eRZ (fun v hv => (nre v (mE v hv)).1) u1
          have sA1 := sAZ.butN eRZ (fun v hv => (nps v hv).1) u1
          have lps := sA.1
          refine ⟨_, ePU, small1000 (by omega), fun x o n1 n2 e => ?_, ?_, rest.eraseIdx k9, ps ++ [.ref b], B.eraseIdx k9, A ++ [s'], ?_, upd_same, ?_, ?_, fun v hv => nre v (mE v hv), fun v hv => ?_, by rw [List.length_append, lA]; rfl, ?_, fun r hr => ?_, fun r hr => ?_, fun r hr => h3 r (List.mem_of_mem_eraseIdx hr)⟩
          · rw [upd_ne (ne_of_none e hP9), upd_ne n2]
            exact dZ _ _ n1 (keep _ _ n1 n2 e)
          · obtain ⟨x, y, zz, e, e1, e2, e3, e4⟩ := wZ
            exact ⟨x, y, zz, by rw [upd_ne (Ne.symm nP9), upd_ne (Ne.symm nRw)]; exact e, e1, e2, e3, by omega⟩
          · rw [upd_ne nPR.symm]
            exact upd_same
          · exact sB1.butN ePU (fun v hv => (nre v (mE v hv)).2) SameBut.upd
          · exact SeL.app (sA1.butN ePU (fun v hv => (nps v hv).2) SameBut.upd) (SeL.one (fb1.but nbP SameBut.upd ePU))
          · rcases List.mem_append.mp hv with h | h
            · exact nps v h
            · rw [List.mem_singleton.mp h]
              exact nb
          · rw [List.length_eraseIdx, if_pos (by omega)]
            omega
          · rcases h1 r hr with h | h
            · exact .inl (List.mem_append.mpr (.inl h))
            · rcases mem_erase es h with h | h
              · exact .inl (List.mem_append.mpr (.inr (by rw [h]; exact List.mem_singleton.mpr rfl)))
              · exact .inr h
          · rcases List.mem_append.mp hr with h | h
            · exact h2 r h
            · rw [List.mem_singleton.mp h]
              exact h3 _ (List.mem_of_getElem? es)
        · obtain ⟨keep, wY, rest, ps, B, A, eRY, ePY, sB, sA, nre, nps, lA, lB, h1, h2, h3⟩ := hQ
          have hB0 : B = [] := List.length_eq_zero_iff.mp (by omega)
          subst hB0
          have B9 : SameBut ww H Y := fun b o nb e => by
            have e5 := B5 _ _ nb e
            exact keep _ _ nb (ne_of_none e5 hR) (sX _ _ e5)
          have hP9H : H P9 = none := but_free B5 (sX.free hP9) nP9
          obtain ⟨D, D0, Dl, hD⟩ := mbb
          exact k P9 ps A Y hP9H B9 (wY.mono (by omega)) ePY sA ⟨by rw [lA]; exact n10, fun r hr => by rw [lA]; exact (hD r (h2 r hr)).1⟩ lA ⟨D, D0, Dl, fun r hr => (hD r (h2 r hr)).2⟩ (reg.perm fun r hr => (h1 r hr).resolve_right List.not_mem_nil)
end
end E1

namespace E1
open PySem PySem.Spec PyProof.Rows L2

theorem map_pr_sum (qs : List Rat) : sumR ((qs.map pr).map fun p => Rat.divInt p.1 p.2) = sumR qs := by
  rw [List.map_map]
  congr 1
  exact (List.map_congr_left fun q _ => Rat.num_divInt_den q).trans (List.map_id _)
section
variable {P : Program} {w : World} {K : PySem.W.Frag} {mg : Str → Option Value} {base : Heap}
theorem sc__law_flat : FnScope ["_law_well_here", "_law_rows", "_law_at", "_law_others", "_law_some", "_law_added_up", "_law_k", "_law_row"] ["_law_well_here", "_law_rows"] (defScope s__law_flat) := ⟨rfl, rfl, rfl, by decide +kernel, rfl, by decide +kernel, by decide +kernel⟩
theorem ok__law_flat {f : Addr} {fd : FuncData} (F : Fun K "_law_flat" "_law_flat" s__law_flat f fd) (z : Zs mg) (c__law_draw : Cal P w K mg base 1 "_law_draw" ["_law_well_here", "_law_many"] spDraw) (c__law_sum : Cal P w K mg base 2 "_law_sum" ["_law_some"] spSumP) : FnOk P w K mg base CX0 3 f fd ["_law_well_here", "_law_rows"] spFlat := by
  refine F.ok sc__law_flat (fun vs H Q E h => ?_) (fun cdv A outer s H vs Q E hr h => ?_)
  · obtain ⟨ww, a, c, kd, ws, A, rfl, _⟩ := h
    rfl
  · obtain ⟨ww, a, c, kd, ws, A, rfl, hw, hc, ha, hs, sq, n0, nk, mb, k⟩ := h
    refine ⟨_, (pss_cons (ps_set (i := 2) sc__law_flat.nd rfl (.inl rfl) (pe_cal c__law_draw hr (pa_cons (pv 0) (pa_cons (pe_callB call_len_seq (by rfl) z.len PySem.boot_len (pa_cons (pv 1) pa_nil)) pa_nil))))
      (pss_cons (ps_set (i := 3) sc__law_flat.nd rfl (.inl rfl) (pe_op op_cat (pe_slice sl_list (pv 1) po_none (po_some (pv 2))) (pe_slice sl_list (pv 1) (po_some (pe_op op_add (pv 2) pe_int)) po_none)))
      (pss_cons (ps_set (i := 4) sc__law_flat.nd rfl (.inr rfl) (pe_slice sl_list (pv 3) po_none (po_some (pe_cal c__law_draw hr (pa_cons (pv 0) (pa_cons (pe_callB call_len_seq (by rfl) z.len PySem.boot_len (pa_cons (pv 1) pa_nil)) pa_nil))))))
      (pss_cons (ps_setLc (i := 5) (own := [("_law_k", 6)]) (g := gName 6) (tt := tYes) (te := (tCall spSumP [] E0 (tCons (tLc (iList K (tVar 4)) (gName 7) tYes (tOp (rIxL K) (tVar 7) (tVar 6)) (([("_law_row", 7)] : List (Str × Nat)).map (·.2))) tNil))) (by rfl) sc__law_flat.nd rfl rfl (sw_true rfl rfl rfl (by decide +kernel)) (pi_range1 (by rfl) z.range (pa_cons (pe_callB call_len_seq (by rfl) z.len PySem.boot_len (pa_cons (pv 1) pa_nil)) pa_nil)) (blkOk_by (own := [("_law_k", 6)]) (N := ["_law_well_here", "_law_rows", "_law_at", "_law_others", "_law_some", "_law_added_up", "_law_k", "_law_row"]) (sc := defScope s__law_flat) (by decide +kernel)) (fun _ _ _ _ _ => by exact (pg_name (i := 6) sc__law_flat.nd rfl (.inr rfl))) (fun _ _ _ _ _ => by exact pts_nil) (fun _ _ _ _ _ => by exact (pe_cal c__law_sum hr (pa_cons (@pe_lc _ _ _ _ _ _ _ _ _ _ _ _ (by rfl) sc__law_flat.nd (pi_list (pv 4)) (blkOk_by (own := [("_law_row", 7)]) (N := ["_law_well_here", "_law_rows", "_law_at", "_law_others", "_law_some", "_law_added_up", "_law_k", "_law_row"]) (sc := ({ kind := PySem.ScopeKind.function, names := [(".0", .local), ("_law_k", .cell), ("_law_sum", .globalImplicit), ("_law_some", .cell)], isGenerator := false, isCoroutine := false, more := [] })) (by decide +kernel)) (fun _ _ _ _ _ => by exact (pg_name (i := 7) sc__law_flat.nd rfl (.inl rfl))) (fun _ _ _ _ _ => by exact pts_nil) (fun _ _ _ _ _ => by exact (pe_ix ix_list (pv 7) (pv 6) (fun _ _ => rfl))) (by intro _; rfl)) pa_nil))))
      (pss_one (ps_ret (pe_op op_cat (pe_op op_cat (pe_slice sl_list (pv 1) po_none (po_some (pv 2))) (pe_lst (pa_cons (pv 5) pa_nil))) (pe_slice sl_list (pv 1) (po_some (pe_op op_add (pv 2) pe_int)) po_none)))))))), ?_⟩
    have lw := hs.1
    have n10 := nk.1
    have na := hs.nw ha hw
    refine ⟨_, rfl, _, rfl, a, _, rfl, .inl (SqL.of ha), ww, c, (ws.length : Nat), rfl, hw, by omega, by omega, small9000 (by omega) (by omega), fun r H1 r0 r1 d1 f1 w1 => ?_⟩
    obtain ⟨p, rfl⟩ : ∃ p : Nat, r = p := ⟨r.toNat, by omega⟩
    have lp : p < A.length := by omega
    have ha1 := d1 _ _ na ha
    have hs1 := hs.well d1 hw
    have ep1 : ((p : Nat) : Int) + 1 = ((p + 1 : Nat) : Int) := by omega
    refine ⟨_, rfl, _, rfl, _, rfl, a, ws, rfl, SqL.of ha1, fun l1 hl1 => ?_⟩
    rw [show cutV ws none (some ((p : Nat) : Int)) = ws.take p from cut_to]
    have s1 := same_new (o := .lst (ws.take p)) hl1
    refine ⟨_, rfl, _, rfl, _, _, rfl, rfl, _, rfl, a, ws, rfl, SqL.of (s1 _ _ ha1), fun l2 hl2 => ?_⟩
    rw [ep1, show cutV ws (some ((p + 1 : Nat) : Int)) none = ws.drop (p + 1) from cut_from]
    have s2 := same_new (o := .lst (ws.drop (p + 1))) hl2
    refine ⟨l1, l2, _, _, rfl, rfl, s2 _ _ upd_same, upd_same, Nat.le_of_lt (small1000 (by rw [List.length_take, List.length_drop]; omega)), fun l3 hl3 => ?_⟩
    have s3 := same_new (o := .lst (ws.take p ++ ws.drop (p + 1))) hl3
    have S3 := s1.trans (s2.trans s3)
    have ha3 := S3 _ _ ha1
    have hs3 := hs1.same S3
    have w3 := w1.same S3
    have e3 : (upd (upd (upd H1 l1 (.lst (ws.take p))) l2 (.lst (ws.drop (p + 1)))) l3 (.lst (ws.take p ++ ws.drop (p + 1)))) l3 = some (.lst (ws.take p ++ ws.drop (p + 1))) := upd_same
    have so3 : SeL (upd (upd (upd H1 l1 (.lst (ws.take p))) l2 (.lst (ws.drop (p + 1)))) l3 (.lst (ws.take p ++ ws.drop (p + 1)))) (ws.take p ++ ws.drop (p + 1)) (A.take p ++ A.drop (p + 1)) := (hs3.take p).app (hs3.drop (p + 1))
    have D3 : SameBut ww H _ := d1.trans (SameBut.of S3)
    generalize upd (upd (upd H1 l1 (.lst (ws.take p))) l2 (.lst (ws.drop (p + 1)))) l3 (.lst (ws.take p ++ ws.drop (p + 1))) = G3 at *
    have n3 := so3.nw e3 w3
    refine ⟨_, rfl, _, rfl, _, rfl, a, _, rfl, .inl (SqL.of ha3), ww, c + 1, (ws.length : Nat), rfl, w3, by omega, by omega, small9000 (by omega) (by omega), fun r H4 r20 r21 d4 f4 w4 => ?_⟩
    obtain ⟨m, rfl⟩ : ∃ m : Nat, r = m := ⟨r.toNat, by omega⟩
    have D4 := D3.trans d4
    have ha4 := d4 _ _ na ha3
    have hs4 := hs3.well d4 w3
    have e4 := d4 _ _ n3 e3
    have so4 := so3.well d4 w3
    refine ⟨_, rfl, l3, _, rfl, SqL.of e4, fun l5 hl5 => ?_⟩
    rw [show cutV (ws.take p ++ ws.drop (p + 1)) none (some ((m : Nat) : Int)) = (ws.take p ++ ws.drop (p + 1)).take m from cut_to]
    have s5 := same_new (o := .lst ((ws.take p ++ ws.drop (p + 1)).take m)) hl5
    have e5 : (upd H4 l5 (.lst ((ws.take p ++ ws.drop (p + 1)).take m))) l5 = some (.lst ((ws.take p ++ ws.drop (p + 1)).take m)) := upd_same
    have so5 : SeL (upd H4 l5 (.lst ((ws.take p ++ ws.drop (p + 1)).take m))) ((ws.take p ++ ws.drop (p + 1)).take m) ((A.take p ++ A.drop (p + 1)).take m) := (so4.same s5).take m
    have D5 := D4.trans (SameBut.of s5)
    have ha5 := s5 _ _ ha4
    have hs5 := hs4.same s5
    have w5 := w4.same s5
    have inA : ∀ r ∈ (A.take p ++ A.drop (p + 1)).take m, ∃ i, i < A.length ∧ i ≠ p ∧ A[i]? = some r := fun r hr => by
      rcases List.mem_append.mp (List.mem_of_mem_take hr) with h | h
      · obtain ⟨i, hi⟩ := List.mem_iff_getElem?.mp h
        rw [List.getElem?_take] at hi
        split at hi
        · exact ⟨i, (List.getElem?_eq_some_iff.mp hi).1, by omega, hi⟩
        · cases hi
      · obtain ⟨i, hi⟩ := List.mem_iff_getElem?.mp h
        rw [List.getElem?_drop] at hi
        exact ⟨p + 1 + i, (List.getElem?_eq_some_iff.mp hi).1, by omega, hi⟩
    have lso : ((A.take p ++ A.drop (p + 1)).take m).length ≤ A.length := by
      rw [List.length_take, List.length_append, List.length_take, List.length_drop]
      omega
    generalize upd H4 l5 (.lst ((ws.take p ++ ws.drop (p + 1)).take m)) = G5 at *
    generalize (ws.take p ++ ws.drop (p + 1)).take m = sv at *
    generalize (A.take p ++ A.drop (p + 1)).take m = so at *
    have lsv := so5.1
    obtain ⟨D, D0, Dl, hD⟩ := mb
    have bMb : bM kd ≤ 2 ^ 62 := by unfold bM; split <;> decide +kernel
    have dBb : dB kd ≤ 2 ^ 480 := by unfold dB; split <;> decide +kernel
    have inR : ∀ r ∈ so, r.length = A.length ∧ ∀ q ∈ r, SM D (bM kd) q := fun r hr => by
      obtain ⟨i, _, _, e⟩ := inA r hr
      have := List.mem_of_getElem? e
      exact ⟨sq.2 r this, hD r this⟩
    refine ⟨_, rfl, a, ws, rfl, .inl (SqL.of ha5), (ws.length : Nat), rfl, by omega, by omega, fun P hP => ?_⟩
    rw [Int.toNat_natCast, lw]
    refine lc_range (lo := 0) (n := A.length) (fun j X => Same G5 X ∧ FrL X P ((List.range j).map fun t => sumR (so.map fun r => r.getD t 0))) ⟨same_new hP, [], upd_same, .nil⟩ (fun j X hj hQ => ?_) (fun X hQ => ?_)
    · obtain ⟨sX, vs, eP, fv⟩ := hQ
      rw [Int.zero_add]
      refine ⟨rfl, _, rfl, l5, rfl, ⟨_, SqL.of (sX _ _ e5)⟩, fun P3 hP3 => lc_list (K := K) (a := l5) (xs := sv) (fun s Z => Same X Z ∧ FrL Z P3 ((so.take s).map fun l => l.getD j 0)) ⟨same_new hP3, [], upd_same, by rw [List.take_zero]; exact .nil⟩ (fun s Z _ hQ3 => SqL.of (hQ3.1 _ _ (sX _ _ e5))) (fun s x Z hx hQ3 => ?_) (fun Z hQ3 => ?_)⟩
      · obtain ⟨sZ, zs, eP3, fz⟩ := hQ3
        obtain ⟨b2, r2, rfl, hr3, fb2⟩ := so5.get hx
        have ls := (List.getElem?_eq_some_iff.mp hr3).1
        have wr2 := (inR r2 (List.mem_of_getElem? hr3)).1
        obtain ⟨rs9, hb2, lb2, fb3⟩ := (fb2.same (sX.trans sZ)).len
        obtain ⟨q, e1, e2⟩ := FrsAt.at fb3 (List.getElem?_eq_getElem (show j < r2.length by omega))
        have lz := FrsAt.len fz
        rw [List.length_map, List.length_take] at lz
        refine ⟨rfl, _, rfl, _, rfl, b2, rs9, (j : Nat), .ref q, rfl, rfl, SqL.of hb2, atI_nat e1, ?_⟩
        refine ⟨_, eP3, small1000 (by omega), fun b o e => ?_, zs ++ [.ref q], upd_same, ?_⟩
        · rw [upd_ne (ne_of_none e hP3)]
          exact sZ _ _ e
        · rw [show so.take (s + 1) = so.take s ++ [r2] by rw [List.take_succ, hr3]; rfl, List.map_append]
          have eg : r2.getD j 0 = r2[j]'(by omega) := by rw [List.getD_eq_getElem?_getD, List.getElem?_eq_getElem (by omega)]; rfl
          refine FrsAt.app (PrsAt.but fz SameBut.upd eP3) (FrsAt.one ?_)
          show Fr _ q (r2.getD j 0)
          rw [eg]
          show (upd Z P3 _) q = _
          rw [upd_ne (ne_of e2 eP3 (fun z => nomatch z))]
          exact e2
      · obtain ⟨sZ, zs, eP3, fz⟩ := hQ3
        rw [List.take_of_length_le (by omega)] at fz
        have lv := FrsAt.len fv
        rw [List.length_map, List.length_range] at lv
        refine ⟨P3, zs, _, D, rfl, eP3, fz, D0, Nat.lt_of_le_of_lt (Nat.le_trans Dl dBb) (by decide +kernel), fun q9 hq => ?_, by rw [List.length_map, List.length_map]; omega, fun q Z2 hq s9 f9 => ?_⟩
        · obtain ⟨q, hq2, rfl⟩ := List.mem_map.mp hq
          obtain ⟨r, hr, rfl⟩ := List.mem_map.mp hq2
          obtain ⟨wl, sl⟩ := inR r hr
          have ml : r.getD j 0 ∈ r := by
            rw [List.getD_eq_getElem?_getD, List.getElem?_eq_getElem (by omega)]
            exact List.getElem_mem _
          have s := sl _ ml
          refine ⟨den_ge _, Sc.den s, Nat.lt_of_le_of_lt (Nat.le_trans (Sc.num s D0) (Nat.mul_le_mul bMb (Nat.le_trans Dl dBb))) (by decide +kernel)⟩
        · rw [map_pr_sum] at f9
          have eP9 := s9 _ _ (sZ _ _ eP)
          refine ⟨_, eP9, small1000 (by omega), fun b o e => ?_, vs ++ [.ref q], upd_same, ?_⟩
          · rw [upd_ne (ne_of_none e hP)]
            exact s9 _ _ (sZ _ _ (sX _ _ e))
          · rw [List.range_succ, List.map_append]
            refine FrsAt.app (PrsAt.but (PrsAt.same (PrsAt.same fv sZ) s9) SameBut.upd eP9) (FrsAt.one ?_)
            show (upd Z2 P _) q = _
            rw [upd_ne (ne_of f9 eP9 (fun z => nomatch z))]
            exact f9
    · obtain ⟨sX, fP⟩ := hQ
      have D6 := D5.trans (SameBut.of sX)
      have ha6 := sX _ _ ha5
      have hs6 := hs5.same sX
      have w6 := w5.same sX
      refine ⟨_, rfl, _, rfl, _, rfl, a, ws, rfl, SqL.of ha6, fun m1 hm1 => ?_⟩
      rw [show cutV ws none (some ((p : Nat) : Int)) = ws.take p from cut_to]
      have t1 := same_new (o := .lst (ws.take p)) hm1
      refine ⟨_, rfl, (by show 1 ≤ sizeLine; decide), fun m2 hm2 => ?_⟩
      have t2 := same_new (o := .lst [.ref P]) hm2
      refine ⟨m1, m2, _, _, rfl, rfl, t2 _ _ upd_same, upd_same, Nat.le_of_lt (small1000 (by rw [List.length_take]; show _ + 1 ≤ 1000; omega)), fun m3 hm3 => ?_⟩
      have t3 := same_new (o := .lst (ws.take p ++ [.ref P])) hm3
      refine ⟨_, rfl, _, rfl, _, _, rfl, rfl, _, rfl, a, ws, rfl, SqL.of (t3 _ _ (t2 _ _ (t1 _ _ ha6))), fun m4 hm4 => ?_⟩
      rw [ep1, show cutV ws (some ((p + 1 : Nat) : Int)) none = ws.drop (p + 1) from cut_from]
      have t4 := same_new (o := .lst (ws.drop (p + 1))) hm4
      refine ⟨m3, m4, _, _, rfl, rfl, t4 _ _ upd_same, upd_same, Nat.le_of_lt (small1000 (by rw [List.length_append, List.length_take, List.length_drop]; show _ + 1 + _ ≤ 1000; omega)), fun m5 hm5 => ?_⟩
      have t5 := same_new (o := .lst (ws.take p ++ [.ref P] ++ ws.drop (p + 1))) hm5
      have T4 := (t1.trans t2).trans (t3.trans t4)
      have TT := T4.trans t5
      have lsum : ((List.range A.length).map fun t => sumR (so.map fun r => r.getD t 0)).length = A.length := by rw [List.length_map, List.length_range]
      have sumg : ∀ t, t < A.length → ((List.range A.length).map fun t => sumR (so.map fun r => r.getD t 0)).getD t 0 = sumR (so.map fun r => r.getD t 0) := fun t ht => by
        rw [List.getD_eq_getElem?_getD, List.getElem?_map, List.getElem?_range ht]
        rfl
      have sumb : ∀ q ∈ ((List.range A.length).map fun t => sumR (so.map fun r => r.getD t 0)), SM D (mB kd) q := fun q hq => by
        obtain ⟨t, ht, rfl⟩ := List.mem_map.mp hq
        have ht2 := List.mem_range.mp ht
        refine (sum_sm (D := D) (M := bM kd) _ fun x hx => ?_).mono ?_
        · obtain ⟨r, hr, rfl⟩ := List.mem_map.mp hx
          obtain ⟨wl, sl⟩ := inR r hr
          refine sl _ ?_
          rw [List.getD_eq_getElem?_getD, List.getElem?_eq_getElem (by omega)]
          exact List.getElem_mem _
        · rw [List.length_map]
          unfold bM mB
          by_cases c : kd = 0
          · rw [if_pos c, if_pos c]
            omega
          · rw [if_neg c, if_neg c]
            have := nk.2 c
            exact Nat.le_trans (Nat.mul_le_mul_right _ (show so.length ≤ 4 by omega)) (by decide +kernel)
      have bm : bM kd ≤ mB kd := by unfold bM mB; split <;> decide +kernel
      generalize ((List.range A.length).map fun t => sumR (so.map fun r => r.getD t 0)) = su at *
      have seL9 : SeL _ (ws.take p ++ [.ref P] ++ ws.drop (p + 1)) (A.take p ++ [su] ++ A.drop (p + 1)) := (((hs6.take p).app (SeL.one fP)).app (hs6.drop (p + 1))).same TT
      have l9 : (A.take p ++ [su] ++ A.drop (p + 1)).length = A.length := by
        rw [List.length_append, List.length_append, List.length_take, List.length_drop]
        show min p A.length + 1 + _ = _
        omega
      have mem9 : ∀ r ∈ A.take p ++ [su] ++ A.drop (p + 1), r ∈ A ∨ r = su := fun r hr => by
        rcases List.mem_append.mp hr with h | h
        · rcases List.mem_append.mp h with h | h
          · exact .inl (List.mem_of_mem_take h)
          · exact .inr (List.mem_singleton.mp h)
        · exact .inl (List.mem_of_mem_drop h)
      have at9 : ∀ i, i ≠ p → (A.take p ++ [su] ++ A.drop (p + 1))[i]? = A[i]? := fun i hi => by
        by_cases c : i < p
        · rw [List.append_assoc, List.getElem?_append_left (by rw [List.length_take]; omega), List.getElem?_take, if_pos c]
        · rw [List.getElem?_append_right (by rw [List.length_append, List.length_take]; show min p A.length + 1 ≤ i; omega), List.getElem?_drop, List.length_append, List.length_take, show p + 1 + (i - (min p A.length + [su].length)) = i by show p + 1 + (i - (min p A.length + 1)) = i; omega]
      have atp : (A.take p ++ [su] ++ A.drop (p + 1))[p]? = some su := by
        rw [List.append_assoc, List.getElem?_append_right (by rw [List.length_take]; omega), List.length_take, show p - min p A.length = 0 by omega]
        rfl
      have hm5H : H m5 = none := but_free (D6.trans (SameBut.of T4)) hm5 ((w6.same T4).ne hm5)
      refine k m5 _ _ _ hm5H (D6.trans (SameBut.of TT)) ((w6.same TT).mono (by omega)) upd_same seL9 ⟨by rw [l9]; exact n10, fun r hr => ?_⟩ l9 ⟨D, D0, Dl, fun r hr q hq => ?_⟩ ⟨p, lp, so, fun r hr => ?_, fun t ht => ?_⟩
      · rw [l9]
        rcases mem9 r hr with h | h
        · exact sq.2 r h
        · rw [h, lsum]
      · rcases mem9 r hr with h | h
        · exact (hD r h q hq).mono bm
        · exact sumb q (h ▸ hq)
      · obtain ⟨i, hi, ne, e⟩ := inA r hr
        exact ⟨i, hi, ne, by rw [at9 i ne]; exact e⟩
      · rw [ad_row atp, sumg t ht]
end
end E1

namespace E1
open PySem PySem.Spec PyProof.Rows L2
def llD (qss : List (List Rat)) : List PyData := qss.map fun qs => .list (qs.map frD)
theorem ll_lay : ∀ qss : List (List Rat), PyData.canLayAll0 (llD qss) = true
  | [] => rfl
  | qs :: qss => by
    unfold llD
    rw [List.map_cons, PyData.canLayAll0]
    have i := ll_lay qss
    unfold llD at i
    rw [i, Bool.and_true]
    exact SeqAt.canLay_of_shaped (frL_shaped qs)
theorem ll_deep : ∀ qss : List (List Rat), PyData.depthAll (llD qss) ≤ 6
  | [] => by simp [llD, PyData.depthAll]
  | qs :: qss => by
    have i := ll_deep qss
    have j := frDs_deep qs
    unfold llD at *
    simp only [List.map_cons, PyData.depthAll, PyData.depth]
    omega
theorem ll_shaped (qss : List (List Rat)) : SeqAt.shaped (.list (llD qss)) = true := by
  have h1 := ll_deep qss
  have h2 : PyData.depth (.list (llD qss)) ≤ 64 := by simp only [PyData.depth]; omega
  show (PyData.canLay0 (.list (llD qss)) && decide (PyData.depth (.list (llD qss)) ≤ 64)) = true
  rw [Bool.and_eq_true]
  exact ⟨by simp only [PyData.canLay0]; exact ll_lay qss, decide_eq_true h2⟩
theorem ll_eqv (qss : List (List Rat)) : PyData.eqv (.list (llD qss)) (.list (llD qss)) = true := SeqAt.eqv_refl _ (SeqAt.canLay_of_shaped (ll_shaped qss))
theorem FrL.dp {K : PySem.W.Frag} {H : Hp} {a : Addr} {qs : List Rat} (h : FrL H a qs) : Dp K H (.ref a) (.list (qs.map frD)) := by
  obtain ⟨vs, e, r⟩ := h
  exact .lst (SqL.of e) (FrsAt.dp r)

theorem sqT_ty {K : PySem.W.Frag} {H : Hp} {a : Addr} {xs : List V} (h : SqT K H a xs) : TyX K H (.ref a) (.type "tuple") := by
  rcases h with (h | ⟨o, h⟩) | ⟨o, _, _, h1, h2, _⟩
  · exact .base (.tup h)
  · exact .fTuple h
  · exact .kTuple h1 h2
theorem dpK {K : PySem.W.Frag} {H : Hp} {p : Addr} {q : Rat} (h : SqT K H p [.int q.num, .int (q.den : Int)]) : Dp K H (.ref p) (frD q) := .tup h (.cons (.int _) (.cons (.int _) .nil))
theorem FrsK.dp {K : PySem.W.Frag} {H : Hp} : ∀ {qs : List Rat} {vs : List V}, FrsK K H vs qs → DpAll K H vs (qs.map frD)
  | [], vs, h => by
    have : vs = [] := List.length_eq_zero_iff.mp h.1
    subst this
    exact .nil
  | q :: qs, [], h => by
    have := h.1
    cases this
  | q :: qs, v :: vs, h => by
    obtain ⟨p, e, f⟩ := h.2 0 q rfl
    cases e
    exact .cons (dpK f) (FrsK.dp ⟨Nat.succ.inj h.1, fun i r hr => h.2 (i + 1) r hr⟩)
theorem FrLK.dp {K : PySem.W.Frag} {H : Hp} {a : Addr} {qs : List Rat} (h : FrLK K H a qs) : Dp K H (.ref a) (.list (qs.map frD)) := by
  obtain ⟨vs, e, r⟩ := h
  exact .lst (SqL.of e) r.dp
def spNo : Sp := fun _ _ _ _ => False
def spPlT (K : PySem.W.Frag) : Sp := fun vs H Q _ => ∃ (p : Addr) (q : Rat), vs = [.ref p] ∧ SqT K H p [.int q.num, .int (q.den : Int)] ∧ ((q.den : Int)).natAbs < 2 ^ 8000 ∧ ∀ H', Same H H' → Q (.bl true) H'
def spPlL (K : PySem.W.Frag) : Sp := fun vs H Q _ => ∃ (a : Addr) (qs : List Rat), vs = [.ref a] ∧ FrLK K H a qs ∧ qs.length ≤ 1000 ∧ (∀ q ∈ qs, ((q.den : Int)).natAbs < 2 ^ 8000) ∧ ∀ H', Same H H' → Q (.bl true) H'
theorem low_self (q : Rat) : lowT q.num q.den = q.num ∧ lowB q.num q.den = (q.den : Int) := by
  rw [← (lowTP (t := q.num) (den_ge q)).1, ← (lowTP (t := q.num) (den_ge q)).2, q_gcd, Int.ediv_one, Int.ediv_one]
  exact ⟨rfl, rfl⟩
theorem Bdd.den {xs : List Rat} (h : Bdd xs) : ∀ q ∈ xs, ((q.den : Int)).natAbs < 2 ^ 8000 := fun q hq => by
  obtain ⟨E, E0, Eb, hs⟩ := h
  exact Nat.lt_of_le_of_lt (Nat.le_of_dvd (by omega) (Int.natAbs_dvd_natAbs.mpr (hs q hq).den)) (up Eb (by decide))
theorem iteNT {c A B : Prop} [Decidable c] (hc : c) (h : B) : if (!decide c) = true then A else B := by
  rw [if_neg (by rw [decide_eq_true hc]; decide)]
  exact h
def spRight (K : PySem.W.Frag) : Sp := fun vs H Q _ => ∃ (a c t q : Addr) (ws : List V) (A : List (List Rat)) (ys xs : List Rat) (b : Bool) (kd : Int), vs = [.ref a, .ref c, .ref t] ∧ H a = some (.lst ws) ∧ SeL H ws A ∧ Sq A ∧ FrL H c ys ∧ ys.length = A.length ∧ H t = some (.tup [flagV b, .ref q]) ∧ FrLK K H q xs ∧ Ans A.length (ad A) (fun i => ys.getD i 0) b xs ∧ Bdd xs ∧ MB kd A ∧ ∀ H', Same H H' → Q (.bl true) H'
/-- what comes of the rows -/
def comeL (A : List (List Rat)) (xs : List Rat) : List Rat := A.map fun r => dotR r xs
theorem come_one {A : List (List Rat)} {ys xs : List Rat} (sq : Sq A) (ly : ys.length = A.length) (h : Ans A.length (ad A) (fun i => ys.getD i 0) true xs) : comeL A xs = ys := by
  obtain ⟨h1, _, _⟩ := h.2.1 rfl
  refine list_ext (n := A.length) (by unfold comeL; rw [List.length_map]) ly fun t ht => ?_
  have e1 : A[t]? = some A[t] := List.getElem?_eq_getElem ht
  have e2 : (comeL A xs).getD t 0 = dotR A[t] xs := by
    unfold comeL
    rw [List.getD_eq_getElem?_getD, List.getElem?_map, e1]
    rfl
  rw [e2, dot_sgN _ _ A.length (sq.2 _ (List.getElem_mem ht)) h.1]
  exact Eq.trans (sg_congr _ fun s _ => by rw [ad_row e1]) (h1 t ht)
theorem come_non {A : List (List Rat)} {y : Nat → Rat} {xs : List Rat} (sq : Sq A) (h : Ans A.length (ad A) y false xs) : comeL A xs = List.replicate A.length 0 ∧ xs ≠ comeL A xs := by
  obtain ⟨k, k1, k2, _, k4, _⟩ := h.2.2 rfl
  have e : comeL A xs = List.replicate A.length 0 := by
    refine list_ext (n := A.length) (by unfold comeL; rw [List.length_map]) (by rw [List.length_replicate]) fun t ht => ?_
    have e1 : A[t]? = some A[t] := List.getElem?_eq_getElem ht
    have e2 : (comeL A xs).getD t 0 = dotR A[t] xs := by
      unfold comeL
      rw [List.getD_eq_getElem?_getD, List.getElem?_map, e1]
      rfl
    have e3 : (List.replicate A.length (0 : Rat)).getD t 0 = 0 := by
      rw [List.getD_eq_getElem?_getD, List.getElem?_replicate, if_pos ht]
      rfl
    rw [e2, e3, dot_sgN _ _ A.length (sq.2 _ (List.getElem_mem ht)) h.1]
    exact Eq.trans (sg_congr _ fun s _ => by rw [ad_row e1]) (k4 t ht)
  refine ⟨e, fun z => ?_⟩
  rw [e] at z
  rw [z, List.getD_eq_getElem?_getD, List.getElem?_replicate, if_pos k1] at k2
  exact absurd k2 (by decide +kernel)
section
variable {P : Program} {w : World} {K : PySem.W.Frag} {mg : Str → Option Value} {base : Heap}
theorem sc__law_plain : FnScope ["_law_told", "_law_one_here"] ["_law_told"] (defScope s__law_plain) := ⟨rfl, rfl, rfl, by decide +kernel, rfl, by decide +kernel, by decide +kernel⟩
theorem ok_plainN {f : Addr} {fd : FuncData} {k : Nat} (F : Fun K "_law_plain" "_law_plain" s__law_plain f fd) : FnOk P w K mg base CX0 (k + 1) f fd ["_law_told"] spNo := by
  refine F.ok sc__law_plain (fun vs H Q E h => ?_) (fun cdv A outer s H vs Q E hr h => ?_)
  · exact False.elim h
  · exact False.elim h
theorem ok_plainT {f : Addr} {fd : FuncData} (F : Fun K "_law_plain" "_law_plain" s__law_plain f fd) (z : Zs mg) (c__law_plain : Cal P w K mg base 1 "_law_plain" ["_law_told"] spNo) (c__law_low : Cal P w K mg base 1 "_law_low" ["_law_top", "_law_bottom"] spLowP) : FnOk P w K mg base CX0 2 f fd ["_law_told"] (spPlT K) := by
  refine F.ok sc__law_plain (fun vs H Q E h => ?_) (fun cdv A outer s H vs Q E hr h => ?_)
  · obtain ⟨p, q, rfl, _⟩ := h
    rfl
  · obtain ⟨p, q, rfl, ha, hl, k⟩ := h
    refine ⟨_, (pss_cons (ps_if (pt_val (pe_callB call_isi (by rfl) z.isinstance (by decide +kernel) (pa_cons (pv 0) (pa_cons (pe_bltn (v := .ty "list") (by rfl) z.list (by decide +kernel) rfl) pa_nil)))) (pss_one (ps_ret (pe_callB (cr_all rfl) (by rfl) z.all (by decide +kernel) (pa_cons (pe_lc (own := [("_law_one_here", 1)]) (g := gName 1) (tt := tYes) (te := (tCall spNo [] E0 (tCons (tVar 1) tNil))) (by rfl) sc__law_plain.nd (pi_tup (pv 0)) (blkOk_by (own := [("_law_one_here", 1)]) (N := ["_law_told", "_law_one_here"]) (sc := defScope s__law_plain) (by decide +kernel)) (fun _ _ _ _ _ => by exact (pg_name (i := 1) sc__law_plain.nd rfl (.inl rfl))) (fun _ _ _ _ _ => by exact pts_nil) (fun _ _ _ _ _ => by exact (pe_cal c__law_plain hr (pa_cons (pv 1) pa_nil)))) pa_nil)))) pss_nil)
      (pss_cons (ps_if (PW.pt (pw_or (pt_not (pt_val (pe_callB call_isi (by rfl) z.isinstance (by decide +kernel) (pa_cons (pv 0) (pa_cons (pe_bltn (v := .ty "tuple") (by rfl) z.tuple (by decide +kernel) rfl) pa_nil))))) (pw_or1 (pt_cmpR op_ne (pe_callB call_len_seq (by rfl) z.len PySem.boot_len (pa_cons (pv 0) pa_nil)) pe_int (nomark _))))) (pss_one (ps_ret pe_bl)) pss_nil)
      (pss_cons (ps_if (pt_not (pt_val (pe_callB (cr_all rfl) (by rfl) z.all (by decide +kernel) (pa_cons (pe_lc (own := [("_law_one_here", 1)]) (g := gName 1) (tt := tYes) (te := tAndV (tCB (rIsi K) (tCons (tVar 1) (tCons (tC (.ty "int")) tNil))) (tNotV (tCB (rIsi K) (tCons (tVar 1) (tCons (tC (.ty "bool")) tNil))))) (by rfl) sc__law_plain.nd (pi_tup (pv 0)) (blkOk_by (own := [("_law_one_here", 1)]) (N := ["_law_told", "_law_one_here"]) (sc := defScope s__law_plain) (by decide +kernel)) (fun _ _ _ _ _ => by exact (pg_name (i := 1) sc__law_plain.nd rfl (.inl rfl))) (fun _ _ _ _ _ => by exact pts_nil) (fun _ _ _ _ _ => by exact (pe_and (pe_callB call_isi (by rfl) z.isinstance (by decide +kernel) (pa_cons (pv 1) (pa_cons (pe_bltn (v := .ty "int") (by rfl) z.int (by decide +kernel) rfl) pa_nil))) (pe_one (pe_not (pe_callB call_isi (by rfl) z.isinstance (by decide +kernel) (pa_cons (pv 1) (pa_cons (pe_bltn (v := .ty "bool") (by rfl) z.bool (by decide +kernel) rfl) pa_nil)))))))) pa_nil)))) (pss_one (ps_ret pe_bl)) pss_nil)
      (pss_one (ps_ret (pe_and (pe_cmpR op_gt (pe_ix ix_tup (pv 0) pe_int (fun _ _ => rfl)) pe_int (nomark _)) (pe_one (pe_cmpR (op_eqD hr.units) (pe_cal c__law_low hr (pa_cons (pe_ix ix_tup (pv 0) pe_int (fun _ _ => rfl)) (pa_cons (pe_ix ix_tup (pv 0) pe_int (fun _ _ => rfl)) pa_nil))) (pv 0) (nomark _))))))))), ?_⟩
    refine ⟨_, rfl, _, .ty "list", _, _, false, rfl, .ty _, sqT_ty ha, kit_ty (by decide +kernel), _, rfl, iteF ?_⟩
    refine ⟨_, rfl, _, .ty "tuple", _, _, true, rfl, .ty _, sqT_ty ha, kit_ty (by decide +kernel), _, rfl, iteF ⟨_, rfl, p, _, rfl, .inr (ha), rfl, _, rfl, iteF ?_⟩⟩
    refine ⟨_, rfl, p, rfl, ⟨_, ha⟩, fun D hD => lc_tup (K := K) (a := p) (xs := [.int q.num, .int (q.den : Int)]) (fun i H' => Same H H' ∧ H' D = some (.lst (List.replicate i (V.bl true)))) ⟨same_new hD, upd_same⟩ (fun i H' _ hP => sqT_same ha hP.1) (fun i x H' hx hP => ?_) (fun H' hP => ?_)⟩
    · obtain ⟨s1, hacc⟩ := hP
      obtain ⟨n, rfl⟩ : ∃ n : Int, x = .int n := by
        have := List.mem_of_getElem? hx
        simp only [List.mem_cons, List.not_mem_nil, or_false] at this
        rcases this with rfl | rfl <;> exact ⟨_, rfl⟩
      have hi : i < 2 := (List.getElem?_eq_some_iff.mp hx).1
      refine ⟨rfl, _, rfl, _, .ty "int", _, _, true, rfl, .ty _, .base (.int _), kit_ty (by decide +kernel), _, rfl, iteT ⟨_, rfl, _, .ty "bool", _, _, false, rfl, .ty _, .base (.int _), kit_ty (by decide +kernel), _, rfl, ?_⟩⟩
      refine ⟨_, hacc, ?_, fun b o e => ?_, ?_⟩
      · rw [List.length_replicate]
        exact small1000 (by omega)
      · rw [upd_ne (ne_of_none e hD)]
        exact s1 _ _ e
      · rw [upd_same, List.replicate_succ']
        rfl
    · obtain ⟨s1, hacc⟩ := hP
      refine ⟨D, List.replicate _ true, rfl, SqL.of (by rw [List.map_replicate]; exact hacc), ?_⟩
      rw [rep_all]
      have ha1 := sqT_same ha s1
      refine ⟨_, rfl, iteF ⟨_, rfl, p, _, 1, .int (q.den : Int), rfl, rfl, ha1, a1, _, _, rfl, rfl, _, rfl, ite2 (fun _ => ?_) (fun c => absurd (decide_eq_true (den_ge q)) c)⟩⟩
      refine ⟨_, rfl, p, _, 0, .int q.num, rfl, rfl, ha1, a0, _, rfl, p, _, 1, .int (q.den : Int), rfl, rfl, ha1, a1, q.num, (q.den : Int), rfl, den_ge q, hl, fun p2 hp2 => ?_⟩
      have s2 := same_new (o := .tup [.int (lowT q.num q.den), .int (lowB q.num q.den)]) hp2
      have f2 : Fr (upd H' p2 (.tup [.int (lowT q.num q.den), .int (lowB q.num q.den)])) p2 q := by
        show (upd H' p2 _) p2 = _
        rw [upd_same, (low_self q).1, (low_self q).2]
      refine ⟨_, rfl, frD q, frD q, f2.dp, dpK (sqT_same ha1 s2), frD_shaped _, frD_shaped _, ?_⟩
      rw [frD_eqv, decide_eq_true rfl]
      exact k _ (s1.trans s2)
theorem ok_plainL {f : Addr} {fd : FuncData} (F : Fun K "_law_plain" "_law_plain" s__law_plain f fd) (z : Zs mg) (c__law_plain : Cal P w K mg base 2 "_law_plain" ["_law_told"] (spPlT K)) (c__law_low : Cal P w K mg base 1 "_law_low" ["_law_top", "_law_bottom"] spLowP) : FnOk P w K mg base CX0 3 f fd ["_law_told"] (spPlL K) := by
  refine F.ok sc__law_plain (fun vs H Q E h => ?_) (fun cdv A outer s H vs Q E hr h => ?_)
  · obtain ⟨a, qs, rfl, _⟩ := h
    rfl
  · obtain ⟨a, qs, rfl, ⟨vs, ha, hq⟩, hl, hd, k⟩ := h
    refine ⟨_, (pss_cons (ps_if (pt_val (pe_callB call_isi (by rfl) z.isinstance (by decide +kernel) (pa_cons (pv 0) (pa_cons (pe_bltn (v := .ty "list") (by rfl) z.list (by decide +kernel) rfl) pa_nil)))) (pss_one (ps_ret (pe_callB (cr_all rfl) (by rfl) z.all (by decide +kernel) (pa_cons (pe_lc (own := [("_law_one_here", 1)]) (g := gName 1) (tt := tYes) (te := (tCall (spPlT K) [] E0 (tCons (tVar 1) tNil))) (by rfl) sc__law_plain.nd (pi_list (pv 0)) (blkOk_by (own := [("_law_one_here", 1)]) (N := ["_law_told", "_law_one_here"]) (sc := defScope s__law_plain) (by decide +kernel)) (fun _ _ _ _ _ => by exact (pg_name (i := 1) sc__law_plain.nd rfl (.inl rfl))) (fun _ _ _ _ _ => by exact pts_nil) (fun _ _ _ _ _ => by exact (pe_cal c__law_plain hr (pa_cons (pv 1) pa_nil)))) pa_nil)))) pss_nil)
      (pss_cons (ps_if (PW.pt (pw_or (pt_not (pt_val (pe_callB call_isi (by rfl) z.isinstance (by decide +kernel) (pa_cons (pv 0) (pa_cons (pe_bltn (v := .ty "tuple") (by rfl) z.tuple (by decide +kernel) rfl) pa_nil))))) (pw_or1 (pt_cmpR op_ne (pe_callB call_len_seq (by rfl) z.len PySem.boot_len (pa_cons (pv 0) pa_nil)) pe_int (nomark _))))) (pss_one (ps_ret pe_bl)) pss_nil)
      (pss_cons (ps_if (pt_not (pt_val (pe_callB (cr_all rfl) (by rfl) z.all (by decide +kernel) (pa_cons (pe_lc (own := [("_law_one_here", 1)]) (g := gName 1) (tt := tYes) (te := tAndV (tCB (rIsi K) (tCons (tVar 1) (tCons (tC (.ty "int")) tNil))) (tNotV (tCB (rIsi K) (tCons (tVar 1) (tCons (tC (.ty "bool")) tNil))))) (by rfl) sc__law_plain.nd (pi_list (pv 0)) (blkOk_by (own := [("_law_one_here", 1)]) (N := ["_law_told", "_law_one_here"]) (sc := defScope s__law_plain) (by decide +kernel)) (fun _ _ _ _ _ => by exact (pg_name (i := 1) sc__law_plain.nd rfl (.inl rfl))) (fun _ _ _ _ _ => by exact pts_nil) (fun _ _ _ _ _ => by exact (pe_and (pe_callB call_isi (by rfl) z.isinstance (by decide +kernel) (pa_cons (pv 1) (pa_cons (pe_bltn (v := .ty "int") (by rfl) z.int (by decide +kernel) rfl) pa_nil))) (pe_one (pe_not (pe_callB call_isi (by rfl) z.isinstance (by decide +kernel) (pa_cons (pv 1) (pa_cons (pe_bltn (v := .ty "bool") (by rfl) z.bool (by decide +kernel) rfl) pa_nil)))))))) pa_nil)))) (pss_one (ps_ret pe_bl)) pss_nil)
      (pss_one (ps_ret (pe_and (pe_cmpR op_gt (pe_ix ix_tup (pv 0) pe_int (fun _ _ => rfl)) pe_int (nomark _)) (pe_one (pe_cmpR (op_eqD hr.units) (pe_cal c__law_low hr (pa_cons (pe_ix ix_tup (pv 0) pe_int (fun _ _ => rfl)) (pa_cons (pe_ix ix_tup (pv 0) pe_int (fun _ _ => rfl)) pa_nil))) (pv 0) (nomark _))))))))), ?_⟩
    have hlen := hq.1
    refine ⟨_, rfl, _, .ty "list", _, _, true, rfl, .ty _, .base (.lst ha), kit_ty (by decide +kernel), _, rfl, iteT ⟨_, rfl, a, rfl, ⟨_, SqL.of ha⟩, fun D hD => lc_list (K := K) (a := a) (xs := vs) (fun i H' => Same H H' ∧ H' D = some (.lst (List.replicate i (V.bl true)))) ⟨same_new hD, upd_same⟩ (fun i H' _ hP => SqL.of (hP.1 _ _ ha)) (fun i x H' hx hP => ?_) (fun H' hP => ?_)⟩⟩
    · obtain ⟨s1, hacc⟩ := hP
      obtain ⟨p, r, rfl, hr', hp⟩ := hq.get hx
      have hi := (List.getElem?_eq_some_iff.mp hx).1
      refine ⟨rfl, _, rfl, p, r, rfl, sqT_same hp s1, hd r (List.mem_of_getElem? hr'), fun H2 s2 => ?_⟩
      refine ⟨_, s2 _ _ hacc, ?_, fun b o e => ?_, ?_⟩
      · rw [List.length_replicate]
        exact small1000 (by omega)
      · rw [upd_ne (ne_of_none e hD)]
        exact s2 _ _ (s1 _ _ e)
      · rw [upd_same, List.replicate_succ']
    · obtain ⟨s1, hacc⟩ := hP
      refine ⟨D, List.replicate _ true, rfl, SqL.of (by rw [List.map_replicate]; exact hacc), ?_⟩
      rw [rep_all]
      exact k _ s1
theorem sc__law_right : FnScope ["_law_matrix", "_law_right_here", "_law_told", "_law_come", "_law_row"] ["_law_matrix", "_law_right_here", "_law_told"] (defScope s__law_right) := ⟨rfl, rfl, rfl, by decide +kernel, rfl, by decide +kernel, by decide +kernel⟩
theorem ok__law_right {f : Addr} {fd : FuncData} (F : Fun K "_law_right" "_law_right" s__law_right f fd) (z : Zs mg) (c__law_plain : Cal P w K mg base 3 "_law_plain" ["_law_told"] (spPlL K)) (c__law_dot : Cal P w K mg base 3 "_law_dot" ["_law_one_here", "_law_other"] (spLDot K)) : FnOk P w K mg base CX0 4 f fd ["_law_matrix", "_law_right_here", "_law_told"] (spRight K) := by
  refine F.ok sc__law_right (fun vs H Q E h => ?_) (fun cdv A outer s H vs Q E hr h => ?_)
  · obtain ⟨a, c, t, q, ws, A, ys, xs, b, kd, rfl, _⟩ := h
    rfl
  · obtain ⟨a, c, t, q, ws, A, ys, xs, b, kd, rfl, ha, hs, sq, hy, ly, ht, hx, an, bd, mb, k⟩ := h
    refine ⟨_, (pss_cons (ps_if (PW.pt (pw_or (pt_not (pt_val (pe_callB call_isi (by rfl) z.isinstance (by decide +kernel) (pa_cons (pv 2) (pa_cons (pe_bltn (v := .ty "tuple") (by rfl) z.tuple (by decide +kernel) rfl) pa_nil))))) (pw_or (pt_cmpR op_ne (pe_callB call_len_seq (by rfl) z.len PySem.boot_len (pa_cons (pv 2) pa_nil)) pe_int (nomark _)) (pw_or1 (pt_not (pt_val (pe_callB call_isi (by rfl) z.isinstance (by decide +kernel) (pa_cons (pe_ix ix_tup (pv 2) pe_int (fun _ _ => rfl)) (pa_cons (pe_bltn (v := .ty "list") (by rfl) z.list (by decide +kernel) rfl) pa_nil))))))))) (pss_one (ps_ret pe_bl)) pss_nil)
      (pss_cons (ps_if (PW.pt (pw_or (pt_not (pt_val (pe_cal c__law_plain hr (pa_cons (pe_ix ix_tup (pv 2) pe_int (fun _ _ => rfl)) pa_nil)))) (pw_or1 (pt_cmpR op_ne (pe_callB call_len_seq (by rfl) z.len PySem.boot_len (pa_cons (pe_ix ix_tup (pv 2) pe_int (fun _ _ => rfl)) pa_nil)) (pe_callB call_len_seq (by rfl) z.len PySem.boot_len (pa_cons (pv 1) pa_nil)) (nomark _))))) (pss_one (ps_ret pe_bl)) pss_nil)
      (pss_cons (ps_setLc (i := 3) (own := [("_law_row", 4)]) (g := gName 4) (tt := tYes) (te := (tCall (spLDot K) [] E0 (tCons (tVar 4) (tCons (tOp (rIxT K) (tVar 2) (tC (.int 1))) tNil)))) (by rfl) sc__law_right.nd rfl rfl (sw_true rfl rfl rfl (by decide +kernel)) (pi_list (pv 0)) (blkOk_by (own := [("_law_row", 4)]) (N := ["_law_matrix", "_law_right_here", "_law_told", "_law_come", "_law_row"]) (sc := defScope s__law_right) (by decide +kernel)) (fun _ _ _ _ _ => by exact (pg_name (i := 4) sc__law_right.nd rfl (.inl rfl))) (fun _ _ _ _ _ => by exact pts_nil) (fun _ _ _ _ _ => by exact (pe_cal c__law_dot hr (pa_cons (pv 4) (pa_cons (pe_ix ix_tup (pv 2) pe_int (fun _ _ => rfl)) pa_nil)))))
      (pss_cons (ps_if (pt_cmpR op_eq (pe_ix ix_tup (pv 2) pe_int (fun _ _ => rfl)) pe_str (nomark _)) (pss_one (ps_ret (pe_cmpR (op_eqD hr.units) (pv 3) (pv 1) (nomark _)))) pss_nil)
      (pss_one (ps_ret (pe_and (pe_cmpR op_eq (pe_ix ix_tup (pv 2) pe_int (fun _ _ => rfl)) pe_str (nomark _)) (pe_and (pe_cmpR (op_eqD hr.units) (pv 3) (pe_op op_rep (pe_lst (pa_cons (pe_tup (pa_cons pe_int (pa_cons pe_int pa_nil))) pa_nil)) (pe_callB call_len_seq (by rfl) z.len PySem.boot_len (pa_cons (pv 1) pa_nil))) (nomark _)) (pe_one (pe_cmpR (op_neD hr.units) (pe_ix ix_tup (pv 2) pe_int (fun _ _ => rfl)) (pv 3) (nomark _))))))))))), ?_⟩
    have lw := hs.1
    have n10 := sq.1
    have lx := an.1
    obtain ⟨vx, eq, fx⟩ := hx
    have hx : FrLK K H q xs := ⟨vx, eq, fx⟩
    have lvx := fx.1
    obtain ⟨vy, ec, lvy, fy⟩ := hy.len
    refine ⟨_, rfl, _, .ty "tuple", _, _, true, rfl, .ty _, .base (.tup ht), kit_ty (by decide +kernel), _, rfl, iteF ⟨_, rfl, t, _, rfl, .inr (SqT.of ht), rfl, _, rfl, iteF ⟨_, rfl, t, _, 1, .ref q, rfl, rfl, SqT.of ht, a1, _, .ty "list", _, _, true, rfl, .ty _, .base (.lst eq), kit_ty (by decide +kernel), _, rfl, iteF ?_⟩⟩⟩
    refine ⟨_, rfl, t, _, 1, .ref q, rfl, rfl, SqT.of ht, a1, q, xs, rfl, hx, by omega, bd.den, fun H1 s1 => ⟨_, rfl, iteF ?_⟩⟩
    have ht1 := s1 _ _ ht
    have eq1 := s1 _ _ eq
    have ec1 := s1 _ _ ec
    have ha1 := s1 _ _ ha
    refine ⟨_, rfl, t, _, 1, .ref q, rfl, rfl, SqT.of ht1, a1, q, vx, rfl, .inl (SqL.of eq1), _, rfl, c, _, rfl, .inl (SqL.of ec1), rfl, _, rfl, iteNT (by rw [lvx, lvy, lx, ly]) ?_⟩
    obtain ⟨D, D0, Dl, hD⟩ := mb.sc
    obtain ⟨E9, E0, El, hE⟩ := bd
    refine ⟨_, rfl, a, rfl, ⟨_, SqL.of ha1⟩, fun P hP => lc_list (K := K) (a := a) (xs := ws) (fun i G => Same H1 G ∧ FrL G P (comeL (A.take i) xs)) ⟨same_new hP, [], upd_same, by rw [List.take_zero]; exact .nil⟩ (fun i G _ hQ => SqL.of (hQ.1 _ _ ha1)) (fun i x G hxx hQ => ?_) (fun G hQ => ?_)⟩
    · obtain ⟨sG, vs, eP, fv⟩ := hQ
      obtain ⟨b1, r, rfl, hr2, fb⟩ := hs.get hxx
      have li := (List.getElem?_eq_some_iff.mp hr2).1
      have mr := List.mem_of_getElem? hr2
      have SG := s1.trans sG
      have lv := FrsAt.len fv
      unfold comeL at lv
      rw [List.length_map, List.length_take] at lv
      refine ⟨rfl, _, rfl, _, rfl, t, _, 1, .ref q, rfl, rfl, SqT.of (sG _ _ ht1), a1, b1, q, r, xs, D, E9, rfl, fb.same SG, hx.same SG, ⟨D0, Dl, hD r mr⟩, ⟨E0, El, hE⟩, by rw [sq.2 r mr, lx], by omega, fun p G2 hp s9 f9 => ?_⟩
      have eP9 := s9 _ _ eP
      refine ⟨_, eP9, small1000 (by omega), fun b o e => ?_, vs ++ [.ref p], upd_same, ?_⟩
      · rw [upd_ne (ne_of_none e hP)]
        exact s9 _ _ (sG _ _ e)
      · unfold comeL
        rw [show A.take (i + 1) = A.take i ++ [r] by rw [List.take_succ, hr2]; rfl, List.map_append]
        refine FrsAt.app (PrsAt.but (PrsAt.same fv s9) SameBut.upd eP9) (FrsAt.one ?_)
        show (upd G2 P _) p = _
        rw [upd_ne (ne_of f9 eP9 (fun z => nomatch z))]
        exact f9
    · obtain ⟨sG, fP⟩ := hQ
      rw [List.take_of_length_le (by omega)] at fP
      have SG := s1.trans sG
      have htG := SG _ _ ht
      have hyG := hy.same SG
      cases b with
      | true =>
        have e1 := come_one sq ly an
        refine ⟨_, rfl, t, _, 0, .str "one", rfl, rfl, SqT.of htG, a0, rfl, _, rfl, iteC (d := true) (decide_eq_true rfl) (iteT ?_)⟩
        refine ⟨_, rfl, _, rfl, .list ((comeL A xs).map frD), .list (ys.map frD), fP.dp, hyG.dp, frL_shaped _, frL_shaped _, ?_⟩
        rw [frL_eqv, decide_eq_true e1]
        exact k _ SG
      | false =>
        obtain ⟨e1, e2⟩ := come_non sq an
        refine ⟨_, rfl, t, _, 0, .str "none", rfl, rfl, SqT.of htG, a0, rfl, _, rfl, iteC (d := false) (by decide +kernel) (iteF ?_)⟩
        refine ⟨_, rfl, t, _, 0, .str "none", rfl, rfl, SqT.of htG, a0, rfl, ?_⟩
        refine ⟨_, rfl, iteC (d := true) (by decide +kernel) (iteT ?_)⟩
        refine ⟨_, rfl, (by show 2 ≤ sizeLine; decide), fun t0 ht0 => ⟨(by show 1 ≤ sizeLine; decide), fun l3 hl3 => ?_⟩⟩
        have s4 := same_new (o := .tup [.int 0, .int 1]) ht0
        have s5 := same_new (o := .lst [.ref t0]) hl3
        refine ⟨_, rfl, c, _, rfl, .inl (SqL.of (s5 _ _ (s4 _ _ (sG _ _ ec1)))), l3, (vy.length : Nat), [.ref t0], rfl, rfl, upd_same, by omega, by omega, Nat.le_trans (show 1 * ((vy.length : Nat) : Int).toNat ≤ 1000 by omega) (by decide), fun l4 hl4 => ?_⟩
        have eL9 : (List.replicate ((vy.length : Nat) : Int).toNat [V.ref t0]).flatten = List.replicate vy.length (V.ref t0) := by
          rw [Int.toNat_natCast]
          generalize vy.length = n
          induction n with
          | zero => rfl
          | succ n ih => rw [List.replicate_succ, List.flatten_cons, ih]; rfl
        rw [eL9]
        have s6 := same_new (o := .lst (List.replicate vy.length (V.ref t0))) hl4
        have S6 := s4.trans (s5.trans s6)
        have f0 : Fr _ t0 0 := nul_fr (s6 _ _ (s5 _ _ upd_same))
        have fZ : FrL _ l4 (List.replicate vy.length 0) := ⟨_, upd_same, FrsAt.rep f0 _⟩
        refine ⟨.list ((comeL A xs).map frD), .list ((List.replicate vy.length 0).map frD), (fP.same S6).dp, fZ.dp, frL_shaped _, frL_shaped _, ?_⟩
        rw [frL_eqv, decide_eq_true (by rw [e1, lvy, ly])]
        refine ⟨_, rfl, iteT ?_⟩
        refine ⟨_, rfl, t, _, 1, .ref q, rfl, rfl, SqT.of (S6 _ _ htG), a1, _, rfl, .list (xs.map frD), .list ((comeL A xs).map frD), (hx.same (SG.trans S6)).dp, (fP.same S6).dp, frL_shaped _, frL_shaped _, ?_⟩
        rw [frL_eqv, decide_eq_false e2]
        exact k _ (SG.trans S6)
end
end E1

namespace E1
open PySem PySem.Spec PyProof.Rows L2
theorem cut_ints (ns : List Int) (lo hi : Option Int) : ∃ cs : List Int, cutV (ns.map V.int) lo hi = cs.map V.int := by
  unfold cutV
  rw [← List.map_drop, ← List.map_take]
  exact ⟨_, rfl⟩

theorem Same.seq {K : PySem.W.Frag} {H H' : Hp} {a : Addr} {xs : List V} (s : Same H H') (h : SqL K H a xs) : SqL K H' a xs := by
  rcases h with (h | ⟨o, h⟩) | h
  · exact .inl (.inl (s _ _ h))
  · exact .inl (.inr ⟨o, s _ _ h⟩)
  · exact .inr h
theorem hd_shaped (A : List (List Rat)) (ys : List Rat) : SeqAt.shaped (.list [.list (llD A), .list (ys.map frD)]) = true := by
  have h1 := ll_deep A
  have h2 := frDs_deep ys
  have h3 : PyData.depth (.list [.list (llD A), .list (ys.map frD)]) ≤ 64 := by simp only [PyData.depth, PyData.depthAll]; omega
  show (PyData.canLay0 _ && decide (PyData.depth _ ≤ 64)) = true
  rw [Bool.and_eq_true]
  exact ⟨by simp only [PyData.canLay0, PyData.canLayAll0, Bool.and_true]; rw [ll_lay, frDs_lay]; rfl, decide_eq_true h3⟩
theorem hd_eqv (A : List (List Rat)) (ys : List Rat) : PyData.eqv (.list [.list (llD A), .list (ys.map frD)]) (.list [.list (llD A), .list (ys.map frD)]) = true := SeqAt.eqv_refl _ (SeqAt.canLay_of_shaped (hd_shaped A ys))
def tkD (b : Bool) (xs : List Rat) : PyData := .tuple [.str (if b = true then "one" else "none"), .list (xs.map frD)]
theorem tk_shaped (b : Bool) (xs : List Rat) : SeqAt.shaped (tkD b xs) = true := by
  have h2 := frDs_deep xs
  unfold tkD
  have h3 : PyData.depth (.tuple [.str (if b = true then "one" else "none"), .list (xs.map frD)]) ≤ 64 := by simp only [PyData.depth, PyData.depthAll]; omega
  show (PyData.canLay0 _ && decide (PyData.depth _ ≤ 64)) = true
  rw [Bool.and_eq_true]
  exact ⟨by simp only [PyData.canLay0, PyData.canLayAll0, Bool.and_true]; rw [frDs_lay]; cases b <;> decide +kernel, decide_eq_true h3⟩
theorem tk_eqv (b : Bool) (xs : List Rat) : PyData.eqv (tkD b xs) (tkD b xs) = true := SeqAt.eqv_refl _ (SeqAt.canLay_of_shaped (tk_shaped b xs))
theorem tk_dp {K : PySem.W.Frag} {H : Hp} {p q : Addr} {b : Bool} {xs : List Rat} (h : H p = some (.tup [flagV b, .ref q])) (f : FrLK K H q xs) : Dp K H (.ref p) (tkD b xs) := by
  refine .tup (SqT.of h) (.cons ?_ (.cons f.dp .nil))
  cases b
  · exact .str _
  · exact .str _
theorem SeL.dpAll {K : PySem.W.Frag} {H : Hp} : ∀ {ss : List (List Rat)} {vs : List V}, SeL H vs ss → DpAll K H vs (llD ss)
  | [], vs, h => by
    have : vs = [] := List.length_eq_zero_iff.mp h.1
    subst this
    exact .nil
  | s :: ss, [], h => by
    have := h.1
    cases this
  | s :: ss, v :: vs, h => by
    obtain ⟨b, e, f⟩ := h.2 0 s rfl
    cases e
    exact .cons f.dp (SeL.dpAll ⟨Nat.succ.inj h.1, fun i r hr => h.2 (i + 1) r hr⟩)
theorem MBb.mb {kd : Int} {A : List (List Rat)} (h : MBb kd A) : MB kd A := by
  obtain ⟨D, D0, Dl, h⟩ := h
  have bm : bM kd ≤ mB kd := by unfold bM mB; split <;> decide +kernel
  exact ⟨D, D0, Dl, fun r hr q hq => (h r hr q hq).mono bm⟩
theorem Dn.to {kd : Int} {k m : Nat} {D : Int} (h : Dn kd k D) (l : kd ≠ 0 → k ≤ m) : Dn kd m D := ⟨h.ne, h.z, fun c => Nat.le_trans (h.nz c) (Nat.pow_le_pow_right (by decide) (by have := l c; omega))⟩
theorem Dn.mb {kd : Int} {D : Int} {A : List (List Rat)} (h : Dn kd 16 D) (e : EnL D (mP kd) A) : MB kd A := by
  have mp : mP kd ≤ mB kd := by unfold mP mB; split <;> decide +kernel
  refine ⟨D, h.ne, ?_, fun r hr q hq => (e r hr q hq).mono mp⟩
  unfold dB
  by_cases c : kd = 0
  · rw [if_pos c, h.z c]
    decide
  · rw [if_neg c]
    exact h.nz c
theorem sqT_but {K : PySem.W.Frag} {H H' : Hp} {a q : Addr} {xs us : List V} (h : SqT K H a xs) (d : SameBut q H H') (hq : H q = some (.lst us)) : SqT K H' a xs := by
  have ne : ∀ {o : HO}, H a = some o → o ≠ .lst us → a ≠ q := fun e n z => by
    rw [z, hq] at e
    exact n (Option.some.inj e).symm
  rcases h with (h | ⟨o, h⟩) | h
  · exact .inl (.inl (d _ _ (ne h fun z => nomatch z) h))
  · exact .inl (.inr ⟨o, d _ _ (ne h fun z => nomatch z) h⟩)
  · exact .inr h
theorem scal_flag (b : Bool) : scal (flagV b) (flagV b) = true := by cases b <;> rfl
theorem zeros_eq (p : V) (n : Nat) : (List.replicate ((n : Nat) : Int).toNat [p]).flatten = List.replicate n p := by
  rw [Int.toNat_natCast]
  induction n with
  | zero => rfl
  | succ n ih => rw [List.replicate_succ, List.flatten_cons, ih]; rfl
/-- what the flag must be -/
def Due (way : Int) (n : Nat) (A : List (List Rat)) : Prop := (way = 2 ∧ 0 < n → Dep n A) ∧ (way ≠ 0 ∧ ¬ (way = 2 ∧ 0 < n) → Reg n A)
def spLaw (K : PySem.W.Frag) : Sp := fun vs H Q _ => ∃ (a : Addr) (ns : List Int), vs = [.ref a] ∧ SqL K H a (ns.map V.int) ∧ ns.length ≤ 63 ∧ ∀ H', Q (.bl true) H'
section
variable {P : Program} {w : World} {K : PySem.W.Frag} {mg : Str → Option Value} {base : Heap}
theorem sc_law : FnScope ["_law_script", "_law_at", "_law_cell", "_law_well_here", "_law_way", "_law_kind", "_law_many", "_law_matrix", "_law_right_here", "_law_handed", "_law_told", "_law_kept", "_law_again", "_law_k", "_law_i", "_law_row", "_law_j"] ["_law_script"] (defScope s_law) := ⟨rfl, rfl, rfl, by decide +kernel, rfl, by decide +kernel, by decide +kernel⟩
theorem ok_law {f : Addr} {fd : FuncData} (F : Fun K "law" "law" s_law f fd) (z : Zs mg) (c__law_cell_at : Cal P w K mg base 1 "_law_cell_at" ["_law_script", "_law_k"] (spCell K)) (c__law_well : Cal P w K mg base 1 "_law_well" ["_law_cell"] spWell) (c__law_draw : Cal P w K mg base 1 "_law_draw" ["_law_well_here", "_law_many"] spDraw) (c__law_one : Cal P w K mg base 2 "_law_one" ["_law_well_here", "_law_some"] spOne) (c__law_place : Cal P w K mg base 2 "_law_place" ["_law_well_here", "_law_kind"] spPlace) (c__law_built : Cal P w K mg base 4 "_law_built" ["_law_well_here", "_law_many", "_law_kind"] spBuilt) (c__law_flat : Cal P w K mg base 3 "_law_flat" ["_law_well_here", "_law_rows"] spFlat) (c_solved : Cal P w K mg base 8 "solved" ["matrix", "right"] (spSolved K)) (c__law_right : Cal P w K mg base 4 "_law_right" ["_law_matrix", "_law_right_here", "_law_told"] (spRight K)) : FnOk P w K mg base CX0 9 f fd ["_law_script"] (spLaw K) := by
  refine F.ok sc_law (fun vs H Q E h => ?_) (fun cdv A outer s H vs Q E hr h => ?_)
  · obtain ⟨a, ns, rfl, _⟩ := h
    rfl
  · obtain ⟨a, ns, rfl, hS, hn, q_⟩ := h
    refine ⟨_, (pss_cons (ps_for PassesOwn.never rfl (pi_enum (by rfl) z.enumerate (pa_cons (pe_op op_cat (pe_lst (pa_cons (pe_cal c__law_cell_at hr (pa_cons (pv 0) (pa_cons pe_int pa_nil))) pa_nil)) (pe_slice sl_list (pv 0) (po_some pe_int) (po_some pe_int))) pa_nil)) (pg_tup (by rfl) (pgs_cons (pg_name (i := 1) sc_law.nd rfl (.inl rfl)) (pgs_cons (pg_name (i := 2) sc_law.nd rfl (.inl rfl)) pgs_nil))) (pss_cons (ps_set (i := 3) sc_law.nd rfl (.inr rfl) (pe_cal c__law_well hr (pa_cons (pv 2) pa_nil)))
      (pss_cons (ps_set (i := 4) sc_law.nd rfl (.inl rfl) (pe_cal c__law_draw hr (pa_cons (pv 3) (pa_cons pe_int pa_nil))))
      (pss_cons (ps_set (i := 5) sc_law.nd rfl (.inr rfl) (pe_op op_fdiv (pe_cal c__law_draw hr (pa_cons (pv 3) (pa_cons pe_int pa_nil))) pe_int))
      (pss_cons (ps_set (i := 6) sc_law.nd rfl (.inr rfl) (pe_cal c__law_one hr (pa_cons (pv 3) (pa_cons (pe_lst (pa_cons pe_int (pa_cons pe_int (pa_cons pe_int (pa_cons pe_int (pa_cons pe_int (pa_cons pe_int pa_nil))))))) pa_nil))))
      (C8.pss_cut (ps_if (PW.pt (pw_and (pt_cmpR op_eq (pv 1) pe_int (nomark _)) (pw_and (pt_cmpR op_eq (pv 5) pe_int (nomark _)) (pw_and1 (pt_cmpR op_eq (pe_cal c__law_draw hr (pa_cons (pv 3) (pa_cons pe_int pa_nil))) pe_int (nomark _)))))) (pss_one (ps_set (i := 6) sc_law.nd rfl (.inr rfl) (pe_cal c__law_one hr (pa_cons (pv 3) (pa_cons (pe_lst (pa_cons pe_int (pa_cons pe_int (pa_cons pe_int pa_nil)))) pa_nil))))) pss_nil)
      (C8.pss_cut (ps_if (pt_cmpR op_eq (pv 4) pe_int (nomark _)) (pss_one (ps_setLc (i := 7) (own := [("_law_i", 14)]) (g := gName 14) (tt := tYes) (te := (tLc (iRng1 (tCons (tVar 6) tNil)) (gName 16) tYes (tCall spPlace [] E0 (tCons (tVar 3) (tCons (tVar 5) tNil))) (([("_law_j", 16)] : List (Str × Nat)).map (·.2)))) (by rfl) sc_law.nd rfl rfl (sw_true rfl rfl rfl (by decide +kernel)) (pi_range1 (by rfl) z.range (pa_cons (pv 6) pa_nil)) (blkOk_by (own := [("_law_i", 14)]) (N := ["_law_script", "_law_at", "_law_cell", "_law_well_here", "_law_way", "_law_kind", "_law_many", "_law_matrix", "_law_right_here", "_law_handed", "_law_told", "_law_kept", "_law_again", "_law_k", "_law_i", "_law_row", "_law_j"]) (sc := defScope s_law) (by decide +kernel)) (fun _ _ _ _ _ => by exact (pg_name (i := 14) sc_law.nd rfl (.inl rfl))) (fun _ _ _ _ _ => by exact pts_nil) (fun _ _ _ _ _ => by exact (@pe_lc _ _ _ _ _ _ _ _ _ _ _ _ (by rfl) sc_law.nd (pi_range1 (by rfl) z.range (pa_cons (pv 6) pa_nil)) (blkOk_by (own := [("_law_j", 16)]) (N := ["_law_script", "_law_at", "_law_cell", "_law_well_here", "_law_way", "_law_kind", "_law_many", "_law_matrix", "_law_right_here", "_law_handed", "_law_told", "_law_kept", "_law_again", "_law_k", "_law_i", "_law_row", "_law_j"]) (sc := ({ kind := PySem.ScopeKind.function, names := [(".0", .local), ("_law_i", .local), ("range", .globalImplicit), ("_law_kind", .cell), ("_law_many", .cell), ("_law_well_here", .cell)], isGenerator := false, isCoroutine := false, more := [] })) (by decide +kernel)) (fun _ _ _ _ _ => by exact (pg_name (i := 16) sc_law.nd rfl (.inl rfl))) (fun _ _ _ _ _ => by exact pts_nil) (fun _ _ _ _ _ => by exact (pe_cal c__law_place hr (pa_cons (pv 3) (pa_cons (pv 5) pa_nil)))) (by intro _; rfl))))) (pss_one (ps_set (i := 7) sc_law.nd rfl (.inl rfl) (pe_cal c__law_built hr (pa_cons (pv 3) (pa_cons (pv 6) (pa_cons (pv 5) pa_nil)))))))
      (C8.pss_cut (ps_if (PW.pt (pw_and (pt_cmpR op_eq (pv 4) pe_int (nomark _)) (pw_and1 (pt_cmpR op_gt (pv 6) pe_int (nomark _))))) (pss_one (ps_set (i := 7) sc_law.nd rfl (.inl rfl) (pe_cal c__law_flat hr (pa_cons (pv 3) (pa_cons (pv 7) pa_nil))))) pss_nil)
      (pss_cons (ps_setLc (i := 8) (own := [("_law_k", 13)]) (g := gName 13) (tt := tYes) (te := (tCall spPlace [] E0 (tCons (tVar 3) (tCons (tVar 5) tNil)))) (by rfl) sc_law.nd rfl rfl (sw_true rfl rfl rfl (by decide +kernel)) (pi_range1 (by rfl) z.range (pa_cons (pv 6) pa_nil)) (blkOk_by (own := [("_law_k", 13)]) (N := ["_law_script", "_law_at", "_law_cell", "_law_well_here", "_law_way", "_law_kind", "_law_many", "_law_matrix", "_law_right_here", "_law_handed", "_law_told", "_law_kept", "_law_again", "_law_k", "_law_i", "_law_row", "_law_j"]) (sc := defScope s_law) (by decide +kernel)) (fun _ _ _ _ _ => by exact (pg_name (i := 13) sc_law.nd rfl (.inl rfl))) (fun _ _ _ _ _ => by exact pts_nil) (fun _ _ _ _ _ => by exact (pe_cal c__law_place hr (pa_cons (pv 3) (pa_cons (pv 5) pa_nil)))))
      (C8.pss_cut (ps_if (pt_cmpR op_eq (pe_cal c__law_draw hr (pa_cons (pv 3) (pa_cons pe_int pa_nil))) pe_int (nomark _)) (pss_one (ps_set (i := 8) sc_law.nd rfl (.inl rfl) (pe_op op_rep (pe_lst (pa_cons (pe_tup (pa_cons pe_int (pa_cons pe_int pa_nil))) pa_nil)) (pv 6)))) pss_nil)
      (pss_cons (ps_set (i := 9) sc_law.nd rfl (.inl rfl) (pe_lst (pa_cons (pe_lc (own := [("_law_row", 15)]) (g := gName 15) (tt := tYes) (te := (tCB (fun xs H Q => ∃ p ys, xs = [V.ref p] ∧ (SqL K H p ys ∨ SqT K H p ys) ∧ ∀ l, H l = none → Q (.ref l) (upd H l (.lst ys))) (tCons (tVar 15) tNil))) (by rfl) sc_law.nd (pi_list (pv 7)) (blkOk_by (own := [("_law_row", 15)]) (N := ["_law_script", "_law_at", "_law_cell", "_law_well_here", "_law_way", "_law_kind", "_law_many", "_law_matrix", "_law_right_here", "_law_handed", "_law_told", "_law_kept", "_law_again", "_law_k", "_law_i", "_law_row", "_law_j"]) (sc := defScope s_law) (by decide +kernel)) (fun _ _ _ _ _ => by exact (pg_name (i := 15) sc_law.nd rfl (.inl rfl))) (fun _ _ _ _ _ => by exact pts_nil) (fun _ _ _ _ _ => by exact (pe_callTy call_list_of (by rfl) z.list (by decide +kernel) (pa_cons (pv 15) pa_nil)))) (pa_cons (pe_callTy call_list_of (by rfl) z.list (by decide +kernel) (pa_cons (pv 8) pa_nil)) pa_nil))))
      (pss_cons (ps_set (i := 10) sc_law.nd rfl (.inl rfl) (pe_cal c_solved hr (pa_cons (pe_ix ix_list (pv 9) pe_int (fun _ _ => rfl)) (pa_cons (pe_ix ix_list (pv 9) pe_int (fun _ _ => rfl)) pa_nil))))
      (pss_cons (ps_if (PW.pt (pw_or (pt_not (pt_val (pe_cal c__law_right hr (pa_cons (pv 7) (pa_cons (pv 8) (pa_cons (pv 10) pa_nil)))))) (pw_or1 (pt_cmpR (op_neD hr.units) (pv 9) (pe_lst (pa_cons (pv 7) (pa_cons (pv 8) pa_nil))) (nomark _))))) (pss_one (ps_ret pe_bl)) pss_nil)
      (C8.pss_cut (ps_if (PW.pt (pw_and (pt_cmpR op_gt (pv 4) pe_int (nomark _)) (pw_and1 (pt_cmpR op_ne (pe_ix ix_tup (pv 10) pe_int (fun _ _ => rfl)) (pe_ix ix_list (pe_lst (pa_cons pe_str (pa_cons pe_str pa_nil))) (pe_callTy call_int1 (by rfl) z.int (by decide +kernel) (pa_cons (pe_and (pe_cmpR op_eq (pv 4) pe_int (nomark _)) (pe_one (pe_cmpR op_gt (pv 6) pe_int (nomark _)))) pa_nil)) (fun _ _ => rfl)) (nomark _))))) (pss_one (ps_ret pe_bl)) pss_nil)
      (pss_cons (ps_set (i := 11) sc_law.nd rfl (.inl rfl) (pe_tup (pa_cons (pe_ix ix_tup (pv 10) pe_int (fun _ _ => rfl)) (pa_cons (pe_callTy call_list_of (by rfl) z.list (by decide +kernel) (pa_cons (pe_ix ix_tup (pv 10) pe_int (fun _ _ => rfl)) pa_nil)) pa_nil))))
      (pss_cons (ps_expr (pe_bm PySem.F.plainAttrs_list PySem.F.slot_list_append PySem.F.type_list_append mt_append (pe_ix ix_tup (pv 10) pe_int (fun _ _ => rfl)) (pa_cons pe_int pa_nil)))
      (pss_cons (ps_if (PW.pt (pw_or (pt_cmpR (op_neD hr.units) (pe_cal c_solved hr (pa_cons (pe_ix ix_list (pv 9) pe_int (fun _ _ => rfl)) (pa_cons (pe_ix ix_list (pv 9) pe_int (fun _ _ => rfl)) pa_nil))) (pv 11) (nomark _)) (pw_or1 (pt_cmpR op_ne (pe_ix ix_tup (pv 11) pe_int (fun _ _ => rfl)) (pe_ix ix_tup (pe_cal c_solved hr (pa_cons (pv 7) (pa_cons (pe_op op_rep (pe_lst (pa_cons (pe_tup (pa_cons pe_int (pa_cons pe_int pa_nil))) pa_nil)) (pv 6)) pa_nil))) pe_int (fun _ _ => rfl)) (nomark _))))) (pss_one (ps_ret pe_bl)) pss_nil)
      (pss_cons (ps_set (i := 12) sc_law.nd rfl (.inl rfl) (pe_cal c_solved hr (pa_cons (pe_revL (pv 7)) (pa_cons (pe_revL (pv 8)) pa_nil))))
      (pss_one (ps_if (PW.pt (pw_or (pt_cmpR op_ne (pe_ix ix_tup (pv 12) pe_int (fun _ _ => rfl)) (pe_ix ix_tup (pv 11) pe_int (fun _ _ => rfl)) (nomark _)) (pw_or1 (PW.pt (pw_and (pt_cmpR op_eq (pe_ix ix_tup (pv 12) pe_int (fun _ _ => rfl)) pe_str (nomark _)) (pw_and1 (pt_cmpR (op_neD hr.units) (pv 12) (pv 11) (nomark _)))))))) (pss_one (ps_ret pe_bl)) pss_nil))))))))))))))))))))
      (pss_one (ps_ret (pe_cmpR (op_eqD hr.units) (pe_cal c_solved hr (pa_cons (pe_lst pa_nil) (pa_cons (pe_lst pa_nil) pa_nil))) (pe_tup (pa_cons pe_str (pa_cons (pe_lst pa_nil) pa_nil))) (nomark _))))), ?_⟩
    obtain ⟨cs, hcs⟩ := cut_ints ns (some 1) (some 6)
    have hcl := cutV_length (ns.map V.int) (some 1) (some 6)
    rw [List.length_map] at hcl
    refine ⟨_, rfl, a, ns, 0, rfl, hS, (by show 1 ≤ sizeLine; decide), fun l0 h0 => ?_⟩
    have s0 := same_new (o := .lst [V.int (ns.getD 0 0)]) h0
    refine ⟨_, rfl, _, rfl, _, rfl, a, _, rfl, s0.seq hS, fun l1 h1 => ?_⟩
    rw [hcs]
    rw [hcs, List.length_map] at hcl
    have s1 := same_new (o := .lst (cs.map V.int)) h1
    refine ⟨l0, l1, _, _, rfl, rfl, s1 _ _ upd_same, upd_same, Nat.le_trans (show 1 + (cs.map V.int).length ≤ 1000 by rw [List.length_map]; omega) (by decide), fun L hL => ?_⟩
    have eL : [V.int (ns.getD 0 0)] ++ cs.map V.int = (ns.getD 0 0 :: cs).map V.int := rfl
    rw [eL]
    clear eL
    refine ⟨L, _, rfl, SqL.of upd_same, ?_⟩
    refine for_it (walk_enum (K := K) (a := L) (xs := (ns.getD 0 0 :: cs).map V.int)) (fun i σ G => G L = some (.lst ((ns.getD 0 0 :: cs).map V.int)) ∧ ∃ y1 y2 y3 y4 y5 y6 y7 y8 y9 y10 y11 y12 y13 y14 y15 y16 : Option V, σ = [some (.ref a), y1, y2, y3, y4, y5, y6, y7, y8, y9, y10, y11, y12, y13, y14, y15, y16]) ⟨upd_same, none, none, none, none, none, none, none, none, none, none, none, none, none, none, none, none, rfl⟩ (fun i σ G _ hP => SqL.of hP.1) (fun i x σ G G' hi hP hY => ?_) (fun σ G hP => ?_)
    · obtain ⟨l00, y1, y2, y3, y4, y5, y6, y7, y8, y9, y10, y11, y12, y13, y14, y15, y16, rfl⟩ := hP
      obtain ⟨Tq, u, v2, rfl, nT, rfl, e2, e3⟩ := hY
      dsimp only at e2 e3
      cases e2
      rw [List.getElem?_map] at e3
      obtain ⟨cell, _, rfl⟩ := Option.map_eq_some_iff.mp e3
      generalize (ns.getD 0 0 :: cs).map V.int = cells at *
      have sN := same_new (o := .tup [.int ((i : Nat) : Int), .int cell]) nT
      have hTq : (upd G Tq (.tup [.int ((i : Nat) : Int), .int cell])) Tq = some (.tup [.int ((i : Nat) : Int), .int cell]) := upd_same
      have l01 := sN _ _ l00
      generalize upd G Tq _ = G0 at sN hTq l01 ⊢
      refine ⟨Tq, _, rfl, SqT.of hTq, rfl, _, _, rfl, _, _, rfl, rfl, ?_⟩
      refine ⟨_, rfl, cell, rfl, fun ww hp H1 s1 w1 => ?_⟩
      refine ⟨_, rfl, ww, 0, 4, rfl, w1, by omega, by decide, small9000 (by decide) (by decide), fun way H2 way0 way1 d2 f2 w2 => ?_⟩
      refine ⟨_, rfl, ww, 0 + 1, 3, rfl, w2, by omega, by decide, small9000 (by decide) (by decide), fun r3 H3 r30 r31 d3 f3 w3 => ⟨_, _, rfl, rfl, ⟨by decide, by decide⟩, ?_⟩⟩
      refine ⟨_, rfl, (by show 6 ≤ sizeLine; decide), fun l6 hl6 => ?_⟩
      have s6 := same_new (o := .lst [.int 2, .int 3, .int 1, .int 4, .int 0, .int 2]) hl6
      refine ⟨ww, l6, 0 + 1 + 1, _, rfl, w3.same s6, by omega, w3.ne hl6, upd_same, (by show 0 < 6; decide), (by show 6 ≤ 1000; decide), fun v hv H7 d7 f7 w7 => ?_⟩
      obtain ⟨n, rfl, hn4⟩ : ∃ n : Nat, v = .int (n : Nat) ∧ n ≤ 4 := by
        simp only [List.mem_cons, List.not_mem_nil, or_false] at hv
        rcases hv with rfl | rfl | rfl | rfl | rfl | rfl
        · exact ⟨2, rfl, by decide⟩
        · exact ⟨3, rfl, by decide⟩
        · exact ⟨1, rfl, by decide⟩
        · exact ⟨4, rfl, by decide⟩
        · exact ⟨0, rfl, by decide⟩
        · exact ⟨2, rfl, by decide⟩
      have S7 : Same G0 H7 := same_but (same_but (same_but s1 d2 hp) d3 hp |>.trans s6) d7 hp
      have w7 : WellAt H7 ww 5 := w7.mono (by omega)
      clear d2 f2 w2 d3 f3 w3 s6 d7 f7 hl6 hv w1 s1
      refine ⟨fun σ' H' => ∃ n : Nat, σ' = [some (.ref a), some (.int ((i : Nat) : Int)), some (.int cell), some (.ref ww), some (.int way), some (.int (r3 / 2)), some (.int (n : Nat)), y7, y8, y9, y10, y11, y12, y13, y14, y15, y16] ∧ Same G0 H' ∧ WellAt H' ww 10 ∧ NK (r3 / 2) n, ?_, fun σ' H' hM => ?_⟩
      · have base : ∀ H', Same G0 H' → WellAt H' ww 6 → ∃ m : Nat, [some (.ref a), some (.int ((i : Nat) : Int)), some (.int cell), some (.ref ww), some (.int way), some (.int (r3 / 2)), some (.int (n : Nat)), y7, y8, y9, y10, y11, y12, y13, y14, y15, y16] = [some (.ref a), some (.int ((i : Nat) : Int)), some (.int cell), some (.ref ww), some (.int way), some (.int (r3 / 2)), some (.int (m : Nat)), y7, y8, y9, y10, y11, y12, y13, y14, y15, y16] ∧ Same G0 H' ∧ WellAt H' ww 10 ∧ NK (r3 / 2) m := fun H' s w => ⟨n, rfl, s, w.mono (by omega), by omega, fun _ => hn4⟩
        refine ⟨_, rfl, rfl, _, rfl, ite2 (fun c1 => ?_) (fun c1 => iteF (base _ S7 (w7.mono (by omega))))⟩
        refine ⟨_, rfl, rfl, _, rfl, ite2 (fun c2 => ?_) (fun c2 => iteF (base _ S7 (w7.mono (by omega))))⟩
        have k0 : (r3 / 2) = 0 := V.int.inj (toB c2)
        refine ⟨_, rfl, ww, 5, 4, rfl, w7, by omega, by decide, small9000 (by decide) (by decide), fun r8 H8 r80 r81 d8 f8 w8 => ?_⟩
        have S8 := same_but S7 d8 hp
        refine ⟨rfl, _, rfl, ite2 (fun c3 => ?_) (fun c3 => (base _ S8 w8))⟩
        refine ⟨_, rfl, (by show 3 ≤ sizeLine; decide), fun l6 hl6 => ?_⟩
        have s6 := same_new (o := .lst [.int 5, .int 7, .int 10]) hl6
        refine ⟨ww, l6, 5 + 1, _, rfl, w8.same s6, by omega, w8.ne hl6, upd_same, (by show 0 < 3; decide), (by show 3 ≤ 1000; decide), fun v hv H9 d9 f9 w9 => ?_⟩
        obtain ⟨m, rfl, hm⟩ : ∃ n : Nat, v = .int (n : Nat) ∧ n ≤ 10 := by
          simp only [List.mem_cons, List.not_mem_nil, or_false] at hv
          rcases hv with rfl | rfl | rfl
          · exact ⟨5, rfl, by decide⟩
          · exact ⟨7, rfl, by decide⟩
          · exact ⟨10, rfl, by decide⟩
        exact ⟨m, rfl, same_but (S8.trans s6) d9 hp, w9.mono (by omega), hm, fun h => absurd k0 h⟩
      obtain ⟨n, rfl, S7, w7, nk⟩ := hM
      have n10 := nk.1
      obtain ⟨D00, dn00⟩ := Dn.start (r3 / 2)
      refine ⟨fun σ' H' => ∃ (b : Addr) (ws : List V) (A : List (List Rat)), σ' = [some (.ref a), some (.int ((i : Nat) : Int)), some (.int cell), some (.ref ww), some (.int way), some (.int (r3 / 2)), some (.int (n : Nat)), some (.ref b), y8, y9, y10, y11, y12, y13, y14, y15, y16] ∧ Same G0 H' ∧ WellAt H' ww 800 ∧ H' b = some (.lst ws) ∧ SeL H' ws A ∧ Sq A ∧ A.length = n ∧ MB (r3 / 2) A ∧ (way ≠ 0 → MBb (r3 / 2) A ∧ Reg n A), ?_, fun σ' H' hM => ?_⟩
      · refine ⟨_, rfl, rfl, _, rfl, ite2 (fun c1 => ?_) (fun c1 => ?_)⟩
        · have wz : way = 0 := V.int.inj (toB c1)
          refine ⟨_, rfl, n, rfl, by omega, by omega, fun P hP => ?_⟩
          rw [Int.toNat_natCast]
          have nP := w7.ne hP
          have sP := same_new (o := .lst []) hP
          refine lc_range (lo := 0) (n := n) (fun i1 X => SameBut ww H' X ∧ WellAt X ww (10 + 20 * (i1 : Int)) ∧ ∃ us A, X P = some (.lst us) ∧ (∀ v ∈ us, v ≠ .ref P) ∧ SeL X us A ∧ A.length = i1 ∧ (∀ r ∈ A, r.length = n) ∧ ∃ D, Dn (r3 / 2) (4 * i1) D ∧ EnL D (mP (r3 / 2)) A) ⟨SameBut.of sP, (w7.same sP).mono (by omega), [], [], upd_same, (fun v hv => absurd hv List.not_mem_nil), ⟨rfl, fun i r e => by cases e⟩, rfl, (fun r hr => absurd hr List.not_mem_nil), D00, dn00, fun r hr => absurd hr List.not_mem_nil⟩ (fun i1 X hi1 hQ => ?_) (fun X hQ => ?_)
          · obtain ⟨bX, wX, us, A, eP, nus, sA, lA, rowl, D1, dn1, en1⟩ := hQ
            refine ⟨rfl, ?_⟩
            refine ⟨_, rfl, n, rfl, by omega, by omega, fun P2 hP2 => ?_⟩
            rw [Int.toNat_natCast]
            have nP2 := wX.ne hP2
            have sP2 := same_new (o := .lst []) hP2
            refine lc_range (lo := 0) (n := n) (fun j Z => SameBut ww X Z ∧ WellAt Z ww (10 + 20 * (i1 : Int) + 2 * (j : Int)) ∧ ∃ vs qs, Z P2 = some (.lst vs) ∧ FrsAt Z vs qs ∧ qs.length = j ∧ ∃ D, Dn (r3 / 2) (4 * i1 + j) D ∧ (∀ M x, SM D1 M x → SM D M x) ∧ ∀ q ∈ qs, SM D (mP (r3 / 2)) q) ⟨SameBut.of sP2, (wX.same sP2).mono (by omega), [], [], upd_same, .nil, rfl, D1, dn1, (fun M x h => h), fun q h => absurd h List.not_mem_nil⟩ (fun j Z hj hQ3 => ?_) (fun Z hQ3 => ?_)
            · obtain ⟨bZ, wZ, vs, qs, eZ, fZ, lq, D, dn, gr, sq⟩ := hQ3
              have lv := FrsAt.len fZ
              refine ⟨rfl, _, rfl, _, rfl, ww, _, (r3 / 2), rfl, wZ, by omega, fun p q Y hp2 dY wY fY pl => ?_⟩
              obtain ⟨D', dn', gr', sq'⟩ := dn.more pl
              have eY := dY _ _ nP2 eZ
              have np : p ≠ P2 := fun e => by
                rw [e, eZ] at hp2
                cases hp2
              refine ⟨_, eY, small1000 (by omega), fun b o nb e => ?_, ?_, vs ++ [.ref p], qs ++ [q], upd_same, ?_, by rw [List.length_append, lq]; rfl, D', dn', fun M x h => gr' M x (gr M x h), fun x hx => ?_⟩
              · rw [upd_ne (ne_of_none e hP2)]
                exact dY _ _ nb (bZ _ _ nb e)
              · obtain ⟨x, y, zz, e, e1, e2, e3, e4⟩ := wY
                exact ⟨x, y, zz, by rw [upd_ne (Ne.symm nP2)]; exact e, e1, e2, e3, by omega⟩
              · refine FrsAt.app (PrsAt.but (PrsAt.well fZ dY wZ) SameBut.upd eY) (FrsAt.one ?_)
                show (upd Y P2 _) p = _
                rw [upd_ne np]
                exact fY
              · rcases List.mem_append.mp hx with hx | hx
                · exact gr' _ _ (sq x hx)
                · rw [List.mem_singleton.mp hx]
                  exact sq'
            · obtain ⟨bZ, wZ, vs, qs, eZ, fZ, lq, D, dn, gr, sq⟩ := hQ3
              have ePZ := bZ _ _ nP eP
              have nPP : P2 ≠ P := fun e => by
                rw [e, eP] at hP2
                cases hP2
              have fr9 : FrL Z P2 qs := ⟨vs, eZ, fZ⟩
              refine ⟨_, ePZ, small1000 (by have := sA.1; omega), fun b o nb e => ?_, ?_, us ++ [.ref P2], A ++ [qs], upd_same, fun v hv => ?_, SeL.app ((sA.well bZ wX).butN ePZ nus SameBut.upd) (SeL.one (fr9.but nPP SameBut.upd ePZ)), by rw [List.length_append, lA]; rfl, fun r hr => ?_, D, dn.to (fun h => by have := nk.2 h; omega), fun r hr q hq => ?_⟩
              · rw [upd_ne (ne_of_none e hP)]
                exact bZ _ _ nb (bX _ _ nb e)
              · obtain ⟨x, y, zz, e, e1, e2, e3, e4⟩ := wZ
                exact ⟨x, y, zz, by rw [upd_ne (Ne.symm nP)]; exact e, e1, e2, e3, by omega⟩
              · rcases List.mem_append.mp hv with h | h
                · exact nus v h
                · rw [List.mem_singleton.mp h]
                  exact fun z => nPP (V.ref.inj z)
              · rcases List.mem_append.mp hr with h | h
                · exact rowl r h
                · rw [List.mem_singleton.mp h]
                  exact lq
              · rcases List.mem_append.mp hr with h | h
                · exact gr _ _ (en1 r h q hq)
                · rw [List.mem_singleton.mp h] at hq
                  exact sq q hq
          · obtain ⟨bX, wX, us, A, eP, nus, sA, lA, rowl, D1, dn1, en1⟩ := hQ
            exact ⟨P, us, A, rfl, same_but S7 bX hp, wX.mono (by omega), eP, sA, ⟨by omega, fun r hr => by rw [lA]; exact rowl r hr⟩, lA, (dn1.to (fun h => by have := nk.2 h; omega)).mb en1, fun h => absurd wz h⟩
        · have wz : way ≠ 0 := fun e => c1 (decide_eq_true (by rw [e]))
          refine ⟨_, rfl, _, rfl, _, rfl, ww, 10, (r3 / 2), n, rfl, w7, by omega, nk, fun p us A X hpH dX wX eP sA sq lA mb rg => ?_⟩
          exact ⟨p, us, A, rfl, same_but S7 dX hp, wX.mono (by omega), eP, sA, sq, lA, mb.mb, fun _ => ⟨mb, rg⟩⟩
      obtain ⟨b1, ws1, A1, rfl, S8, w8, eb1, sA1, sq1, lA1, mb1, rg1⟩ := hM
      clear S7 w7
      refine ⟨fun σ' H' => ∃ (b : Addr) (ws : List V) (A : List (List Rat)), σ' = [some (.ref a), some (.int ((i : Nat) : Int)), some (.int cell), some (.ref ww), some (.int way), some (.int (r3 / 2)), some (.int (n : Nat)), some (.ref b), y8, y9, y10, y11, y12, y13, y14, y15, y16] ∧ Same G0 H' ∧ WellAt H' ww 900 ∧ H' b = some (.lst ws) ∧ SeL H' ws A ∧ Sq A ∧ A.length = n ∧ MB (r3 / 2) A ∧ Due way n A, ?_, fun σ' H' hM => ?_⟩
      · have base : ¬ (way = 2 ∧ 0 < n) → ∃ (b : Addr) (ws : List V) (A : List (List Rat)), [some (.ref a), some (.int ((i : Nat) : Int)), some (.int cell), some (.ref ww), some (.int way), some (.int (r3 / 2)), some (.int (n : Nat)), some (.ref b1), y8, y9, y10, y11, y12, y13, y14, y15, y16] = [some (.ref a), some (.int ((i : Nat) : Int)), some (.int cell), some (.ref ww), some (.int way), some (.int (r3 / 2)), some (.int (n : Nat)), some (.ref b), y8, y9, y10, y11, y12, y13, y14, y15, y16] ∧ Same G0 H' ∧ WellAt H' ww 900 ∧ H' b = some (.lst ws) ∧ SeL H' ws A ∧ Sq A ∧ A.length = n ∧ MB (r3 / 2) A ∧ Due way n A := fun c => ⟨b1, ws1, A1, rfl, S8, w8.mono (by omega), eb1, sA1, sq1, lA1, mb1, fun h => absurd h c, fun h => (rg1 h.1).2⟩
        refine ⟨_, rfl, rfl, _, rfl, ite2 (fun c1 => ?_) (fun c1 => iteF (base fun h => c1 (decide_eq_true (by rw [h.1]))))⟩
        have wz : way = 2 := V.int.inj (toB c1)
        refine ⟨_, rfl, _, _, rfl, rfl, _, rfl, ite2 (fun c2 => ?_) (fun c2 => base fun h => c2 (decide_eq_true (by have := h.2; omega)))⟩
        have n0 : 0 < n := by
          have : (n : Int) > 0 := toB c2
          omega
        obtain ⟨mbb, rg⟩ := rg1 (by omega)
        refine ⟨_, rfl, _, rfl, ww, b1, 800, (r3 / 2), ws1, A1, rfl, w8, by omega, eb1, sA1, sq1, by omega, by rw [lA1]; exact nk, mbb, fun p us B X hpH dX wX eP sB sqB lB mbB dep => ?_⟩
        exact ⟨p, us, B, rfl, same_but S8 dX hp, wX.mono (by omega), eP, sB, sqB, by rw [lB, lA1], mbB, fun _ => lA1 ▸ dep, fun h => absurd ⟨wz, n0⟩ h.2⟩
      obtain ⟨a1_, ws, A, rfl, S9, w9, ea, sA, sq, lA, mb, due⟩ := hM
      clear S8 w8 eb1 sA1 sq1 lA1 mb1 rg1
      subst lA
      refine ⟨_, rfl, A.length, rfl, by omega, by omega, fun P hP => ?_⟩
      rw [Int.toNat_natCast]
      have nP := w9.ne hP
      have sP := same_new (o := .lst []) hP
      have na := sA.nw ea w9
      refine lc_range (lo := 0) (n := A.length) (fun j Z => SameBut ww H' Z ∧ WellAt Z ww (900 + 2 * (j : Int)) ∧ ∃ vs qs, Z P = some (.lst vs) ∧ FrsAt Z vs qs ∧ qs.length = j ∧ ∀ q ∈ qs, Pl (r3 / 2) q) ⟨SameBut.of sP, (w9.same sP).mono (by omega), [], [], upd_same, .nil, rfl, fun q h => absurd h List.not_mem_nil⟩ (fun j Z hj hQ3 => ?_) (fun Z hQ3 => ?_)
      · obtain ⟨bZ, wZ, vs, qs, eZ, fZ, lq, pq⟩ := hQ3
        have lv := FrsAt.len fZ
        refine ⟨rfl, _, rfl, _, rfl, ww, _, (r3 / 2), rfl, wZ, by omega, fun p q Y hp2 dY wY fY pl => ?_⟩
        have eY := dY _ _ nP eZ
        have np : p ≠ P := fun e => by
          rw [e, eZ] at hp2
          cases hp2
        refine ⟨_, eY, small1000 (by omega), fun b o nb e => ?_, ?_, vs ++ [.ref p], qs ++ [q], upd_same, ?_, by rw [List.length_append, lq]; rfl, fun x hx => ?_⟩
        · rw [upd_ne (ne_of_none e hP)]
          exact dY _ _ nb (bZ _ _ nb e)
        · obtain ⟨x, y, zz, e, e1, e2, e3, e4⟩ := wY
          exact ⟨x, y, zz, by rw [upd_ne (Ne.symm nP)]; exact e, e1, e2, e3, by omega⟩
        · refine FrsAt.app (PrsAt.but (PrsAt.well fZ dY wZ) SameBut.upd eY) (FrsAt.one ?_)
          show (upd Y P _) p = _
          rw [upd_ne np]
          exact fY
        · rcases List.mem_append.mp hx with hx | hx
          · exact pq x hx
          · rw [List.mem_singleton.mp hx]
            exact pl
      obtain ⟨bZ, wZ, vs, qs, eZ, fZ, lq, pq⟩ := hQ3
      have SZ9 := same_but S9 bZ hp
      have eaZ := bZ _ _ na ea
      have sAZ := sA.well bZ w9
      clear ea sA S9 w9
      refine ⟨fun σ' H2 => ∃ (c : Addr) (ys : List Rat), σ' = [some (.ref a), some (.int ((i : Nat) : Int)), some (.int cell), some (.ref ww), some (.int way), some (.int (r3 / 2)), some (.int (A.length : Nat)), some (.ref a1_), some (.ref c), y9, y10, y11, y12, y13, y14, y15, y16] ∧ Same G0 H2 ∧ H2 a1_ = some (.lst ws) ∧ SeL H2 ws A ∧ FrL H2 c ys ∧ ys.length = A.length ∧ ∀ y ∈ ys, Pl (r3 / 2) y, ?_, fun σ' H2 hM => ?_⟩
      · refine ⟨_, rfl, ww, _, 5, rfl, wZ, by omega, by decide, small9000 (by decide) (by decide), fun r5 H5 r50 r51 d5 f5 w5 => ⟨rfl, _, rfl, ite2 (fun c => ?_) (fun c => ?_)⟩⟩
        · have S5 := same_but SZ9 d5 hp
          have ea5 := d5 _ _ na eaZ
          have sA5 := sAZ.well d5 wZ
          refine ⟨(by show 2 ≤ sizeLine; decide), fun t0 ht0 => ⟨(by show 1 ≤ sizeLine; decide), fun l3 hl3 => ⟨_, rfl, l3, (A.length : Nat), [.ref t0], rfl, rfl, upd_same, by omega, by omega, Nat.le_trans (show 1 * ((A.length : Nat) : Int).toNat ≤ 1000 by omega) (by decide), fun l4 hl4 => ?_⟩⟩⟩
          rw [zeros_eq]
          have s4 := same_new (o := .tup [.int 0, .int 1]) ht0
          have s5 := same_new (o := .lst [.ref t0]) hl3
          have s6 := same_new (o := .lst (List.replicate A.length (.ref t0))) hl4
          have S6 := s4.trans (s5.trans s6)
          have f0 : Fr _ t0 0 := nul_fr (s6 _ _ (s5 _ _ upd_same))
          exact ⟨l4, List.replicate A.length 0, rfl, S5.trans S6, S6 _ _ ea5, sA5.same S6, ⟨_, upd_same, FrsAt.rep f0 _⟩, List.length_replicate, fun y hy => by rw [(List.mem_replicate.mp hy).2]; exact pl_zero _⟩
        · exact ⟨P, qs, rfl, same_but SZ9 d5 hp, d5 _ _ na eaZ, sAZ.well d5 wZ, ⟨vs, d5 _ _ nP eZ, PrsAt.well fZ d5 wZ⟩, lq, pq⟩
      obtain ⟨c1_, ys, rfl, Sx, ea, sA, fy, ly, py⟩ := hM
      clear SZ9 eaZ sAZ bZ wZ eZ fZ pq lq
      have lw := sA.1
      have gd := good_of sq nk mb ly py
      refine ⟨_, rfl, a1_, rfl, ⟨_, SqL.of ea⟩, fun P hP => lc_list (K := K) (a := a1_) (xs := ws) (fun i X => Same H2 X ∧ ∃ vs, X P = some (.lst vs) ∧ (∀ v ∈ vs, v ≠ .ref P) ∧ SeL X vs (A.take i)) ⟨same_new hP, [], upd_same, (fun v hv => absurd hv List.not_mem_nil), ⟨rfl, fun i r e => by rw [List.take_zero] at e; cases e⟩⟩ (fun i X _ hQ => SqL.of (hQ.1 _ _ ea)) (fun i x X hx hQ => ?_) (fun X hQ => ?_)⟩
      · obtain ⟨sX, vs, eP, nvs, sv⟩ := hQ
        obtain ⟨b, r, rfl, hr2, fb⟩ := sA.get hx
        have li := (List.getElem?_eq_some_iff.mp hr2).1
        obtain ⟨rs9, hb, lb, fb2⟩ := (fb.same sX).len
        refine ⟨rfl, _, rfl, b, rs9, rfl, .inl (SqL.of hb), fun q hq => ?_⟩
        have s3 := same_new (o := .lst rs9) hq
        have nq : q ≠ P := fun e => by
          rw [e, eP] at hq
          cases hq
        have lv := sv.1
        rw [List.length_take] at lv
        refine ⟨_, s3 _ _ eP, small1000 (by omega), fun b o e => ?_, vs ++ [.ref q], upd_same, fun v hv => ?_, ?_⟩
        · rw [upd_ne (ne_of_none e hP)]
          exact s3 _ _ (sX _ _ e)
        · rcases List.mem_append.mp hv with h | h
          · exact nvs v h
          · rw [List.mem_singleton.mp h]
            exact fun z => nq (V.ref.inj z)
        · rw [show A.take (i + 1) = A.take i ++ [r] by rw [List.take_succ, hr2]; rfl]
          have fq : FrL (upd X q (.lst rs9)) q r := ⟨_, upd_same, PrsAt.same fb2 s3⟩
          exact SeL.app ((sv.same s3).butN (s3 _ _ eP) nvs SameBut.upd) (SeL.one (fq.but nq SameBut.upd (s3 _ _ eP)))
      obtain ⟨sX, vs, eP, nvs, sv⟩ := hQ
      rw [List.take_of_length_le (by omega)] at sv
      obtain ⟨vy, ec, lvy, fvy⟩ := (fy.same sX).len
      refine ⟨_, rfl, c1_, vy, rfl, .inl (SqL.of ec), fun h1 hh1 => ⟨(by show 2 ≤ sizeLine; decide), fun Lh hLh => ?_⟩⟩
      have q1 := same_new (o := .lst vy) hh1
      have q2 := same_new (o := .lst [.ref P, .ref h1]) hLh
      have Q2 := q1.trans q2
      have eLh : (upd (upd X h1 (.lst vy)) Lh (.lst [.ref P, .ref h1])) Lh = some (.lst [.ref P, .ref h1]) := upd_same
      have fh : FrL (upd (upd X h1 (.lst vy)) Lh (.lst [.ref P, .ref h1])) h1 ys := ⟨vy, q2 _ _ upd_same, PrsAt.same fvy Q2⟩
      have eP := Q2 _ _ eP
      have sv := sv.same Q2
      have ea := Q2 _ _ (sX _ _ ea)
      have sA := sA.same (sX.trans Q2)
      have fy := fy.same (sX.trans Q2)
      have S1 := Sx.trans (sX.trans Q2)
      generalize upd (upd X h1 (.lst vy)) Lh (.lst [.ref P, .ref h1]) = G1 at *
      clear Sx sX Q2 q1 q2 ec fvy lvy
      refine ⟨_, rfl, Lh, _, 0, .ref P, rfl, rfl, SqL.of eLh, a0, _, rfl, Lh, _, 1, .ref h1, rfl, rfl, SqL.of eLh, a1, P, h1, vs, A, ys, rfl, eP, sv, sq, fh, ly, gd, fun t q b xs G2 hq2 s2 et fx an bd => ?_⟩
      refine ⟨_, rfl, _, rfl, _, rfl, a1_, c1_, t, q, ws, A, ys, xs, b, (r3 / 2), rfl, s2 _ _ ea, sA.same s2, sq, fy.same s2, ly, et, fx, an, bd, mb, fun G3 s3 => ⟨_, rfl, iteF ?_⟩⟩
      have S13 := s2.trans s3
      refine ⟨_, rfl, _, rfl, _, rfl, (by show 2 ≤ sizeLine; decide), fun l9 hl9 => ?_⟩
      have s9 := same_new (o := .lst [.ref a1_, .ref c1_]) hl9
      have S19 := S13.trans s9
      refine ⟨.list [.list (llD A), .list (ys.map frD)], .list [.list (llD A), .list (ys.map frD)], .lst (SqL.of (S19 _ _ eLh)) (.cons (.lst (SqL.of (S19 _ _ eP)) (sv.same S19).dpAll) (.cons (fh.same S19).dp .nil)), .lst (SqL.of upd_same) (.cons (.lst (SqL.of (S19 _ _ ea)) (sA.same S19).dpAll) (.cons (fy.same S19).dp .nil)), hd_shaped _ _, hd_shaped _ _, _, rfl, ?_⟩
      rw [hd_eqv]
      refine iteF ?_
      have et4 := s9 _ _ (s3 _ _ et)
      have fx4 := (fx.same s3).same s9
      generalize upd G3 l9 (.lst [.ref a1_, .ref c1_]) = G4 at *
      refine ⟨fun σ' H' => σ' = [some (.ref a), some (.int ((i : Nat) : Int)), some (.int cell), some (.ref ww), some (.int way), some (.int (r3 / 2)), some (.int (A.length : Nat)), some (.ref a1_), some (.ref c1_), some (.ref Lh), some (.ref t), y11, y12, y13, y14, y15, y16] ∧ Same G4 H', ?_, fun σ' H' hM => ?_⟩
      · refine ⟨_, rfl, _, _, rfl, rfl, _, rfl, ite2 (fun c => ?_) (fun c => ?_)⟩
        · have wz : way ≠ 0 := by
            have : way > 0 := toB c
            omega
          refine ⟨_, rfl, t, _, 0, flagV b, rfl, rfl, SqT.of et4, a0, (by show 2 ≤ sizeLine; decide), fun l hl => ?_⟩
          have sl := same_new (o := .lst [.str "one", .str "none"]) hl
          by_cases c2 : way = 2
          · refine ⟨_, rfl, rfl, _, rfl, iteC (d := true) (decide_eq_true (by rw [c2])) (iteT ⟨_, rfl, _, _, rfl, rfl, .inr ⟨_, rfl, ?_⟩⟩)⟩
            by_cases c3 : 0 < A.length
            · have bf := (due.1 ⟨c2, c3⟩).no an
              subst bf
              have e9 : decide (((A.length : Nat) : Int) > 0) = true := decide_eq_true (by omega)
              refine ⟨l, _, 1, .str "none", rfl, by rw [e9]; rfl, SqL.of upd_same, a1, rfl, _, rfl, iteNT rfl ⟨rfl, sl⟩⟩
            · have bf := (due.2 ⟨wz, fun h => c3 h.2⟩).yes rfl an
              subst bf
              have e9 : decide (((A.length : Nat) : Int) > 0) = false := decide_eq_false (by omega)
              refine ⟨l, _, 0, .str "one", rfl, by rw [e9]; rfl, SqL.of upd_same, a0, rfl, _, rfl, iteNT rfl ⟨rfl, sl⟩⟩
          · have bf := (due.2 ⟨wz, fun h => c2 h.1⟩).yes rfl an
            subst bf
            refine ⟨_, rfl, rfl, _, rfl, iteC (d := false) (decide_eq_false fun e => c2 (V.int.inj e)) (iteF (.inr ⟨_, rfl, ?_⟩))⟩
            refine ⟨l, _, 0, .str "one", rfl, rfl, SqL.of upd_same, a0, rfl, _, rfl, iteNT rfl ⟨rfl, sl⟩⟩
        · exact iteF ⟨rfl, fun _ _ h => h⟩
      obtain ⟨rfl, s4'⟩ := hM
      have S1H := S19.trans s4'
      have etH := s4' _ _ et4
      have fxH := fx4.same s4'
      obtain ⟨vx, eqH, fvx⟩ := fxH
      have lvx := fvx.1
      have lxs := an.1
      refine ⟨_, rfl, t, _, 0, flagV b, rfl, rfl, SqT.of etH, a0, _, rfl, t, _, 1, .ref q, rfl, rfl, SqT.of etH, a1, q, vx, rfl, .inl (SqL.of eqH), fun k9 hk9 => ⟨(by show 2 ≤ sizeLine; decide), fun kt hkt => ?_⟩⟩
      have r1 := same_new (o := .lst vx) hk9
      have r2 := same_new (o := .tup [flagV b, .ref k9]) hkt
      have etG := r2 _ _ (r1 _ _ etH)
      have eqG := r2 _ _ (r1 _ _ eqH)
      have ek9 : (upd (upd H' k9 (.lst vx)) kt (.tup [flagV b, .ref k9])) k9 = some (.lst vx) := r2 _ _ upd_same
      have ekt : (upd (upd H' k9 (.lst vx)) kt (.tup [flagV b, .ref k9])) kt = some (.tup [flagV b, .ref k9]) := upd_same
      have fvG := fvx.same (r1.trans r2)
      have S1G := S1H.trans (r1.trans r2)
      have nk9 : k9 ≠ q := fun e => by
        rw [e, eqH] at hk9
        cases hk9
      have nkt : kt ≠ q := fun e => by
        rw [e, r1 _ _ eqH] at hkt
        cases hkt
      generalize upd (upd H' k9 (.lst vx)) kt (.tup [flagV b, .ref k9]) = G5 at *
      refine ⟨_, rfl, t, _, 1, .ref q, rfl, rfl, SqT.of etG, a1, .inl ⟨rfl, _, SqL.of eqG⟩, ?_⟩
      refine ⟨q, vx, _, rfl, rfl, eqG, small1000 (by omega), ?_⟩
      have dq : SameBut q G5 (upd G5 q (.lst (vx ++ [.int 7]))) := SameBut.upd
      have S16 : Same G1 (upd G5 q (.lst (vx ++ [.int 7]))) := fun b o e => dq _ _ (ne_of_none e hq2) (S1G _ _ e)
      have ek6 := dq _ _ nk9 ek9
      have ekt6 := dq _ _ nkt ekt
      have fk6 : FrLK K (upd G5 q (.lst (vx ++ [.int 7]))) k9 xs := ⟨vx, ek6, fvG.1, fun i y e => let ⟨p, e1, e2⟩ := fvG.2 i y e; ⟨p, e1, sqT_but e2 dq eqG⟩⟩
      generalize upd G5 q (.lst (vx ++ [.int 7])) = G6 at *
      clear dq eqG etG ek9 ekt fvG S1G eqH etH fvx fx4 et4 s4' r1 r2
      refine ⟨_, rfl, Lh, _, 0, .ref P, rfl, rfl, SqL.of (S16 _ _ eLh), a0, _, rfl, Lh, _, 1, .ref h1, rfl, rfl, SqL.of (S16 _ _ eLh), a1, P, h1, vs, A, ys, rfl, S16 _ _ eP, sv.same S16, sq, fh.same S16, ly, gd, fun t2 q2 b2 xs2 G7 hq7 s7 et7 fx7 an7 bd7 => ?_⟩
      have eb : b2 = b := an7.flag an
      subst eb
      have ex := an7.same an
      subst ex
      refine ⟨_, rfl, tkD b2 xs2, tkD b2 xs2, tk_dp et7 fx7, tk_dp (s7 _ _ ekt6) (fk6.same s7), tk_shaped _ _, tk_shaped _ _, _, rfl, ?_⟩
      rw [tk_eqv]
      refine iteF ?_
      have S17 := S16.trans s7
      have ekt7 := s7 _ _ ekt6
      refine ⟨_, rfl, kt, _, 0, flagV b2, rfl, rfl, SqT.of ekt7, a0, _, rfl, (by show 2 ≤ sizeLine; decide), fun t0 ht0 => ⟨(by show 1 ≤ sizeLine; decide), fun l3 hl3 => ⟨_, rfl, l3, (A.length : Nat), [.ref t0], rfl, rfl, upd_same, by omega, by omega, Nat.le_trans (show 1 * ((A.length : Nat) : Int).toNat ≤ 1000 by omega) (by decide), fun l4 hl4 => ?_⟩⟩⟩
      rw [zeros_eq]
      have z4 := same_new (o := .tup [.int 0, .int 1]) ht0
      have z5 := same_new (o := .lst [.ref t0]) hl3
      have z6 := same_new (o := .lst (List.replicate A.length (.ref t0))) hl4
      have f0 : Fr _ t0 0 := nul_fr (z6 _ _ (z5 _ _ upd_same))
      have f9 : FrL _ l4 (List.replicate A.length 0) := ⟨_, upd_same, FrsAt.rep f0 _⟩
      have Z6 := z4.trans (z5.trans z6)
      have S18 := S17.trans Z6
      have ekt8 := Z6 _ _ ekt7
      have fk8 := (fk6.same s7).same Z6
      generalize upd (upd (upd G7 t0 (.tup [.int 0, .int 1])) l3 (.lst [.ref t0])) l4 (.lst (List.replicate A.length (.ref t0))) = G8 at *
      have gd2 : Good (aug A (List.replicate A.length 0)) := good_of sq nk mb List.length_replicate fun y hy => by rw [(List.mem_replicate.mp hy).2]; exact pl_zero _
      refine ⟨a1_, l4, ws, A, _, rfl, S18 _ _ ea, sA.same S18, sq, f9, List.length_replicate, gd2, fun t3 q3 b3 xs3 G9 hq9 s9' et9 fx9 an9 bd9 => ?_⟩
      have eb3 : b3 = b2 := an9.flag an
      subst eb3
      refine ⟨t3, _, 0, flagV b3, rfl, rfl, SqT.of et9, a0, scal_flag _, _, rfl, iteNT rfl ?_⟩
      have ekt9 := s9' _ _ ekt8
      have fk9 := fk8.same s9'
      have S19' := S18.trans s9'
      obtain ⟨vy, ec, lvy, fvy⟩ := (fy.same S19').len
      refine ⟨_, rfl, a1_, ws, rfl, SqL.of (S19' _ _ ea), fun ra hra => ?_⟩
      have u1 := same_new (o := .lst ws.reverse) hra
      refine ⟨_, rfl, c1_, vy, rfl, SqL.of (u1 _ _ ec), fun rc hrc => ?_⟩
      have u2 := same_new (o := .lst vy.reverse) hrc
      have U2 := u1.trans u2
      have lAr : A.reverse.length = A.length := List.length_reverse
      have sqr : Sq A.reverse := ⟨by rw [lAr]; exact sq.1, fun r hr => by rw [lAr]; exact sq.2 r (List.mem_reverse.mp hr)⟩
      have mbr : MB (r3 / 2) A.reverse := by
        obtain ⟨D, D0, Dl, h⟩ := mb
        exact ⟨D, D0, Dl, fun r hr => h r (List.mem_reverse.mp hr)⟩
      have lyr : ys.reverse.length = A.reverse.length := by rw [List.length_reverse, lAr, ly]
      have gdr := good_of sqr (by rw [lAr]; exact nk) mbr lyr fun y hy => py y (List.mem_reverse.mp hy)
      refine ⟨ra, rc, ws.reverse, A.reverse, ys.reverse, rfl, u2 _ _ upd_same, ((sA.same S19').same U2).rev, sqr, ⟨_, upd_same, FrsAt.rev (PrsAt.same fvy U2)⟩, lyr, gdr, fun t4 q4 b4 xs4 Ga hq10 sa et10 fx10 an10 bd10 => ?_⟩
      have anr : Ans A.length (ad A) (fun i => ys.getD i 0) b4 xs4 := by
        rw [lAr] at an10
        refine an10.rev.congr (fun i t hi ht => ?_) fun i hi => ?_
        · show ad A.reverse (A.length - 1 - i) t = ad A i t
          have e1 : A[i]? = some A[i] := List.getElem?_eq_getElem hi
          have e2 : A.reverse[A.length - 1 - i]? = some A[i] := by
            rw [List.getElem?_reverse (by omega), show A.length - 1 - (A.length - 1 - i) = i by omega]
            exact e1
          rw [ad_row e1, ad_row e2]
        · show ys.reverse.getD (A.length - 1 - i) 0 = ys.getD i 0
          rw [rev_getD ly (by omega), show A.length - 1 - (A.length - 1 - i) = i by omega]
      have eb4 : b4 = b3 := anr.flag an
      subst eb4
      have ex4 := anr.same an7
      subst ex4
      have ektA := sa _ _ (U2 _ _ ekt9)
      have fkA := (fk9.same U2).same sa
      refine ⟨_, rfl, t4, _, 0, flagV b4, rfl, rfl, SqT.of et10, a0, _, rfl, kt, _, 0, flagV b4, rfl, rfl, SqT.of ektA, a0, scal_flag _, _, rfl, iteNT rfl ?_⟩
      have fin : Same G0 Ga := S1.trans (S19'.trans (U2.trans sa))
      have done : Ga L = some (.lst cells) := fin _ _ l01
      cases b4 with
      | true =>
        refine ⟨_, rfl, t4, _, 0, .str "one", rfl, rfl, SqT.of et10, a0, rfl, _, rfl, iteC (d := true) (decide_eq_true rfl) (iteT ?_)⟩
        refine ⟨_, rfl, _, rfl, tkD true xs4, tkD true xs4, tk_dp et10 fx10, tk_dp ektA fkA, tk_shaped _ _, tk_shaped _ _, _, rfl, ?_⟩
        rw [tk_eqv]
        exact iteF ⟨done, _, _, _, _, _, _, _, _, _, _, _, _, _, _, _, _, rfl⟩
      | false =>
        refine ⟨_, rfl, t4, _, 0, .str "none", rfl, rfl, SqT.of et10, a0, rfl, _, rfl, iteC (d := false) (by decide +kernel) (iteF ?_)⟩
        exact iteF ⟨done, _, _, _, _, _, _, _, _, _, _, _, _, _, _, _, _, rfl⟩
    · obtain ⟨l00, y1, y2, y3, y4, y5, y6, y7, y8, y9, y10, y11, y12, y13, y14, y15, y16, rfl⟩ := hP
      refine ⟨(by show 0 ≤ sizeLine; decide), fun p1 g1 => ⟨(by show 0 ≤ sizeLine; decide), fun p2 g2 => ?_⟩⟩
      have v1 := same_new (o := .lst []) g1
      have v2 := same_new (o := .lst []) g2
      have sq0 : Sq [] := ⟨by decide, fun r hr => absurd hr List.not_mem_nil⟩
      have gd0 : Good (aug [] []) := good_of (kd := 0) sq0 ⟨by decide, fun _ => by decide⟩ ⟨1, by decide, by decide, fun r hr => absurd hr List.not_mem_nil⟩ rfl fun y hy => absurd hy List.not_mem_nil
      refine ⟨p1, p2, [], [], [], rfl, v2 _ _ upd_same, ⟨rfl, fun i r e => by cases e⟩, sq0, ⟨[], upd_same, .nil⟩, rfl, gd0, fun t q b xs H9 hq9 s9 et fx an bd => ?_⟩
      have bt : b = true := Reg.yes (n := 0) (A := []) (fun w _ t ht => absurd ht (Nat.not_lt_zero _)) rfl an
      have x0 : xs = [] := List.length_eq_zero_iff.mp an.1
      subst bt
      subst x0
      refine ⟨(by show 0 ≤ sizeLine; decide), fun l hl => ⟨(by show 2 ≤ sizeLine; decide), fun tt htt => ?_⟩⟩
      have v3 := same_new (o := .lst []) hl
      have v4 := same_new (o := .tup [.str "one", .ref l]) htt
      refine ⟨tkD true [], tkD true [], tk_dp (v4 _ _ (v3 _ _ et)) ((fx.same v3).same v4), tk_dp (q := l) upd_same ⟨[], v4 _ _ upd_same, rfl, fun i y e => by cases e⟩, tk_shaped _ _, tk_shaped _ _, ?_⟩
      rw [tk_eqv]
      exact q_ _
end
end E1

namespace E1
open PySem PySem.Spec PyProof.Rows L2
theorem all_mk {l : PySem.W.OpenLaw} {w : World} {K : PySem.W.Frag} {h : Heap} {mg : Str → Option Value} {fa : Addr} {A_ONE : Addr} {A_NOUGHT : Addr} (e_A_ONE : He.ga K "ONE" = A_ONE) (e_A_NOUGHT : He.ga K "NOUGHT" = A_NOUGHT) (X : K.In h) (G : h.Ns mainGlobals mg) (hfa : mg "law" = some (.ref fa)) (c : SaysY FA FN TS EXB w K) :
    ∃ fd : FuncData, (∀ (s : Shared) (v : Value), BindsTo s fd ⟨[v], []⟩ [("_law_script", v)]) ∧ ∀ base : Heap, K.In base → base.Ns mainGlobals mg → FnOk l.prog w K mg base CX0 9 fa fd ["_law_script"] (spLaw K) := by
  obtain ⟨fd_is_whole, F0_is_whole⟩ := c.t.d.def_ 0 (d := dd_is_whole) rfl
  have F_is_whole : Fun K "is_whole" "is_whole" s_is_whole (He.ga K "is_whole") fd_is_whole := fun_of F0_is_whole
  have k_is_whole := F_is_whole.kp
  have a_is_whole : PySem.W.nsIn K mainGlobals "is_whole" = some (some (.ref (He.ga K "is_whole"))) := He.eqO_ok (c.t.d.fact 0 (f := .glo "is_whole") rfl)
  have b_is_whole := F_is_whole.binds (ps := ["thing"]) fun _ _ _ _ _ _ us hl => match us, hl with | [_], _ => rfl
  obtain ⟨fd_is_fraction, F0_is_fraction⟩ := c.t.d.def_ 1 (d := dd_is_fraction) rfl
  have F_is_fraction : Fun K "is_fraction" "is_fraction" s_is_fraction (He.ga K "is_fraction") fd_is_fraction := fun_of F0_is_fraction
  have k_is_fraction := F_is_fraction.kp
  have a_is_fraction : PySem.W.nsIn K mainGlobals "is_fraction" = some (some (.ref (He.ga K "is_fraction"))) := He.eqO_ok (c.t.d.fact 1 (f := .glo "is_fraction") rfl)
  have b_is_fraction := F_is_fraction.binds (ps := ["thing"]) fun _ _ _ _ _ _ us hl => match us, hl with | [_], _ => rfl
  obtain ⟨fd_shared_divisor, F0_shared_divisor⟩ := c.t.d.def_ 2 (d := dd_shared_divisor) rfl
  have F_shared_divisor : Fun K "shared_divisor" "shared_divisor" s_shared_divisor (He.ga K "shared_divisor") fd_shared_divisor := fun_of F0_shared_divisor
  have k_shared_divisor := F_shared_divisor.kp
  have a_shared_divisor : PySem.W.nsIn K mainGlobals "shared_divisor" = some (some (.ref (He.ga K "shared_divisor"))) := He.eqO_ok (c.t.d.fact 2 (f := .glo "shared_divisor") rfl)
  have b_shared_divisor := F_shared_divisor.binds (ps := ["top", "bottom"]) fun _ _ _ _ _ _ us hl => match us, hl with | [_, _], _ => rfl
  obtain ⟨fd_lowest, F0_lowest⟩ := c.t.d.def_ 3 (d := dd_lowest) rfl
  have F_lowest : Fun K "lowest" "lowest" s_lowest (He.ga K "lowest") fd_lowest := fun_of F0_lowest
  have k_lowest := F_lowest.kp
  have a_lowest : PySem.W.nsIn K mainGlobals "lowest" = some (some (.ref (He.ga K "lowest"))) := He.eqO_ok (c.t.d.fact 3 (f := .glo "lowest") rfl)
  have b_lowest := F_lowest.binds (ps := ["top", "bottom"]) fun _ _ _ _ _ _ us hl => match us, hl with | [_, _], _ => rfl
  obtain ⟨fd_is_fractions, F0_is_fractions⟩ := c.t.d.def_ 4 (d := dd_is_fractions) rfl
  have F_is_fractions : Fun K "is_fractions" "is_fractions" s_is_fractions (He.ga K "is_fractions") fd_is_fractions := fun_of F0_is_fractions
  have k_is_fractions := F_is_fractions.kp
  have a_is_fractions : PySem.W.nsIn K mainGlobals "is_fractions" = some (some (.ref (He.ga K "is_fractions"))) := He.eqO_ok (c.t.d.fact 4 (f := .glo "is_fractions") rfl)
  have b_is_fractions := F_is_fractions.binds (ps := ["thing"]) fun _ _ _ _ _ _ us hl => match us, hl with | [_], _ => rfl
  obtain ⟨fd_common_bottom, F0_common_bottom⟩ := c.t.d.def_ 5 (d := dd_common_bottom) rfl
  have F_common_bottom : Fun K "common_bottom" "common_bottom" s_common_bottom (He.ga K "common_bottom") fd_common_bottom := fun_of F0_common_bottom
  have k_common_bottom := F_common_bottom.kp
  have a_common_bottom : PySem.W.nsIn K mainGlobals "common_bottom" = some (some (.ref (He.ga K "common_bottom"))) := He.eqO_ok (c.t.d.fact 5 (f := .glo "common_bottom") rfl)
  have b_common_bottom := F_common_bottom.binds (ps := ["pairs"]) fun _ _ _ _ _ _ us hl => match us, hl with | [_], _ => rfl
  obtain ⟨fd_cleared, F0_cleared⟩ := c.t.d.def_ 6 (d := dd_cleared) rfl
  have F_cleared : Fun K "cleared" "cleared" s_cleared (He.ga K "cleared") fd_cleared := fun_of F0_cleared
  have k_cleared := F_cleared.kp
  have a_cleared : PySem.W.nsIn K mainGlobals "cleared" = some (some (.ref (He.ga K "cleared"))) := He.eqO_ok (c.t.d.fact 6 (f := .glo "cleared") rfl)
  have b_cleared := F_cleared.binds (ps := ["pairs"]) fun _ _ _ _ _ _ us hl => match us, hl with | [_], _ => rfl
  obtain ⟨fd_dot, F0_dot⟩ := c.t.d.def_ 7 (d := dd_dot) rfl
  have F_dot : Fun K "dot" "dot" s_dot (He.ga K "dot") fd_dot := fun_of F0_dot
  have k_dot := F_dot.kp
  have a_dot : PySem.W.nsIn K mainGlobals "dot" = some (some (.ref (He.ga K "dot"))) := He.eqO_ok (c.t.d.fact 7 (f := .glo "dot") rfl)
  have b_dot := F_dot.binds (ps := ["numbers", "others"]) fun _ _ _ _ _ _ us hl => match us, hl with | [_, _], _ => rfl
  obtain ⟨fd_below_cleared, F0_below_cleared⟩ := c.t.d.def_ 8 (d := dd_below_cleared) rfl
  have F_below_cleared : Fun K "below_cleared" "below_cleared" s_below_cleared (He.ga K "below_cleared") fd_below_cleared := fun_of F0_below_cleared
  have k_below_cleared := F_below_cleared.kp
  have a_below_cleared : PySem.W.nsIn K mainGlobals "below_cleared" = some (some (.ref (He.ga K "below_cleared"))) := He.eqO_ok (c.t.d.fact 8 (f := .glo "below_cleared") rfl)
  have b_below_cleared := F_below_cleared.binds (ps := ["rows", "at", "last"]) fun _ _ _ _ _ _ us hl => match us, hl with | [_, _, _], _ => rfl
  obtain ⟨fd_row_that_leads, F0_row_that_leads⟩ := c.t.d.def_ 9 (d := dd_row_that_leads) rfl
  have F_row_that_leads : Fun K "row_that_leads" "row_that_leads" s_row_that_leads (He.ga K "row_that_leads") fd_row_that_leads := fun_of F0_row_that_leads
  have k_row_that_leads := F_row_that_leads.kp
  have a_row_that_leads : PySem.W.nsIn K mainGlobals "row_that_leads" = some (some (.ref (He.ga K "row_that_leads"))) := He.eqO_ok (c.t.d.fact 9 (f := .glo "row_that_leads") rfl)
  have b_row_that_leads := F_row_that_leads.binds (ps := ["rows", "at"]) fun _ _ _ _ _ _ us hl => match us, hl with | [_, _], _ => rfl
  obtain ⟨fd_exchanged, F0_exchanged⟩ := c.t.d.def_ 10 (d := dd_exchanged) rfl
  have F_exchanged : Fun K "exchanged" "exchanged" s_exchanged (He.ga K "exchanged") fd_exchanged := fun_of F0_exchanged
  have k_exchanged := F_exchanged.kp
  have a_exchanged : PySem.W.nsIn K mainGlobals "exchanged" = some (some (.ref (He.ga K "exchanged"))) := He.eqO_ok (c.t.d.fact 10 (f := .glo "exchanged") rfl)
  have b_exchanged := F_exchanged.binds (ps := ["rows", "one", "other"]) fun _ _ _ _ _ _ us hl => match us, hl with | [_, _, _], _ => rfl
  obtain ⟨fd_stepped, F0_stepped⟩ := c.t.d.def_ 11 (d := dd_stepped) rfl
  have F_stepped : Fun K "stepped" "stepped" s_stepped (He.ga K "stepped") fd_stepped := fun_of F0_stepped
  have k_stepped := F_stepped.kp
  have a_stepped : PySem.W.nsIn K mainGlobals "stepped" = some (some (.ref (He.ga K "stepped"))) := He.eqO_ok (c.t.d.fact 11 (f := .glo "stepped") rfl)
  have b_stepped := F_stepped.binds (ps := ["rows"]) fun _ _ _ _ _ _ us hl => match us, hl with | [_], _ => rfl
  obtain ⟨fd_made_up, F0_made_up⟩ := c.t.d.def_ 12 (d := dd_made_up) rfl
  have F_made_up : Fun K "made_up" "made_up" s_made_up (He.ga K "made_up") fd_made_up := fun_of F0_made_up
  have k_made_up := F_made_up.kp
  have a_made_up : PySem.W.nsIn K mainGlobals "made_up" = some (some (.ref (He.ga K "made_up"))) := He.eqO_ok (c.t.d.fact 12 (f := .glo "made_up") rfl)
  have b_made_up := F_made_up.binds (ps := ["rows", "at"]) fun _ _ _ _ _ _ us hl => match us, hl with | [_, _], _ => rfl
  obtain ⟨fd_cancelled, F0_cancelled⟩ := c.t.d.def_ 13 (d := dd_cancelled) rfl
  have F_cancelled : Fun K "cancelled" "cancelled" s_cancelled (He.ga K "cancelled") fd_cancelled := fun_of F0_cancelled
  have k_cancelled := F_cancelled.kp
  have a_cancelled : PySem.W.nsIn K mainGlobals "cancelled" = some (some (.ref (He.ga K "cancelled"))) := He.eqO_ok (c.t.d.fact 13 (f := .glo "cancelled") rfl)
  have b_cancelled := F_cancelled.binds (ps := ["rows", "at", "many"]) fun _ _ _ _ _ _ us hl => match us, hl with | [_, _, _], _ => rfl
  obtain ⟨fd_solution, F0_solution⟩ := c.t.d.def_ 14 (d := dd_solution) rfl
  have F_solution : Fun K "solution" "solution" s_solution (He.ga K "solution") fd_solution := fun_of F0_solution
  have k_solution := F_solution.kp
  have a_solution : PySem.W.nsIn K mainGlobals "solution" = some (some (.ref (He.ga K "solution"))) := He.eqO_ok (c.t.d.fact 14 (f := .glo "solution") rfl)
  have b_solution := F_solution.binds (ps := ["rows"]) fun _ _ _ _ _ _ us hl => match us, hl with | [_], _ => rfl
  obtain ⟨fd_is_row, F0_is_row⟩ := c.t.d.def_ 15 (d := dd_is_row) rfl
  have F_is_row : Fun K "is_row" "is_row" s_is_row (He.ga K "is_row") fd_is_row := fun_of F0_is_row
  have k_is_row := F_is_row.kp
  have a_is_row : PySem.W.nsIn K mainGlobals "is_row" = some (some (.ref (He.ga K "is_row"))) := He.eqO_ok (c.t.d.fact 15 (f := .glo "is_row") rfl)
  have b_is_row := F_is_row.binds (ps := ["thing"]) fun _ _ _ _ _ _ us hl => match us, hl with | [_], _ => rfl
  obtain ⟨fd_is_matrix, F0_is_matrix⟩ := c.t.d.def_ 16 (d := dd_is_matrix) rfl
  have F_is_matrix : Fun K "is_matrix" "is_matrix" s_is_matrix (He.ga K "is_matrix") fd_is_matrix := fun_of F0_is_matrix
  have k_is_matrix := F_is_matrix.kp
  have a_is_matrix : PySem.W.nsIn K mainGlobals "is_matrix" = some (some (.ref (He.ga K "is_matrix"))) := He.eqO_ok (c.t.d.fact 16 (f := .glo "is_matrix") rfl)
  have b_is_matrix := F_is_matrix.binds (ps := ["thing"]) fun _ _ _ _ _ _ us hl => match us, hl with | [_], _ => rfl
  obtain ⟨fd_shape_of, F0_shape_of⟩ := c.t.d.def_ 17 (d := dd_shape_of) rfl
  have F_shape_of : Fun K "shape_of" "shape_of" s_shape_of (He.ga K "shape_of") fd_shape_of := fun_of F0_shape_of
  have k_shape_of := F_shape_of.kp
  have a_shape_of : PySem.W.nsIn K mainGlobals "shape_of" = some (some (.ref (He.ga K "shape_of"))) := He.eqO_ok (c.t.d.fact 17 (f := .glo "shape_of") rfl)
  have b_shape_of := F_shape_of.binds (ps := ["matrix"]) fun _ _ _ _ _ _ us hl => match us, hl with | [_], _ => rfl
  obtain ⟨fd_is_square, F0_is_square⟩ := c.t.d.def_ 18 (d := dd_is_square) rfl
  have F_is_square : Fun K "is_square" "is_square" s_is_square (He.ga K "is_square") fd_is_square := fun_of F0_is_square
  have k_is_square := F_is_square.kp
  have a_is_square : PySem.W.nsIn K mainGlobals "is_square" = some (some (.ref (He.ga K "is_square"))) := He.eqO_ok (c.t.d.fact 18 (f := .glo "is_square") rfl)
  have b_is_square := F_is_square.binds (ps := ["thing"]) fun _ _ _ _ _ _ us hl => match us, hl with | [_], _ => rfl
  obtain ⟨fd_is_list_of, F0_is_list_of⟩ := c.t.d.def_ 19 (d := dd_is_list_of) rfl
  have F_is_list_of : Fun K "is_list_of" "is_list_of" s_is_list_of (He.ga K "is_list_of") fd_is_list_of := fun_of F0_is_list_of
  have k_is_list_of := F_is_list_of.kp
  have a_is_list_of : PySem.W.nsIn K mainGlobals "is_list_of" = some (some (.ref (He.ga K "is_list_of"))) := He.eqO_ok (c.t.d.fact 19 (f := .glo "is_list_of") rfl)
  have b_is_list_of := F_is_list_of.binds (ps := ["thing", "many"]) fun _ _ _ _ _ _ us hl => match us, hl with | [_, _], _ => rfl
  obtain ⟨fd_check_square, F0_check_square⟩ := c.t.d.def_ 20 (d := dd_check_square) rfl
  have F_check_square : Fun K "check_square" "check_square" s_check_square (He.ga K "check_square") fd_check_square := fun_of F0_check_square
  have k_check_square := F_check_square.kp
  have a_check_square : PySem.W.nsIn K mainGlobals "check_square" = some (some (.ref (He.ga K "check_square"))) := He.eqO_ok (c.t.d.fact 20 (f := .glo "check_square") rfl)
  have b_check_square := F_check_square.binds (ps := ["thing"]) fun _ _ _ _ _ _ us hl => match us, hl with | [_], _ => rfl
  obtain ⟨fd_check_list, F0_check_list⟩ := c.t.d.def_ 21 (d := dd_check_list) rfl
  have F_check_list : Fun K "check_list" "check_list" s_check_list (He.ga K "check_list") fd_check_list := fun_of F0_check_list
  have k_check_list := F_check_list.kp
  have a_check_list : PySem.W.nsIn K mainGlobals "check_list" = some (some (.ref (He.ga K "check_list"))) := He.eqO_ok (c.t.d.fact 21 (f := .glo "check_list") rfl)
  have b_check_list := F_check_list.binds (ps := ["thing", "many"]) fun _ _ _ _ _ _ us hl => match us, hl with | [_, _], _ => rfl
  obtain ⟨fd_solved, F0_solved⟩ := c.t.d.def_ 22 (d := dd_solved) rfl
  have F_solved : Fun K "solved" "solved" s_solved (He.ga K "solved") fd_solved := fun_of F0_solved
  have k_solved := F_solved.kp
  have a_solved : PySem.W.nsIn K mainGlobals "solved" = some (some (.ref (He.ga K "solved"))) := He.eqO_ok (c.t.d.fact 22 (f := .glo "solved") rfl)
  have b_solved := F_solved.binds (ps := ["matrix", "right"]) fun _ _ _ _ _ _ us hl => match us, hl with | [_, _], _ => rfl
  obtain ⟨fd__law_cell_at, F0__law_cell_at⟩ := c.t.d.def_ 23 (d := dd__law_cell_at) rfl
  have F__law_cell_at : Fun K "_law_cell_at" "_law_cell_at" s__law_cell_at (He.ga K "_law_cell_at") fd__law_cell_at := fun_of F0__law_cell_at
  have k__law_cell_at := F__law_cell_at.kp
  have a__law_cell_at : PySem.W.nsIn K mainGlobals "_law_cell_at" = some (some (.ref (He.ga K "_law_cell_at"))) := He.eqO_ok (c.t.d.fact 23 (f := .glo "_law_cell_at") rfl)
  have b__law_cell_at := F__law_cell_at.binds (ps := ["_law_script", "_law_k"]) fun _ _ _ _ _ _ us hl => match us, hl with | [_, _], _ => rfl
  obtain ⟨fd__law_well, F0__law_well⟩ := c.t.d.def_ 24 (d := dd__law_well) rfl
  have F__law_well : Fun K "_law_well" "_law_well" s__law_well (He.ga K "_law_well") fd__law_well := fun_of F0__law_well
  have k__law_well := F__law_well.kp
  have a__law_well : PySem.W.nsIn K mainGlobals "_law_well" = some (some (.ref (He.ga K "_law_well"))) := He.eqO_ok (c.t.d.fact 24 (f := .glo "_law_well") rfl)
  have b__law_well := F__law_well.binds (ps := ["_law_cell"]) fun _ _ _ _ _ _ us hl => match us, hl with | [_], _ => rfl
  obtain ⟨fd__law_draw, F0__law_draw⟩ := c.t.d.def_ 25 (d := dd__law_draw) rfl
  have F__law_draw : Fun K "_law_draw" "_law_draw" s__law_draw (He.ga K "_law_draw") fd__law_draw := fun_of F0__law_draw
  have k__law_draw := F__law_draw.kp
  have a__law_draw : PySem.W.nsIn K mainGlobals "_law_draw" = some (some (.ref (He.ga K "_law_draw"))) := He.eqO_ok (c.t.d.fact 25 (f := .glo "_law_draw") rfl)
  have b__law_draw := F__law_draw.binds (ps := ["_law_well_here", "_law_many"]) fun _ _ _ _ _ _ us hl => match us, hl with | [_, _], _ => rfl
  obtain ⟨fd__law_one, F0__law_one⟩ := c.t.d.def_ 26 (d := dd__law_one) rfl
  have F__law_one : Fun K "_law_one" "_law_one" s__law_one (He.ga K "_law_one") fd__law_one := fun_of F0__law_one
  have k__law_one := F__law_one.kp
  have a__law_one : PySem.W.nsIn K mainGlobals "_law_one" = some (some (.ref (He.ga K "_law_one"))) := He.eqO_ok (c.t.d.fact 26 (f := .glo "_law_one") rfl)
  have b__law_one := F__law_one.binds (ps := ["_law_well_here", "_law_some"]) fun _ _ _ _ _ _ us hl => match us, hl with | [_, _], _ => rfl
  obtain ⟨fd__law_low, F0__law_low⟩ := c.t.d.def_ 27 (d := dd__law_low) rfl
  have F__law_low : Fun K "_law_low" "_law_low" s__law_low (He.ga K "_law_low") fd__law_low := fun_of F0__law_low
  have k__law_low := F__law_low.kp
  have a__law_low : PySem.W.nsIn K mainGlobals "_law_low" = some (some (.ref (He.ga K "_law_low"))) := He.eqO_ok (c.t.d.fact 27 (f := .glo "_law_low") rfl)
  have b__law_low := F__law_low.binds (ps := ["_law_top", "_law_bottom"]) fun _ _ _ _ _ _ us hl => match us, hl with | [_, _], _ => rfl
  obtain ⟨fd__law_sum, F0__law_sum⟩ := c.t.d.def_ 28 (d := dd__law_sum) rfl
  have F__law_sum : Fun K "_law_sum" "_law_sum" s__law_sum (He.ga K "_law_sum") fd__law_sum := fun_of F0__law_sum
  have k__law_sum := F__law_sum.kp
  have a__law_sum : PySem.W.nsIn K mainGlobals "_law_sum" = some (some (.ref (He.ga K "_law_sum"))) := He.eqO_ok (c.t.d.fact 28 (f := .glo "_law_sum") rfl)
  have b__law_sum := F__law_sum.binds (ps := ["_law_some"]) fun _ _ _ _ _ _ us hl => match us, hl with | [_], _ => rfl
  obtain ⟨fd__law_dot, F0__law_dot⟩ := c.t.d.def_ 29 (d := dd__law_dot) rfl
  have F__law_dot : Fun K "_law_dot" "_law_dot" s__law_dot (He.ga K "_law_dot") fd__law_dot := fun_of F0__law_dot
  have k__law_dot := F__law_dot.kp
  have a__law_dot : PySem.W.nsIn K mainGlobals "_law_dot" = some (some (.ref (He.ga K "_law_dot"))) := He.eqO_ok (c.t.d.fact 29 (f := .glo "_law_dot") rfl)
  have b__law_dot := F__law_dot.binds (ps := ["_law_one_here", "_law_other"]) fun _ _ _ _ _ _ us hl => match us, hl with | [_, _], _ => rfl
  obtain ⟨fd__law_place, F0__law_place⟩ := c.t.d.def_ 30 (d := dd__law_place) rfl
  have F__law_place : Fun K "_law_place" "_law_place" s__law_place (He.ga K "_law_place") fd__law_place := fun_of F0__law_place
  have k__law_place := F__law_place.kp
  have a__law_place : PySem.W.nsIn K mainGlobals "_law_place" = some (some (.ref (He.ga K "_law_place"))) := He.eqO_ok (c.t.d.fact 30 (f := .glo "_law_place") rfl)
  have b__law_place := F__law_place.binds (ps := ["_law_well_here", "_law_kind"]) fun _ _ _ _ _ _ us hl => match us, hl with | [_, _], _ => rfl
  obtain ⟨fd__law_lower, F0__law_lower⟩ := c.t.d.def_ 31 (d := dd__law_lower) rfl
  have F__law_lower : Fun K "_law_lower" "_law_lower" s__law_lower (He.ga K "_law_lower") fd__law_lower := fun_of F0__law_lower
  have k__law_lower := F__law_lower.kp
  have a__law_lower : PySem.W.nsIn K mainGlobals "_law_lower" = some (some (.ref (He.ga K "_law_lower"))) := He.eqO_ok (c.t.d.fact 31 (f := .glo "_law_lower") rfl)
  have b__law_lower := F__law_lower.binds (ps := ["_law_well_here", "_law_many", "_law_kind"]) fun _ _ _ _ _ _ us hl => match us, hl with | [_, _, _], _ => rfl
  obtain ⟨fd__law_built, F0__law_built⟩ := c.t.d.def_ 32 (d := dd__law_built) rfl
  have F__law_built : Fun K "_law_built" "_law_built" s__law_built (He.ga K "_law_built") fd__law_built := fun_of F0__law_built
  have k__law_built := F__law_built.kp
  have a__law_built : PySem.W.nsIn K mainGlobals "_law_built" = some (some (.ref (He.ga K "_law_built"))) := He.eqO_ok (c.t.d.fact 32 (f := .glo "_law_built") rfl)
  have b__law_built := F__law_built.binds (ps := ["_law_well_here", "_law_many", "_law_kind"]) fun _ _ _ _ _ _ us hl => match us, hl with | [_, _, _], _ => rfl
  obtain ⟨fd__law_flat, F0__law_flat⟩ := c.t.d.def_ 33 (d := dd__law_flat) rfl
  have F__law_flat : Fun K "_law_flat" "_law_flat" s__law_flat (He.ga K "_law_flat") fd__law_flat := fun_of F0__law_flat
  have k__law_flat := F__law_flat.kp
  have a__law_flat : PySem.W.nsIn K mainGlobals "_law_flat" = some (some (.ref (He.ga K "_law_flat"))) := He.eqO_ok (c.t.d.fact 33 (f := .glo "_law_flat") rfl)
  have b__law_flat := F__law_flat.binds (ps := ["_law_well_here", "_law_rows"]) fun _ _ _ _ _ _ us hl => match us, hl with | [_, _], _ => rfl
  obtain ⟨fd__law_plain, F0__law_plain⟩ := c.t.d.def_ 34 (d := dd__law_plain) rfl
  have F__law_plain : Fun K "_law_plain" "_law_plain" s__law_plain (He.ga K "_law_plain") fd__law_plain := fun_of F0__law_plain
  have k__law_plain := F__law_plain.kp
  have a__law_plain : PySem.W.nsIn K mainGlobals "_law_plain" = some (some (.ref (He.ga K "_law_plain"))) := He.eqO_ok (c.t.d.fact 34 (f := .glo "_law_plain") rfl)
  have b__law_plain := F__law_plain.binds (ps := ["_law_told"]) fun _ _ _ _ _ _ us hl => match us, hl with | [_], _ => rfl
  obtain ⟨fd__law_right, F0__law_right⟩ := c.t.d.def_ 35 (d := dd__law_right) rfl
  have F__law_right : Fun K "_law_right" "_law_right" s__law_right (He.ga K "_law_right") fd__law_right := fun_of F0__law_right
  have k__law_right := F__law_right.kp
  have a__law_right : PySem.W.nsIn K mainGlobals "_law_right" = some (some (.ref (He.ga K "_law_right"))) := He.eqO_ok (c.t.d.fact 35 (f := .glo "_law_right") rfl)
  have b__law_right := F__law_right.binds (ps := ["_law_matrix", "_law_right_here", "_law_told"]) fun _ _ _ _ _ _ us hl => match us, hl with | [_, _, _], _ => rfl
  obtain ⟨fd_law, F0_law⟩ := c.t.d.def_ 36 (d := dd_law) rfl
  have F_law : Fun K "law" "law" s_law (He.ga K "law") fd_law := fun_of F0_law
  have k_law := F_law.kp
  have a_law : PySem.W.nsIn K mainGlobals "law" = some (some (.ref (He.ga K "law"))) := He.eqO_ok (c.t.d.fact 36 (f := .glo "law") rfl)
  have b_law := F_law.binds (ps := ["_law_script"]) fun _ _ _ _ _ _ us hl => match us, hl with | [_], _ => rfl
  obtain ⟨tk_MOST_ROWS, gm_MOST_ROWS⟩ := He.int_ok X G (c.t.d.fact 37 (f := .int "MOST_ROWS" 10) rfl)
  have gm_ONE : mg "ONE" = some (.ref A_ONE) := by
    rw [← e_A_ONE]
    exact He.glo_ok X G (c.t.d.fact 38 (f := .glo "ONE") rfl)
  have T_ONE : ∀ H, SqT K H A_ONE [V.int 1, V.int 1] := by
    rw [← e_A_ONE]
    exact fun H => He.tupB_ok (ex_at c.more (i := 0) (b := He.tupB K "ONE" [.int 1, .int 1]) rfl) H
  have gm_NOUGHT : mg "NOUGHT" = some (.ref A_NOUGHT) := by
    rw [← e_A_NOUGHT]
    exact He.glo_ok X G (c.t.d.fact 39 (f := .glo "NOUGHT") rfl)
  have T_NOUGHT : ∀ H, SqT K H A_NOUGHT [V.int 0, V.int 1] := by
    rw [← e_A_NOUGHT]
    exact fun H => He.tupB_ok (ex_at c.more (i := 1) (b := He.tupB K "NOUGHT" [.int 0, .int 1]) rfl) H
  have zf_isinstance : mg "isinstance" = none := He.free_ok X G (c.t.d.fact 40 (f := .free "isinstance") rfl)
  have zf_int : mg "int" = none := He.free_ok X G (c.t.d.fact 41 (f := .free "int") rfl)
  have zf_bool : mg "bool" = none := He.free_ok X G (c.t.d.fact 42 (f := .free "bool") rfl)
  have zf_tuple : mg "tuple" = none := He.free_ok X G (c.t.d.fact 43 (f := .free "tuple") rfl)
  have zf_len : mg "len" = none := He.free_ok X G (c.t.d.fact 44 (f := .free "len") rfl)
  have zf_abs : mg "abs" = none := He.free_ok X G (c.t.d.fact 45 (f := .free "abs") rfl)
  have zf_list : mg "list" = none := He.free_ok X G (c.t.d.fact 46 (f := .free "list") rfl)
  have zf_all : mg "all" = none := He.free_ok X G (c.t.d.fact 47 (f := .free "all") rfl)
  have zf_sum : mg "sum" = none := He.free_ok X G (c.t.d.fact 48 (f := .free "sum") rfl)
  have zf_zip : mg "zip" = none := He.free_ok X G (c.t.d.fact 49 (f := .free "zip") rfl)
  have zf_range : mg "range" = none := He.free_ok X G (c.t.d.fact 50 (f := .free "range") rfl)
  have zf_reversed : mg "reversed" = none := He.free_ok X G (c.t.d.fact 51 (f := .free "reversed") rfl)
  have zf_enumerate : mg "enumerate" = none := He.free_ok X G (c.t.d.fact 52 (f := .free "enumerate") rfl)

  have z : Zs mg := ⟨zf_isinstance, zf_int, zf_bool, zf_tuple, zf_len, zf_abs, zf_list, zf_all, zf_sum, zf_zip, zf_range, zf_reversed, zf_enumerate⟩
  have e := hfa.symm.trans (PySem.W.mg_of X G a_law)
  cases e
  have FL_law : FunD K "law" "law" (defArgs s_law) (defBody s_law) (defScope s_law) [] [] (He.ga K "law") fd_law := F0_law
  have bl := FunD.bindsA (ps := ["_law_script"]) FL_law fun _ _ _ _ _ _ us hl => match us, hl with | [_], _ => rfl
  refine ⟨_, fun s v => bl s [v] rfl, fun base _ _ => ?_⟩
  have c_is_whole : Cal l.prog w K mg base 1 "is_whole" ["thing"] _ := ⟨_, _, PySem.W.mg_of X G a_is_whole, k_is_whole, b_is_whole, ok_is_whole (k := 0) F_is_whole z⟩
  have c_shared_divisor : Cal l.prog w K mg base 1 "shared_divisor" ["top", "bottom"] _ := ⟨_, _, PySem.W.mg_of X G a_shared_divisor, k_shared_divisor, b_shared_divisor, ok_shared_divisor (k := 0) F_shared_divisor z⟩
  have c_lowest : Cal l.prog w K mg base 2 "lowest" ["top", "bottom"] _ := ⟨_, _, PySem.W.mg_of X G a_lowest, k_lowest, b_lowest, ok_lowest F_lowest c_shared_divisor⟩
  have c_is_fraction : Cal l.prog w K mg base 2 "is_fraction" ["thing"] _ := ⟨_, _, PySem.W.mg_of X G a_is_fraction, k_is_fraction, b_is_fraction, ok_is_fraction F_is_fraction z c_is_whole c_shared_divisor⟩
  have c_is_fractions : Cal l.prog w K mg base 3 "is_fractions" ["thing"] _ := ⟨_, _, PySem.W.mg_of X G a_is_fractions, k_is_fractions, b_is_fractions, ok_is_fractions F_is_fractions z c_is_fraction⟩
  have c_common_bottom : Cal l.prog w K mg base 2 "common_bottom" ["pairs"] _ := ⟨_, _, PySem.W.mg_of X G a_common_bottom, k_common_bottom, b_common_bottom, ok_common_bottom F_common_bottom z c_shared_divisor⟩
  have c_cleared : Cal l.prog w K mg base 3 "cleared" ["pairs"] _ := ⟨_, _, PySem.W.mg_of X G a_cleared, k_cleared, b_cleared, ok_cleared F_cleared c_common_bottom⟩
  have c_dot : Cal l.prog w K mg base 1 "dot" ["numbers", "others"] _ := ⟨_, _, PySem.W.mg_of X G a_dot, k_dot, b_dot, ok_dot (k := 0) F_dot z⟩
  have c_below_cleared : Cal l.prog w K mg base 1 "below_cleared" ["rows", "at", "last"] _ := ⟨_, _, PySem.W.mg_of X G a_below_cleared, k_below_cleared, b_below_cleared, ok_below_cleared (k := 0) F_below_cleared z⟩
  have c_row_that_leads : Cal l.prog w K mg base 1 "row_that_leads" ["rows", "at"] _ := ⟨_, _, PySem.W.mg_of X G a_row_that_leads, k_row_that_leads, b_row_that_leads, ok_row_that_leads (k := 0) F_row_that_leads z⟩
  have c_exchanged : Cal l.prog w K mg base 1 "exchanged" ["rows", "one", "other"] _ := ⟨_, _, PySem.W.mg_of X G a_exchanged, k_exchanged, b_exchanged, ok_exchanged (k := 0) F_exchanged z⟩
  have c_stepped : Cal l.prog w K mg base 2 "stepped" ["rows"] _ := ⟨_, _, PySem.W.mg_of X G a_stepped, k_stepped, b_stepped, ok_stepped F_stepped z c_row_that_leads c_below_cleared c_exchanged⟩
  have c_made_up : Cal l.prog w K mg base 3 "made_up" ["rows", "at"] _ := ⟨_, _, PySem.W.mg_of X G a_made_up, k_made_up, b_made_up, ok_made_up F_made_up z c_dot c_lowest⟩
  have c_cancelled : Cal l.prog w K mg base 4 "cancelled" ["rows", "at", "many"] _ := ⟨_, _, PySem.W.mg_of X G a_cancelled, k_cancelled, b_cancelled, ok_cancelled F_cancelled z gm_ONE T_ONE gm_NOUGHT T_NOUGHT c_made_up⟩
  have c_solution : Cal l.prog w K mg base 5 "solution" ["rows"] _ := ⟨_, _, PySem.W.mg_of X G a_solution, k_solution, b_solution, ok_solution F_solution z c_cleared c_stepped c_cancelled c_made_up⟩
  have c_is_row : Cal l.prog w K mg base 4 "is_row" ["thing"] _ := ⟨_, _, PySem.W.mg_of X G a_is_row, k_is_row, b_is_row, ok_is_row F_is_row z gm_MOST_ROWS c_is_fractions⟩
  have c_is_matrix : Cal l.prog w K mg base 5 "is_matrix" ["thing"] _ := ⟨_, _, PySem.W.mg_of X G a_is_matrix, k_is_matrix, b_is_matrix, ok_is_matrix F_is_matrix z gm_MOST_ROWS c_is_row⟩
  have c_shape_of : Cal l.prog w K mg base 1 "shape_of" ["matrix"] _ := ⟨_, _, PySem.W.mg_of X G a_shape_of, k_shape_of, b_shape_of, ok_shape_of (k := 0) F_shape_of z⟩
  have c_is_square : Cal l.prog w K mg base 6 "is_square" ["thing"] _ := ⟨_, _, PySem.W.mg_of X G a_is_square, k_is_square, b_is_square, ok_is_square F_is_square z c_is_matrix c_shape_of⟩
  have c_is_list_of : Cal l.prog w K mg base 4 "is_list_of" ["thing", "many"] _ := ⟨_, _, PySem.W.mg_of X G a_is_list_of, k_is_list_of, b_is_list_of, ok_is_list_of F_is_list_of z c_is_fractions⟩
  have c_check_square : Cal l.prog w K mg base 7 "check_square" ["thing"] _ := ⟨_, _, PySem.W.mg_of X G a_check_square, k_check_square, b_check_square, ok_check_square F_check_square z c_is_square⟩
  have c_check_list : Cal l.prog w K mg base 5 "check_list" ["thing", "many"] _ := ⟨_, _, PySem.W.mg_of X G a_check_list, k_check_list, b_check_list, ok_check_list F_check_list z c_is_list_of⟩
  have c_solved : Cal l.prog w K mg base 8 "solved" ["matrix", "right"] _ := ⟨_, _, PySem.W.mg_of X G a_solved, k_solved, b_solved, ok_solved F_solved z c_check_square c_check_list c_solution⟩
  have c__law_cell_at : Cal l.prog w K mg base 1 "_law_cell_at" ["_law_script", "_law_k"] _ := ⟨_, _, PySem.W.mg_of X G a__law_cell_at, k__law_cell_at, b__law_cell_at, ok_cell (k := 0) F__law_cell_at z.len⟩
  have c__law_well : Cal l.prog w K mg base 1 "_law_well" ["_law_cell"] _ := ⟨_, _, PySem.W.mg_of X G a__law_well, k__law_well, b__law_well, ok_well (k := 0) F__law_well z.int⟩
  have c__law_draw : Cal l.prog w K mg base 1 "_law_draw" ["_law_well_here", "_law_many"] _ := ⟨_, _, PySem.W.mg_of X G a__law_draw, k__law_draw, b__law_draw, ok_draw (k := 0) F__law_draw⟩
  have c__law_one : Cal l.prog w K mg base 2 "_law_one" ["_law_well_here", "_law_some"] _ := ⟨_, _, PySem.W.mg_of X G a__law_one, k__law_one, b__law_one, ok__law_one F__law_one z c__law_draw⟩
  have c__law_low : Cal l.prog w K mg base 1 "_law_low" ["_law_top", "_law_bottom"] _ := ⟨_, _, PySem.W.mg_of X G a__law_low, k__law_low, b__law_low, ok__law_low (k := 0) F__law_low z⟩
  have c__law_sum : Cal l.prog w K mg base 2 "_law_sum" ["_law_some"] _ := ⟨_, _, PySem.W.mg_of X G a__law_sum, k__law_sum, b__law_sum, ok__law_sum F__law_sum c__law_low⟩
  have c__law_dot : Cal l.prog w K mg base 3 "_law_dot" ["_law_one_here", "_law_other"] _ := ⟨_, _, PySem.W.mg_of X G a__law_dot, k__law_dot, b__law_dot, ok__law_dot F__law_dot z c__law_sum⟩
  have c__law_place : Cal l.prog w K mg base 2 "_law_place" ["_law_well_here", "_law_kind"] _ := ⟨_, _, PySem.W.mg_of X G a__law_place, k__law_place, b__law_place, ok__law_place F__law_place c__law_draw c__law_low⟩
  have c__law_lower : Cal l.prog w K mg base 3 "_law_lower" ["_law_well_here", "_law_many", "_law_kind"] _ := ⟨_, _, PySem.W.mg_of X G a__law_lower, k__law_lower, b__law_lower, ok__law_lower F__law_lower z c__law_place⟩
  have c__law_built : Cal l.prog w K mg base 4 "_law_built" ["_law_well_here", "_law_many", "_law_kind"] _ := ⟨_, _, PySem.W.mg_of X G a__law_built, k__law_built, b__law_built, ok__law_built F__law_built z c__law_draw c__law_dot c__law_lower⟩
  have c__law_flat : Cal l.prog w K mg base 3 "_law_flat" ["_law_well_here", "_law_rows"] _ := ⟨_, _, PySem.W.mg_of X G a__law_flat, k__law_flat, b__law_flat, ok__law_flat F__law_flat z c__law_draw c__law_sum⟩
  have c_p0 : Cal l.prog w K mg base 1 "_law_plain" ["_law_told"] spNo := ⟨_, _, PySem.W.mg_of X G a__law_plain, k__law_plain, b__law_plain, ok_plainN (k := 0) F__law_plain⟩
  have c_p1 : Cal l.prog w K mg base 2 "_law_plain" ["_law_told"] (spPlT K) := ⟨_, _, PySem.W.mg_of X G a__law_plain, k__law_plain, b__law_plain, ok_plainT F__law_plain z c_p0 c__law_low⟩
  have c__law_plain : Cal l.prog w K mg base 3 "_law_plain" ["_law_told"] (spPlL K) := ⟨_, _, PySem.W.mg_of X G a__law_plain, k__law_plain, b__law_plain, ok_plainL F__law_plain z c_p1 c__law_low⟩
  have c__law_right : Cal l.prog w K mg base 4 "_law_right" ["_law_matrix", "_law_right_here", "_law_told"] _ := ⟨_, _, PySem.W.mg_of X G a__law_right, k__law_right, b__law_right, ok__law_right F__law_right z c__law_plain c__law_dot⟩
  exact ok_law F_law z c__law_cell_at c__law_well c__law_draw c__law_one c__law_place c__law_built c__law_flat c_solved c__law_right

end E1

open PySem PySem.W PySem.Calls PyProof.Rows
set_option maxRecDepth 100000 in
set_option maxHeartbeats 0 in
theorem PySem.Challenge.cw_echobound_k13_solved_or_lost_holds : PySem.Challenge.rw_echobound_k13_solved_or_lost.Holds := by
  w_on; o_law
  refine HandSHeadRun.head_any (r := OpenLaw.row PySem.Challenge.rw_echobound_k13_solved_or_lost) (q := HX.qv) (H := HX.hk) (ob := HX.ob) (M := 1607) (loose := HX.names) (d := HandSHeadRun.topDef (OpenLaw.row PySem.Challenge.rw_echobound_k13_solved_or_lost).prog 46) (kwd := []) HX.ob_eq (by kernel_rfl) (fun s => by kernel_rfl) HX.run (by kernel_rfl) (by kernel_rfl) (by kernel_rfl) (by rfl) (by first | assumption | decide +kernel) (by decide +kernel) ⟨rfl, rfl, rfl, rfl, rfl, by decide +kernel⟩ ?hw ?hc
  case hw => w_witness2
  case hc =>
    refine L2.walk_ofE (l := PySem.Challenge.rw_echobound_k13_solved_or_lost) (n := 63) (k := 9) (x := "_law_script") (CX := L2.CX0) rfl (by decide) (by kernel_rfl) ⟨rfl, by decide, by decide⟩ ?F (fun _ _ _ _ z => z)
    intro w mg fa h Y G hmg0
    obtain ⟨K, KX, c⟩ := Y
    have hmg : mg ("law" : PySem.Str) = some (.ref fa) := by
      have e : (HandSHeadRun.topDef (OpenLaw.row PySem.Challenge.rw_echobound_k13_solved_or_lost).prog 46).name = ("law" : PySem.Str) := by kernel_rfl
      rw [← e]
      exact hmg0
    obtain ⟨fd, hb, hF⟩ := E1.all_mk (l := PySem.Challenge.rw_echobound_k13_solved_or_lost) rfl rfl KX G hmg c
    exact ⟨K, fd, E1.spLaw K, KX, hb, fun H a ns hl _ hS => ⟨a, ns, rfl, hS, hl, fun _ => rfl⟩, hF⟩
