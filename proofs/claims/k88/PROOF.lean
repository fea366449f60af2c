import PyProof.Rows.All
import Wide.All
import OpenK.AllK
import Wide.FinOn
import HandS.Codes
import HandS.ForMost
import HandS.Wide
import HandS.Zip
import HandS.IsInst
import HandS.Defaults
import HandS.Style
import HandS.Star
import HandS.Walk
import HandS.More
import HandS.WideBits
import OpenK.KEqL
import HandS.Flow
import HandS.Conv
import HandS.TupAny
import HandS.Small
import HandS.Deep
import KE.GoesMore
import KE.KRevIter
import HandS.Rev
import KE.RegKSuper
import KE.RegKIsAll
import KE.RegKTryMore
import KE.KNestM
import HandS.EndTab
import KE.KStateDown
import HandS.Words
import HandS.WordsExc
import HandS.Head0
import HandS.Head1
import HandS.Head2
import HandS.HeadEnd
import HandS.HeadHook1
import HandS.HeadHook2
import HandS.HeadHook3
import HandS.HeadHook4
import PySem.Challenge.RW_echobound_k88_whole_orders_of_chains
set_option Elab.async false
set_option linter.all false
set_option maxRecDepth 100000
set_option maxHeartbeats 4000000
namespace E1
open PySem PySem.Spec PyProof.Rows L2
/-! ### a def of the text that is called by its name -/
def Cal (P : Program) (w : World) (K : PySem.W.Frag) (mg : Str → Option Value) (base : Heap) (k : Nat) (x : Str) (ps : List Str) (sp : Sp) : Prop :=
  ∃ (f : Addr) (fd : FuncData), mg x = some (.ref f) ∧ PySem.W.keepIn K (.ref f) = true ∧ Binds K fd ps [] ∧ FnOk P w K mg base CX0 k f fd ps sp
theorem pe_cal {X : Cx} {k j : Nat} {x : Str} {ps : List Str} {sp : Sp} {e : Expr} {es : List Expr} {t : TA} {p pos : Pos} (c : Cal X.prog X.w X.K X.mg X.base k x ps sp) (hr : Room j X.A) (ha : PA X (e :: es) t) (hle : k ≤ j := by decide) (hg : Gl X x := by rfl)
    (hdb : (x == ("__debug__" : Str)) = false := by decide) (he : starEach (e :: es) X.env = (false, eval e X.env) :: starEach es X.env := by rfl) (hpl : (backTo pos (starEach es X.env)).any (·.1) = false := by rfl) :
    PE X (.Call (.Name x p) (e :: es) [] pos) (tCall sp [] E0 t) := by
  obtain ⟨f, fd, h1, h2, h3, h4⟩ := c
  exact pe_call h4 (hr.mono hle) hg h1 h2 h3 .nil pass0 ha hdb he hpl
/-! ### heaps -/
def SameBut (a : Addr) (H H' : Hp) : Prop := ∀ b o, b ≠ a → H b = some o → H' b = some o
theorem SameBut.refl (a : Addr) (H : Hp) : SameBut a H H := fun _ _ _ h => h
theorem SameBut.trans {a : Addr} {H H1 H2 : Hp} (x : SameBut a H H1) (y : SameBut a H1 H2) : SameBut a H H2 := fun b o n h => y b o n (x b o n h)
theorem SameBut.of {a : Addr} {H H' : Hp} (s : Same H H') : SameBut a H H' := fun b o _ h => s b o h
theorem SameBut.upd {a : Addr} {H : Hp} {o : HO} : SameBut a H (upd H a o) := fun b _ n h => by
  rw [upd_ne n]
  exact h
theorem same_new {H : Hp} {p : Addr} {o : HO} (h : H p = none) : Same H (upd H p o) := fun b x e => by
  rw [upd_ne (ne_of_none e h)]
  exact e
theorem Same.tup {K : PySem.W.Frag} {H H' : Hp} {a : Addr} {xs : List V} (e : Same H H') (h : SqT K H a xs) : SqT K H' a xs := by
  rcases h with (h | ⟨o, h⟩) | h
  · exact .inl (.inl (e _ _ h))
  · exact .inl (.inr ⟨o, e _ _ h⟩)
  · exact .inr h
theorem a0 {α : Type} {x : α} {l : List α} : atI (x :: l) 0 = some x := atI_nat (j := 0) rfl
theorem a1 {α : Type} {x y : α} {l : List α} : atI (x :: y :: l) 1 = some y := atI_nat (j := 1) rfl
theorem a2 {α : Type} {x y z : α} {l : List α} : atI (x :: y :: z :: l) 2 = some z := atI_nat (j := 2) rfl
theorem toB {p : Prop} [Decidable p] (h : decide p = true) : p := of_decide_eq_true h
theorem toNB {p : Prop} [Decidable p] (h : ¬ decide p = true) : ¬ p := fun z => h (decide_eq_true z)
/-- a well: the digits left, a number that is mixed, how many were mixed (at most c) -/
def WellAt (H : Hp) (a : Addr) (c : Int) : Prop := ∃ x y z : Int, H a = some (.lst [.int x, .int y, .int z]) ∧ 0 ≤ y ∧ y < 2147483647 ∧ 0 ≤ z ∧ z ≤ c
theorem WellAt.mono {H : Hp} {a : Addr} {c d : Int} (h : WellAt H a c) (l : c ≤ d) : WellAt H a d := by
  obtain ⟨x, y, z, e, h1, h2, h3, h4⟩ := h
  exact ⟨x, y, z, e, h1, h2, h3, by omega⟩
theorem WellAt.same {H H' : Hp} {a : Addr} {c : Int} (h : WellAt H a c) (s : Same H H') : WellAt H' a c := by
  obtain ⟨x, y, z, e, h1, h2, h3, h4⟩ := h
  exact ⟨x, y, z, s _ _ e, h1, h2, h3, h4⟩
theorem WellAt.but {H H' : Hp} {a b : Addr} {c : Int} (h : WellAt H a c) (s : SameBut b H H') (n : a ≠ b) : WellAt H' a c := by
  obtain ⟨x, y, z, e, h1, h2, h3, h4⟩ := h
  exact ⟨x, y, z, s _ _ n e, h1, h2, h3, h4⟩
/-! ### promises of the law's helpers -/
def spCell (K : PySem.W.Frag) : Sp := fun vs H Q _ => ∃ (a : Addr) (ns : List Int) (k : Nat), vs = [.ref a, .int k] ∧ SqL K H a (ns.map V.int) ∧ Q (.int (ns.getD k 0)) H
def spWell : Sp := fun vs H Q _ => ∃ c : Int, vs = [.int c] ∧ ∀ p : Addr, H p = none → ∀ H', Same H H' → WellAt H' p 0 → Q (.ref p) H'
/-- a number from 0 to below m; the well has at most one more -/
def spDraw : Sp := fun vs H Q _ => ∃ (a : Addr) (c m : Int), vs = [.ref a, .int m] ∧ WellAt H a c ∧ c ≤ 1000000000 ∧ 0 < m ∧ m.natAbs < 2 ^ 9000 ∧
  ∀ (r : Int) (H' : Hp), 0 ≤ r → r < m → SameBut a H H' → (∀ b, H b = none → H' b = none) → WellAt H' a (c + 1) → Q (.int r) H'
def topS (i : Nat) : Stmt := PySem.Challenge.pw_echobound_k88_whole_orders_of_chains.main.body.getD i (.Pass ⟨0, 0, 0, 0⟩)
abbrev s_is_whole : Stmt := topS 6
abbrev s_is_fraction : Stmt := topS 7
abbrev s_shared_divisor : Stmt := topS 8
abbrev s_lowest : Stmt := topS 9
abbrev s_under : Stmt := topS 10
abbrev s_is_fractions : Stmt := topS 12
abbrev s_common_bottom : Stmt := topS 13
abbrev s_cleared : Stmt := topS 14
abbrev s_sum_of_products : Stmt := topS 15
abbrev s_check_series : Stmt := topS 17
abbrev s_product_place : Stmt := topS 18
abbrev s_first_places : Stmt := topS 19
abbrev s_product_of : Stmt := topS 20
abbrev s_is_section : Stmt := topS 26
abbrev s_is_size : Stmt := topS 27
abbrev s_check_chain : Stmt := topS 28
abbrev s_sizes_of_all : Stmt := topS 29
abbrev s_products_from : Stmt := topS 30
abbrev s_sizes_behind : Stmt := topS 31
abbrev s_shift_sums : Stmt := topS 32
abbrev s_shifts_by : Stmt := topS 33
abbrev s_error_by : Stmt := topS 34
abbrev s_orders_of : Stmt := topS 35
abbrev s_best_order : Stmt := topS 36
abbrev s__law_cell_at : Stmt := topS 38
abbrev s__law_well : Stmt := topS 39
abbrev s__law_draw : Stmt := topS 40
abbrev s__law_low : Stmt := topS 41
abbrev s__law_plus : Stmt := topS 42
abbrev s__law_times : Stmt := topS 43
abbrev s__law_product : Stmt := topS 44
abbrev s__law_together : Stmt := topS 45
abbrev s__law_sizes : Stmt := topS 46
abbrev s__law_fits : Stmt := topS 47
abbrev s__law_error : Stmt := topS 48
abbrev s__law_same : Stmt := topS 49
abbrev s__law_place : Stmt := topS 50
abbrev s__law_orders : Stmt := topS 51
abbrev s__law_sums : Stmt := topS 52
abbrev s__law_steps : Stmt := topS 53
abbrev s__law_rows : Stmt := topS 54
abbrev s__law_others_right : Stmt := topS 55
abbrev s_law : Stmt := topS 56
section
variable {P : Program} {w : World} {K : PySem.W.Frag} {mg : Str → Option Value} {base : Heap}
end
end E1

namespace E1
open PySem PySem.Spec PyProof.Rows L2


end E1

namespace E1
open PySem PySem.Spec PyProof.Rows L2

theorem Vals.rev : ∀ {xs : List V} {us : List Value}, Vals xs us → Vals xs.reverse us.reverse
  | _, _, .nil => .nil
  | _, _, .cons r t => by
    rw [List.reverse_cons, List.reverse_cons]
    exact Vals.append (Vals.rev t) (.cons r .nil)
section
variable {P : Program} {w : World} {K : PySem.W.Frag} {mg : Str → Option Value} {base : Heap} {x : Str} {st : Stmt} {f : Addr} {fd : FuncData} {ps ks : List Str} {k n : Nat} {sp : Sp}
/-- a def without defaults: its arguments by keywords alone or behind others -/
theorem Fun.kbn {qual : Str} (F : Fun K x qual st f fd) {g : List Value → List Value → List Value} {gV : List V → List V → List V} (hrel : ∀ {vs : List V} {us : List Value} {zs : List V} {ws : List Value}, Vals vs us → Vals zs ws → Vals (gV vs zs) (g us ws))
    (h : ∀ (kV doc pm : Value) (an : Option Addr) (cdv ct : Value) (us ws : List Value), us.length = n → ws.length = ks.length → bindArgs (PySem.W.fnOf x qual (defArgs st) (defBody st) (defScope st) .none kV doc pm an cdv ct) ⟨us, ks.zip ws⟩ = pure (ps.zip (g us ws))) : KBn K fd ps n ks g gV := by
  rcases F.ex with ⟨_, _, v1, v2, v3, v4, v5, v6, _, same, _, _⟩
  subst same
  exact ⟨fun s us ws _ l1 l2 => .of_eq (h v1 v2 v3 v4 v5 v6 us ws l1 l2), hrel⟩
/-- a def with defaults, all arguments given -/
theorem FunD.kbn {qual : Str} {params : Arguments} {body : List Stmt} {scope : Scope} {dvs : List V} {kws : List (Str × V)} (F : FunD K x qual params body scope dvs kws f fd) (hd : dvs ≠ []) {g : List Value → List Value → List Value} {gV : List V → List V → List V} (hrel : ∀ {vs : List V} {us : List Value} {zs : List V} {ws : List Value}, Vals vs us → Vals zs ws → Vals (gV vs zs) (g us ws))
    (h : ∀ (T : Addr) (kV doc pm : Value) (an : Option Addr) (cdv ct : Value) (us ws its : List Value), us.length = n → ws.length = ks.length → its.length = dvs.length → ∃ k, bindArgs (PySem.W.fnOf x qual params body scope (.ref T) kV doc pm an cdv ct) ⟨us, ks.zip ws⟩ = seqItems? (.ref T) >>= k ∧ k (some its.toArray) = pure (ps.zip (g us ws))) : KBn K fd ps n ks g gV := by
  rcases F.ex with ⟨_, _, _, v1, v2, v3, v4, v5, v6, _, same, _, _, bare | given, _⟩
  · exact absurd bare.1 hd
  · rcases given with ⟨_, T, _, its, _, dv, at_, it, rel⟩
    subst same dv
    refine ⟨fun s us ws inn l1 l2 => BindsTo.of_looks fun M => ?_, hrel⟩
    rcases h T v1 v2 v3 v4 v5 v6 us ws its l1 l2 rel.length.symm with ⟨go, b1, b2⟩
    rw [b1]
    exact looks_items inn at_ it (.of_pure b2)
end

theorem fun_of {K : PySem.W.Frag} {x qual : Str} {st : Stmt} {f : Addr} {fd : FuncData} (F : FunD K x qual (defArgs st) (defBody st) (defScope st) [] [] f fd) : Fun K x qual st f fd := by
  obtain ⟨oc, od, dV, kV, doc, pm, an, cdv, ct, osl, e, lk, hcd, hd, _⟩ := F.ex
  rcases hd with ⟨_, rfl⟩ | ⟨n, _⟩
  · exact ⟨⟨oc, od, kV, doc, pm, an, cdv, ct, osl, e, lk, hcd⟩, F.kp⟩
  · exact absurd rfl n
theorem ex_at {l : List Bool} (h : (l.all id) = true) {i : Nat} {b : Bool} (e : l[i]? = some b) : b = true := List.all_eq_true.mp h b (List.mem_of_getElem? e)
theorem val_int {K : PySem.W.Frag} {a : Addr} {kvs : List (Str × He.Dv)} (h : He.valsB K a kvs = true) {i : Nat} {k : Str} {v : Int} (e : kvs[i]? = some (k, .int v)) : ∃ t, PySem.W.nsIn K a k = some (some (.int v t)) := by
  obtain ⟨u, e1, r⟩ := He.valsB_ok h (List.mem_of_getElem? e)
  obtain ⟨t, rfl⟩ := r
  exact ⟨t, e1⟩
/-- the head's facts, of these addresses -/
abbrev AlY : Type := He.AlT × Bool
def obsY (as : List Addr) (fa : List He.Fa) (fn : List He.DefD) (ts : List He.Tab) (ex : PySem.W.Frag → Bool) (g : Addr → Option Obj) : AlY := (He.obsT fa fn ts (He.frG g as), ex (He.frG g as))
structure SaysY (fa : List He.Fa) (fn : List He.DefD) (ts : List He.Tab) (ex : PySem.W.Frag → Bool) (w : World) (K : PySem.W.Frag) : Prop where
  t : He.SaysT fa fn ts w K
  more : ex K = true
def hookY (as : List Addr) (fa : List He.Fa) (fn : List He.DefD) (ts : List He.Tab) (ex : PySem.W.Frag → Bool) : PySem.W.Hook where
  α := AlY
  obs := fun s => obsY as fa fn ts ex s.heap.get?
  val := fun w => (He.valT fn ts w, true)
  says := fun w h => ∃ K : PySem.W.Frag, K.In h ∧ SaysY fa fn ts ex w K
  of := fun _ _ e => ⟨_, He.frG_in, congrArg (fun z : AlY => z.1) e, congrArg (fun z : AlY => z.2) e⟩
  keeps := fun _ _ _ ⟨K, hK, c⟩ k => ⟨K, PySem.W.Frag.In.keeps hK k, c⟩
theorem obsY_eq {as : List Addr} {fa : List He.Fa} {fn : List He.DefD} {ts : List He.Tab} {ex : PySem.W.Frag → Bool} {g : Addr → Option Obj} {s : Shared} (h : ∀ a, g a = s.heap.get? a) : obsY as fa fn ts ex g = (hookY as fa fn ts ex).obs s := by
  have e : g = s.heap.get? := funext h
  rw [e]
  rfl
def dd_is_whole : He.DefD := ⟨("is_whole", none), "is_whole", "is_whole", defArgs s_is_whole, defBody s_is_whole, defScope s_is_whole, [], []⟩
def dd_is_fraction : He.DefD := ⟨("is_fraction", none), "is_fraction", "is_fraction", defArgs s_is_fraction, defBody s_is_fraction, defScope s_is_fraction, [], []⟩
def dd_shared_divisor : He.DefD := ⟨("shared_divisor", none), "shared_divisor", "shared_divisor", defArgs s_shared_divisor, defBody s_shared_divisor, defScope s_shared_divisor, [], []⟩
def dd_lowest : He.DefD := ⟨("lowest", none), "lowest", "lowest", defArgs s_lowest, defBody s_lowest, defScope s_lowest, [], []⟩
def dd_under : He.DefD := ⟨("under", none), "under", "under", defArgs s_under, defBody s_under, defScope s_under, [], []⟩
def dd_is_fractions : He.DefD := ⟨("is_fractions", none), "is_fractions", "is_fractions", defArgs s_is_fractions, defBody s_is_fractions, defScope s_is_fractions, [], []⟩
def dd_common_bottom : He.DefD := ⟨("common_bottom", none), "common_bottom", "common_bottom", defArgs s_common_bottom, defBody s_common_bottom, defScope s_common_bottom, [], []⟩
def dd_cleared : He.DefD := ⟨("cleared", none), "cleared", "cleared", defArgs s_cleared, defBody s_cleared, defScope s_cleared, [], []⟩
def dd_sum_of_products : He.DefD := ⟨("sum_of_products", none), "sum_of_products", "sum_of_products", defArgs s_sum_of_products, defBody s_sum_of_products, defScope s_sum_of_products, [], []⟩
def dd_check_series : He.DefD := ⟨("check_series", none), "check_series", "check_series", defArgs s_check_series, defBody s_check_series, defScope s_check_series, [], []⟩
def dd_product_place : He.DefD := ⟨("product_place", none), "product_place", "product_place", defArgs s_product_place, defBody s_product_place, defScope s_product_place, [], []⟩
def dd_first_places : He.DefD := ⟨("first_places", none), "first_places", "first_places", defArgs s_first_places, defBody s_first_places, defScope s_first_places, [], []⟩
def dd_product_of : He.DefD := ⟨("product_of", none), "product_of", "product_of", defArgs s_product_of, defBody s_product_of, defScope s_product_of, [], []⟩
def dd_is_section : He.DefD := ⟨("is_section", none), "is_section", "is_section", defArgs s_is_section, defBody s_is_section, defScope s_is_section, [], []⟩
def dd_is_size : He.DefD := ⟨("is_size", none), "is_size", "is_size", defArgs s_is_size, defBody s_is_size, defScope s_is_size, [], []⟩
def dd_check_chain : He.DefD := ⟨("check_chain", none), "check_chain", "check_chain", defArgs s_check_chain, defBody s_check_chain, defScope s_check_chain, [], []⟩
def dd_sizes_of_all : He.DefD := ⟨("sizes_of_all", none), "sizes_of_all", "sizes_of_all", defArgs s_sizes_of_all, defBody s_sizes_of_all, defScope s_sizes_of_all, [], []⟩
def dd_products_from : He.DefD := ⟨("products_from", none), "products_from", "products_from", defArgs s_products_from, defBody s_products_from, defScope s_products_from, [], []⟩
def dd_sizes_behind : He.DefD := ⟨("sizes_behind", none), "sizes_behind", "sizes_behind", defArgs s_sizes_behind, defBody s_sizes_behind, defScope s_sizes_behind, [], []⟩
def dd_shift_sums : He.DefD := ⟨("shift_sums", none), "shift_sums", "shift_sums", defArgs s_shift_sums, defBody s_shift_sums, defScope s_shift_sums, [], []⟩
def dd_shifts_by : He.DefD := ⟨("shifts_by", none), "shifts_by", "shifts_by", defArgs s_shifts_by, defBody s_shifts_by, defScope s_shifts_by, [], []⟩
def dd_error_by : He.DefD := ⟨("error_by", none), "error_by", "error_by", defArgs s_error_by, defBody s_error_by, defScope s_error_by, [], []⟩
def dd_orders_of : He.DefD := ⟨("orders_of", none), "orders_of", "orders_of", defArgs s_orders_of, defBody s_orders_of, defScope s_orders_of, [], []⟩
def dd_best_order : He.DefD := ⟨("best_order", none), "best_order", "best_order", defArgs s_best_order, defBody s_best_order, defScope s_best_order, [], []⟩
def dd__law_cell_at : He.DefD := ⟨("_law_cell_at", none), "_law_cell_at", "_law_cell_at", defArgs s__law_cell_at, defBody s__law_cell_at, defScope s__law_cell_at, [], []⟩
def dd__law_well : He.DefD := ⟨("_law_well", none), "_law_well", "_law_well", defArgs s__law_well, defBody s__law_well, defScope s__law_well, [], []⟩
def dd__law_draw : He.DefD := ⟨("_law_draw", none), "_law_draw", "_law_draw", defArgs s__law_draw, defBody s__law_draw, defScope s__law_draw, [], []⟩
def dd__law_low : He.DefD := ⟨("_law_low", none), "_law_low", "_law_low", defArgs s__law_low, defBody s__law_low, defScope s__law_low, [], []⟩
def dd__law_plus : He.DefD := ⟨("_law_plus", none), "_law_plus", "_law_plus", defArgs s__law_plus, defBody s__law_plus, defScope s__law_plus, [], []⟩
def dd__law_times : He.DefD := ⟨("_law_times", none), "_law_times", "_law_times", defArgs s__law_times, defBody s__law_times, defScope s__law_times, [], []⟩
def dd__law_product : He.DefD := ⟨("_law_product", none), "_law_product", "_law_product", defArgs s__law_product, defBody s__law_product, defScope s__law_product, [], []⟩
def dd__law_together : He.DefD := ⟨("_law_together", none), "_law_together", "_law_together", defArgs s__law_together, defBody s__law_together, defScope s__law_together, [], []⟩
def dd__law_sizes : He.DefD := ⟨("_law_sizes", none), "_law_sizes", "_law_sizes", defArgs s__law_sizes, defBody s__law_sizes, defScope s__law_sizes, [], []⟩
def dd__law_fits : He.DefD := ⟨("_law_fits", none), "_law_fits", "_law_fits", defArgs s__law_fits, defBody s__law_fits, defScope s__law_fits, [], []⟩
def dd__law_error : He.DefD := ⟨("_law_error", none), "_law_error", "_law_error", defArgs s__law_error, defBody s__law_error, defScope s__law_error, [], []⟩
def dd__law_same : He.DefD := ⟨("_law_same", none), "_law_same", "_law_same", defArgs s__law_same, defBody s__law_same, defScope s__law_same, [], []⟩
def dd__law_place : He.DefD := ⟨("_law_place", none), "_law_place", "_law_place", defArgs s__law_place, defBody s__law_place, defScope s__law_place, [], []⟩
def dd__law_orders : He.DefD := ⟨("_law_orders", none), "_law_orders", "_law_orders", defArgs s__law_orders, defBody s__law_orders, defScope s__law_orders, [], []⟩
def dd__law_sums : He.DefD := ⟨("_law_sums", none), "_law_sums", "_law_sums", defArgs s__law_sums, defBody s__law_sums, defScope s__law_sums, [], []⟩
def dd__law_steps : He.DefD := ⟨("_law_steps", none), "_law_steps", "_law_steps", defArgs s__law_steps, defBody s__law_steps, defScope s__law_steps, [], []⟩
def dd__law_rows : He.DefD := ⟨("_law_rows", none), "_law_rows", "_law_rows", defArgs s__law_rows, defBody s__law_rows, defScope s__law_rows, [], []⟩
def dd__law_others_right : He.DefD := ⟨("_law_others_right", none), "_law_others_right", "_law_others_right", defArgs s__law_others_right, defBody s__law_others_right, defScope s__law_others_right, [], []⟩
def dd_law : He.DefD := ⟨("law", none), "law", "law", defArgs s_law, defBody s_law, defScope s_law, [], []⟩
def FN_0 : List He.DefD := [dd_is_whole, dd_is_fraction, dd_shared_divisor, dd_lowest, dd_under, dd_is_fractions, dd_common_bottom, dd_cleared, dd_sum_of_products, dd_check_series, dd_product_place, dd_first_places, dd_product_of, dd_is_section, dd_is_size, dd_check_chain, dd_sizes_of_all, dd_products_from, dd_sizes_behind, dd_shift_sums]
def FN_1 : List He.DefD := [dd_shifts_by, dd_error_by, dd_orders_of, dd_best_order, dd__law_cell_at, dd__law_well, dd__law_draw, dd__law_low, dd__law_plus, dd__law_times, dd__law_product, dd__law_together, dd__law_sizes, dd__law_fits, dd__law_error, dd__law_same, dd__law_place, dd__law_orders, dd__law_sums, dd__law_steps]
def FN_2 : List He.DefD := [dd__law_rows, dd__law_others_right, dd_law]
def FN : List He.DefD := FN_0 ++ (FN_1 ++ (FN_2))
def FA_0 : List He.Fa := [.glo "is_whole", .glo "is_fraction", .glo "shared_divisor", .glo "lowest", .glo "under", .glo "is_fractions", .glo "common_bottom", .glo "cleared", .glo "sum_of_products", .glo "check_series", .glo "product_place", .glo "first_places", .glo "product_of", .glo "is_section", .glo "is_size", .glo "check_chain", .glo "sizes_of_all", .glo "products_from", .glo "sizes_behind", .glo "shift_sums"]
def FA_1 : List He.Fa := [.glo "shifts_by", .glo "error_by", .glo "orders_of", .glo "best_order", .glo "_law_cell_at", .glo "_law_well", .glo "_law_draw", .glo "_law_low", .glo "_law_plus", .glo "_law_times", .glo "_law_product", .glo "_law_together", .glo "_law_sizes", .glo "_law_fits", .glo "_law_error", .glo "_law_same", .glo "_law_place", .glo "_law_orders", .glo "_law_sums", .glo "_law_steps"]
def FA_2 : List He.Fa := [.glo "_law_rows", .glo "_law_others_right", .glo "law", .int "MOST_PLACES" 8, .int "GREATEST_PART" 1000000, .int "MOST_SECTIONS" 4, .int "GREATEST_SIZE" 1000000000000, .glo "ONE", .free "isinstance", .free "int", .free "bool", .free "tuple", .free "len", .free "abs", .free "list", .free "all", .free "zip", .free "sum", .free "max", .free "range"]
def FA_3 : List He.Fa := [.free "enumerate", .free "str"]
def FA : List He.Fa := FA_0 ++ (FA_1 ++ (FA_2 ++ (FA_3)))
def TS_0 : List He.Tab := []
def TS : List He.Tab := TS_0
def EXL_0 (K : PySem.W.Frag) : List Bool := [He.tupB K "ONE" [.int 1, .int 1]]
def EXL (K : PySem.W.Frag) : List Bool := EXL_0 K
def EXB (K : PySem.W.Frag) : Bool := (EXL K).all id
end E1

namespace HX
open PySem PySem.W PySem.Calls PyProof.Rows
abbrev RR : OpenRow := OpenLaw.row PySem.Challenge.rw_echobound_k88_whole_orders_of_chains
abbrev qv : Program := view RR.prog [56]
def names_0 : List PySem.Str := [("__name__" : PySem.Str), ("EchoError" : PySem.Str), ("NoSeries" : PySem.Str), ("NoChoice" : PySem.Str), ("ONE" : PySem.Str), ("is_whole" : PySem.Str), ("is_fraction" : PySem.Str), ("shared_divisor" : PySem.Str), ("lowest" : PySem.Str), ("under" : PySem.Str), ("is_fractions" : PySem.Str), ("common_bottom" : PySem.Str), ("cleared" : PySem.Str), ("sum_of_products" : PySem.Str), ("check_series" : PySem.Str), ("product_place" : PySem.Str), ("first_places" : PySem.Str), ("product_of" : PySem.Str), ("MOST_SECTIONS" : PySem.Str), ("MOST_PLACES" : PySem.Str)]
def names_1 : List PySem.Str := [("GREATEST_PART" : PySem.Str), ("GREATEST_SIZE" : PySem.Str), ("is_section" : PySem.Str), ("is_size" : PySem.Str), ("check_chain" : PySem.Str), ("sizes_of_all" : PySem.Str), ("products_from" : PySem.Str), ("sizes_behind" : PySem.Str), ("shift_sums" : PySem.Str), ("shifts_by" : PySem.Str), ("error_by" : PySem.Str), ("orders_of" : PySem.Str), ("best_order" : PySem.Str), ("_law_cell_at" : PySem.Str), ("_law_well" : PySem.Str), ("_law_draw" : PySem.Str), ("_law_low" : PySem.Str), ("_law_plus" : PySem.Str), ("_law_times" : PySem.Str), ("_law_product" : PySem.Str)]
def names_2 : List PySem.Str := [("_law_together" : PySem.Str), ("_law_sizes" : PySem.Str), ("_law_fits" : PySem.Str), ("_law_error" : PySem.Str), ("_law_same" : PySem.Str), ("_law_place" : PySem.Str), ("_law_orders" : PySem.Str), ("_law_sums" : PySem.Str), ("_law_steps" : PySem.Str), ("_law_rows" : PySem.Str), ("_law_others_right" : PySem.Str)]
def names : List PySem.Str := names_0 ++ (names_1 ++ (names_2))
def AS_0 : List Addr := [3, 6, 4, 24, 37, 49, 52, 59, 66, 73, 80, 87, 92, 99, 104, 109, 116, 121, 126, 133, 138, 145, 150, 155, 162, 167, 174, 179, 184, 189]
def AS_1 : List Addr := [194, 201, 208, 215, 222, 229, 236, 243, 250, 257, 264, 271, 276, 283, 288, 295, 300, 305, 312, 317, 0, 23, 36, 48, 58, 65, 72, 79, 86, 91]
def AS_2 : List Addr := [98, 103, 108, 115, 120, 125, 132, 137, 144, 149, 154, 161, 166, 173, 178, 183, 188, 193, 200, 207, 214, 221, 228, 235, 242, 249, 256, 263, 270, 275]
def AS_3 : List Addr := [282, 287, 294, 299, 304, 311, 316, 57, 64, 71, 78, 85, 90, 97, 102, 107, 114, 119, 124, 131, 136, 143, 148, 153, 160, 165, 172, 177, 182, 187]
def AS_4 : List Addr := [192, 199, 206, 213, 220, 227, 234, 241, 248, 255, 262, 269, 274, 281, 286, 293, 298, 303, 310, 315, 2]
def AS : List Addr := AS_0 ++ (AS_1 ++ (AS_2 ++ (AS_3 ++ (AS_4))))
abbrev hk : PySem.W.Hook := E1.hookY AS E1.FA E1.FN E1.TS E1.EXB
def ob (s : PySem.W.SharedT) : E1.AlY := E1.obsY AS E1.FA E1.FN E1.TS E1.EXB (HandSHeadRun.getT s)
theorem ob_eq (s : PySem.W.SharedT) : ob s = hk.obs s.abs := E1.obsY_eq (HandSHeadRun.getT_eq s)
set_option maxRecDepth 100000 in
set_option maxHeartbeats 0 in
theorem run_f (w : World) : HandSHeadRun.RunEq RR qv hk ob 2056 names (w.withFollow "special-get-raises" false) := fun os => by kernel_rfl
set_option maxRecDepth 100000 in
set_option maxHeartbeats 0 in
theorem run_t (w : World) : HandSHeadRun.RunEq RR qv hk ob 2056 names (w.withFollow "special-get-raises" true) := fun os => by kernel_rfl
theorem run (w : World) : HandSHeadRun.RunEq RR qv hk ob 2056 names w :=
  byRow2 "special-get-raises" (P := fun w => HandSHeadRun.RunEq RR qv hk ob 2056 names w) run_f run_t w
end HX

namespace E1
open PySem PySem.Spec PyProof.Rows L2

def CalD (P : Program) (w : World) (K : PySem.W.Frag) (mg : Str → Option Value) (base : Heap) (k : Nat) (x : Str) (ps : List Str) (dvs : List V) (sp : Sp) : Prop :=
  ∃ (f : Addr) (fd : FuncData) (ds : List Value), mg x = some (.ref f) ∧ PySem.W.keepIn K (.ref f) = true ∧ Vals dvs ds ∧ Binds K fd ps ds ∧ FnOk P w K mg base CX0 k f fd ps sp
theorem pe_cald {X : Cx} {k j : Nat} {x : Str} {ps : List Str} {dvs : List V} {sp : Sp} {e : Expr} {es : List Expr} {t : TA} {p pos : Pos} (c : CalD X.prog X.w X.K X.mg X.base k x ps dvs sp) (hr : Room j X.A) (ha : PA X (e :: es) t) (hle : k ≤ j := by decide) (hg : Gl X x := by rfl)
    (hdb : (x == ("__debug__" : Str)) = false := by decide) (he : starEach (e :: es) X.env = (false, eval e X.env) :: starEach es X.env := by rfl) (hpl : (backTo pos (starEach es X.env)).any (·.1) = false := by rfl) :
    PE X (.Call (.Name x p) (e :: es) [] pos) (tCall sp dvs E0 t) := by
  obtain ⟨f, fd, ds, h1, h2, hd, h3, h4⟩ := c
  exact pe_call h4 (hr.mono hle) hg h1 h2 h3 hd pass0 ha hdb he hpl
def CalK (P : Program) (w : World) (K : PySem.W.Frag) (mg : Str → Option Value) (base : Heap) (k : Nat) (x : Str) (ps : List Str) (n : Nat) (ks : List Str) (gV : List V → List V → List V) (sp : Sp) : Prop :=
  ∃ (f : Addr) (fd : FuncData) (g : List Value → List Value → List Value), mg x = some (.ref f) ∧ PySem.W.keepIn K (.ref f) = true ∧ KBn K fd ps n ks g gV ∧ FnOk P w K mg base CX0 k f fd ps sp
theorem pe_calk {X : Cx} {k j n : Nat} {x : Str} {ps ks : List Str} {gV : List V → List V → List V} {sp : Sp} {e : Expr} {es : List Expr} {kws : List Keyword} {t tk : TA} {p pos : Pos} (c : CalK X.prog X.w X.K X.mg X.base k x ps n ks gV sp) (hr : Room j X.A)
    (ha : PA X (e :: es) t) (hkw : PK X kws tk) (hle : k ≤ j := by decide) (hg : Gl X x := by rfl) (hall : (backToKw pos (keywordEach kws X.env)).all (·.1.isSome) = true := by rfl) (hks : (backToKw pos (keywordEach kws X.env)).filterMap (·.1) = ks := by rfl)
    (hdb : (x == ("__debug__" : Str)) = false := by decide) (he : starEach (e :: es) X.env = (false, eval e X.env) :: starEach es X.env := by rfl)
    (hpl : ((backTo pos (starEach (e :: es) X.env)).any (·.1) || (backToKw pos (keywordEach kws X.env)).any (·.1.isNone)) = false := by rfl) :
    PE X (.Call (.Name x p) (e :: es) kws pos) (tCallN n ks.length sp gV E0 t tk) := by
  obtain ⟨f, fd, g, h1, h2, h3, h4⟩ := c
  exact pe_callN h4 (hr.mono hle) hg h1 h2 h3 pass0 ha hkw hall hks hdb he hpl
theorem pe_calk0 {X : Cx} {k j : Nat} {x : Str} {ps ks : List Str} {gV : List V → List V → List V} {sp : Sp} {kws : List Keyword} {tk : TA} {p pos : Pos} (c : CalK X.prog X.w X.K X.mg X.base k x ps 0 ks gV sp) (hr : Room j X.A)
    (hkw : PK X kws tk) (hle : k ≤ j := by decide) (hg : Gl X x := by rfl) (hall : (backToKw pos (keywordEach kws X.env)).all (·.1.isSome) = true := by rfl) (hks : (backToKw pos (keywordEach kws X.env)).filterMap (·.1) = ks := by rfl)
    (hdb : (x == ("__debug__" : Str)) = false := by decide)
    (hpl : ((backTo pos (starEach [] X.env)).any (·.1) || (backToKw pos (keywordEach kws X.env)).any (·.1.isNone)) = false := by rfl) :
    PE X (.Call (.Name x p) [] kws pos) (tCallN 0 ks.length sp gV E0 tNil tk) := by
  obtain ⟨f, fd, g, h1, h2, h3, h4⟩ := c
  refine ⟨fun pins s σ H Q I h => ?_⟩
  refine wpAny_Call_Name_kw (ld_glob I hg h1 ?_ hdb)
  refine PySem.W.callWith_KW0 (h₀ := X.base) I.ok.mod.kin h2 hall (thn (hkw.run pos pins s σ H _ I h) fun ws s2 ⟨zs, H2, I2, rz, l1, l2, q2⟩ => ⟨I2.kIn, ?_⟩) hpl
  rw [hks]
  exact run_fnN (vs := []) (us := []) h4 (hr.mono hle) h3 pass0 I2 .nil rz l1 l2 q2
/-- a class handed to isinstance -/
theorem isiB {K : PySem.W.Frag} {H : Hp} {x : V} {a b : String} {r : Bool} {Q : VK} (ty : TyX K H x (.type a)) (k : kitB a b = some r) (q : Q (.bl r) H) : rIsi K [x, .ty b] H Q :=
  ⟨x, .ty b, .type a, .type b, r, rfl, .ty _, ty, kit_ty k, q⟩
/-- whether a thing is a whole number -/
def WholeIs (K : PySem.W.Frag) (H : Hp) (x : V) (b : Bool) : Prop := (∃ i, x = .int i ∧ b = true) ∨ (∃ c, x = .bl c ∧ b = false) ∨ (b = false ∧ ∃ t : String, TyX K H x (.type t) ∧ kitB t "int" = some false)
theorem WholeIs.int {K : PySem.W.Frag} {H : Hp} (i : Int) : WholeIs K H (.int i) true := .inl ⟨i, rfl, rfl⟩
def spWhole (K : PySem.W.Frag) : Sp := fun vs H Q _ => ∃ (x : V) (b : Bool), vs = [x] ∧ WholeIs K H x b ∧ Q (.bl b) H
/-! ### the mathematics of fractions in lowest terms -/
def gI (t b : Int) : Int := (Int.gcd t b : Nat)
def lowT (t b : Int) : Int := (if b < 0 then -t else t) / gI t b
def lowB (t b : Int) : Int := (if b < 0 then -b else b) / gI t b
theorem gI_neg (t b : Int) : gI (-t) (-b) = gI t b := by
  unfold gI
  rw [Int.neg_gcd, Int.gcd_neg]
theorem gI_pos {t b : Int} (h : b ≠ 0) : 0 < gI t b := by
  have : 0 < Int.gcd t b := Int.gcd_pos_of_ne_zero_right t h
  unfold gI
  omega
theorem gI_le {t b : Int} (h : b ≠ 0) : (gI t b).natAbs ≤ b.natAbs := by
  have d : Int.gcd t b ∣ b.natAbs := Nat.gcd_dvd_right t.natAbs b.natAbs
  have := Nat.le_of_dvd (by omega) d
  unfold gI
  omega
def spShared : Sp := fun vs H Q _ => ∃ t b : Int, vs = [.int t, .int b] ∧ 0 ≤ b ∧ Q (.int (gI t b)) H
def spLow : Sp := fun vs H Q _ => ∃ t b : Int, vs = [.int t, .int b] ∧ b ≠ 0 ∧ b.natAbs < 2 ^ 4000 ∧ ∀ p, H p = none → Q (.ref p) (upd H p (.tup [.int (lowT t b), .int (lowB t b)]))
/-- two fractions at two places; the tops and bottoms told by f and d -/
def spTwo (K : PySem.W.Frag) (pre : Int → Int → Int → Int → Prop) (f d : Int → Int → Int → Int → Int) : Sp := fun vs H Q _ => ∃ (a c : Addr) (t u v x : Int), vs = [.ref a, .ref c] ∧ SqT K H a [.int t, .int u] ∧ SqT K H c [.int v, .int x] ∧
  pre t u v x ∧ 0 < u ∧ 0 < x ∧ t.natAbs < 2 ^ 1900 ∧ u.natAbs < 2 ^ 1900 ∧ v.natAbs < 2 ^ 1900 ∧ x.natAbs < 2 ^ 1900 ∧ ∀ p, H p = none → Q (.ref p) (upd H p (.tup [.int (lowT (f t u v x) (d t u v x)), .int (lowB (f t u v x) (d t u v x))]))
def spUnder (K : PySem.W.Frag) : Sp := fun vs H Q _ => ∃ (a c : Addr) (t u v x : Int), vs = [.ref a, .ref c] ∧ SqT K H a [.int t, .int u] ∧ SqT K H c [.int v, .int x] ∧
  t.natAbs < 2 ^ 1900 ∧ u.natAbs < 2 ^ 1900 ∧ v.natAbs < 2 ^ 1900 ∧ x.natAbs < 2 ^ 1900 ∧ Q (.bl (decide (t * x < v * u))) H
def absI (t : Int) : Int := if t < 0 then -t else t
def spSize (K : PySem.W.Frag) : Sp := fun vs H Q _ => ∃ (a : Addr) (t u : Int), vs = [.ref a] ∧ SqT K H a [.int t, .int u] ∧ ∀ p, H p = none → Q (.ref p) (upd H p (.tup [.int (absI t), .int u]))
def twoT (m : Int) : Int := if m < 0 then 1 else 2 ^ m.toNat
def twoB (m : Int) : Int := if m < 0 then 2 ^ (-m).toNat else 1
def spTwoTo : Sp := fun vs H Q _ => ∃ m : Int, vs = [.int m] ∧ -400 ≤ m ∧ m ≤ 400 ∧ ∀ p, H p = none → Q (.ref p) (upd H p (.tup [.int (twoT m), .int (twoB m)]))
def spIsFrac : Sp := fun vs H Q _ => ∃ (a : Addr) (t u : Int), vs = [.ref a] ∧ H a = some (.tup [.int t, .int u]) ∧ 1 ≤ u ∧ Q (.bl (decide (gI t u = 1))) H
theorem up {x : Nat} {a b : Nat} (h : x < 2 ^ a) (l : a ≤ b) : x < 2 ^ b := Nat.lt_of_lt_of_le h (Nat.pow_le_pow_right (by decide) l)
theorem same_but {H H1 H2 : Hp} {p : Addr} (s : Same H H1) (b : SameBut p H1 H2) (hp : H p = none) : Same H H2 := fun a o e => b a o (ne_of_none e hp) (s a o e)
theorem iteN {c A B : Prop} [Decidable c] (h1 : ¬ c → A) (h2 : c → B) : if (!decide c) = true then A else B := by
  by_cases h : c
  · rw [decide_eq_true h]
    exact iteF (h2 h)
  · rw [decide_eq_false h]
    exact iteT (h1 h)
theorem Same.free {H H' : Hp} {p : Addr} (s : Same H H') (h : H' p = none) : H p = none := by
  cases e : H p with
  | none => rfl
  | some o =>
    rw [s _ _ e] at h
    cases h
structure Zs (mg : Str → Option Value) : Prop where
  isinstance : mg "isinstance" = none
  int : mg "int" = none
  bool : mg "bool" = none
  tuple : mg "tuple" = none
  len : mg "len" = none
  abs : mg "abs" = none
  list : mg "list" = none
  all : mg "all" = none
  zip : mg "zip" = none
  sum : mg "sum" = none
  max : mg "max" = none
  range : mg "range" = none
  enumerate : mg "enumerate" = none
  str : mg "str" = none
section
variable {P : Program} {w : World} {K : PySem.W.Frag} {mg : Str → Option Value} {base : Heap}
theorem sc_is_whole : FnScope ["thing"] ["thing"] (defScope s_is_whole) := ⟨rfl, rfl, rfl, by decide +kernel, rfl, by decide +kernel, by decide +kernel⟩
theorem ok_is_whole {f : Addr} {fd : FuncData} {k : Nat} (F : Fun K "is_whole" "is_whole" s_is_whole f fd) (z : Zs mg) : FnOk P w K mg base CX0 (k + 1) f fd ["thing"] (spWhole K) := by
  refine F.ok sc_is_whole (fun vs H Q E h => ?_) (fun cdv A outer s H vs Q E hr h => ?_)
  · obtain ⟨x, b, rfl, _⟩ := h
    rfl
  · obtain ⟨x, b, rfl, hw, q⟩ := h
    refine ⟨_, (pss_one (ps_ret (pe_and (pe_callB call_isi (by rfl) z.isinstance (by decide +kernel) (pa_cons (pv 0) (pa_cons (pe_bltn (v := .ty "int") (by rfl) z.int (by decide +kernel) rfl) pa_nil))) (pe_one (pe_not (pe_callB call_isi (by rfl) z.isinstance (by decide +kernel) (pa_cons (pv 0) (pa_cons (pe_bltn (v := .ty "bool") (by rfl) z.bool (by decide +kernel) rfl) pa_nil)))))))), ?_⟩
    rcases hw with ⟨i, rfl, rfl⟩ | ⟨c, rfl, rfl⟩ | ⟨rfl, t, ty, kt⟩
    · exact ⟨_, rfl, _, .ty "int", _, _, true, rfl, .ty _, .base (.int i), kit_ty (by decide +kernel), _, rfl, iteT ⟨_, rfl, _, .ty "bool", _, _, false, rfl, .ty _, .base (.int i), kit_ty (by decide +kernel), _, rfl, q⟩⟩
    · exact ⟨_, rfl, _, .ty "int", _, _, true, rfl, .ty _, .base (.bl c), kit_ty (by decide +kernel), _, rfl, iteT ⟨_, rfl, _, .ty "bool", _, _, true, rfl, .ty _, .base (.bl c), kit_ty (by decide +kernel), _, rfl, q⟩⟩
    · exact ⟨_, rfl, _, .ty "int", _, _, false, rfl, .ty _, ty, kit_ty kt, _, rfl, iteF q⟩
theorem sc_shared_divisor : FnScope ["top", "bottom", "one", "other"] ["top", "bottom"] (defScope s_shared_divisor) := ⟨rfl, rfl, rfl, by decide +kernel, rfl, by decide +kernel, by decide +kernel⟩
theorem ok_shared_divisor {f : Addr} {fd : FuncData} {k : Nat} (F : Fun K "shared_divisor" "shared_divisor" s_shared_divisor f fd) (z : Zs mg) : FnOk P w K mg base CX0 (k + 1) f fd ["top", "bottom"] spShared := by
  refine F.ok sc_shared_divisor (fun vs H Q E h => ?_) (fun cdv A outer s H vs Q E hr h => ?_)
  · obtain ⟨t, b, rfl, _⟩ := h
    rfl
  · obtain ⟨t, b, rfl, hb, q⟩ := h
    refine ⟨_, (pss_cons (ps_set (i := 2) sc_shared_divisor.nd rfl (.inl rfl) (pe_callB call_abs (by rfl) z.abs (by decide +kernel) (pa_cons (pv 0) pa_nil)))
      (pss_cons (ps_set (i := 3) sc_shared_divisor.nd rfl (.inl rfl) (pv 1))
      (pss_cons (ps_while PassesOwn.never (pt_truth (pv 3) (by intro _; rfl)) (pss_one (ps_par (i := 2) (j := 3) (by rfl) sc_shared_divisor.nd rfl rfl (by decide) rfl rfl (pa_cons (pv 3) (pa_cons (pe_op op_mod (pv 2) (pv 3)) pa_nil)) (by rfl))))
      (pss_one (ps_ret (pv 2)))))), ?_⟩
    refine ⟨_, rfl, _, rfl, ?_⟩
    refine ⟨_, rfl, ?_⟩
    dsimp only [gName, tSeq]
    refine while_by (fun σ H' => H' = H ∧ ∃ m n : Nat, σ = [some (.int t), some (.int b), some (.int (m : Int)), some (.int (n : Int))] ∧ Nat.gcd m n = Int.gcd t b)
      (fun σ _ => match σ with | [_, _, _, some (.int r)] => r.toNat | _ => 0) ⟨rfl, t.natAbs, b.natAbs, ?_, rfl⟩ (fun σ H1 hP => ?_) (fun σ H Q Q' m hh => ?_)
    · have e1 : (if t < 0 then -t else t) = (t.natAbs : Int) := by split <;> omega
      have e2 : b = (b.natAbs : Int) := by omega
      show [some (V.int t), some (V.int b), some (V.int (if t < 0 then -t else t)), some (V.int b)] = _
      rw [e1, ← e2]
    · obtain ⟨rfl, m, n, rfl, hg⟩ := hP
      refine ⟨_, rfl, _, rfl, ?_⟩
      by_cases hn : n = 0
      · subst hn
        have e : ((((0 : Nat) : Int)) != 0) = false := rfl
        rw [e]
        refine iteF ⟨_, rfl, ?_⟩
        rw [Nat.gcd_zero_right] at hg
        have e2 : (m : Int) = gI t b := by
          unfold gI
          rw [hg]
        rw [e2]
        exact q
      · have e : ((n : Int) != 0) = true := by
          rw [bne_iff_ne]
          omega
        rw [e]
        refine iteT ⟨_, rfl, _, rfl, _, rfl, _, _, rfl, rfl, (by omega), _, _, rfl, ⟨⟨rfl, n, m % n, rfl, ?_⟩, ?_⟩⟩
        · rw [← hg, Nat.gcd_comm n (m % n), ← Nat.gcd_rec n m, Nat.gcd_comm]
        · show ((m : Int) % (n : Int)).toNat < ((n : Int)).toNat
          have := Int.emod_lt_of_pos (m : Int) (show (0 : Int) < n by omega)
          have := Int.emod_nonneg (m : Int) (show (n : Int) ≠ 0 by omega)
          omega
    · obtain ⟨v, e, kk, tv, hq⟩ := hh
      exact ⟨v, e, kk, tv, m _ _ hq⟩
theorem sc_lowest : FnScope ["top", "bottom", "shared"] ["top", "bottom"] (defScope s_lowest) := ⟨rfl, rfl, rfl, by decide +kernel, rfl, by decide +kernel, by decide +kernel⟩
theorem ok_lowest {f : Addr} {fd : FuncData} (F : Fun K "lowest" "lowest" s_lowest f fd) (c_shared_divisor : Cal P w K mg base 1 "shared_divisor" ["top", "bottom"] spShared) : FnOk P w K mg base CX0 2 f fd ["top", "bottom"] spLow := by
  refine F.ok sc_lowest (fun vs H Q E h => ?_) (fun cdv A outer s H vs Q E hr h => ?_)
  · obtain ⟨t, b, rfl, _⟩ := h
    rfl
  · obtain ⟨t, b, rfl, hb, hl, q⟩ := h
    refine ⟨_, (pss_cons (ps_if (pt_cmpR op_lt (pv 1) pe_int (nomark _)) (pss_cons (ps_set (i := 0) sc_lowest.nd rfl (.inl rfl) (pe_un un_neg (pv 0)))
      (pss_one (ps_set (i := 1) sc_lowest.nd rfl (.inl rfl) (pe_un un_neg (pv 1))))) pss_nil)
      (pss_cons (ps_set (i := 2) sc_lowest.nd rfl (.inl rfl) (pe_cal c_shared_divisor hr (pa_cons (pv 0) (pa_cons (pv 1) pa_nil))))
      (pss_one (ps_ret (pe_tup (pa_cons (pe_op op_fdivW (pv 0) (pv 2)) (pa_cons (pe_op op_fdivW (pv 1) (pv 2)) pa_nil))))))), ?_⟩
    have g0 := gI_pos (t := t) hb
    have g1 : (gI t b).natAbs < 2 ^ 4000 := Nat.lt_of_le_of_lt (gI_le hb) hl
    refine ⟨_, rfl, _, _, rfl, rfl, _, rfl, ite2 (fun c => ?_) (fun c => ?_)⟩
    · have hc := toB c
      refine ⟨_, rfl, _, rfl, ?_⟩
      refine ⟨_, rfl, _, rfl, ?_⟩
      refine ⟨_, rfl, _, rfl, -t, -b, rfl, by omega, ?_⟩
      rw [gI_neg]
      refine ⟨_, rfl, _, rfl, _, _, rfl, rfl, wide_div g0 g1 (by decide) (by decide), _, rfl, _, rfl, _, _, rfl, rfl, wide_div g0 g1 (by decide) (by decide), (by show 2 ≤ sizeLine; decide), fun p hp => ?_⟩
      have := q p hp
      unfold lowT lowB at this
      rw [if_pos hc, if_pos hc] at this
      exact this
    · have hc := toNB c
      refine ⟨_, rfl, _, rfl, t, b, rfl, by omega, ?_⟩
      refine ⟨_, rfl, _, rfl, _, _, rfl, rfl, wide_div g0 g1 (by decide) (by decide), _, rfl, _, rfl, _, _, rfl, rfl, wide_div g0 g1 (by decide) (by decide), (by show 2 ≤ sizeLine; decide), fun p hp => ?_⟩
      have := q p hp
      unfold lowT lowB at this
      rw [if_neg hc, if_neg hc] at this
      exact this
theorem sc_under : FnScope ["one", "other"] ["one", "other"] (defScope s_under) := ⟨rfl, rfl, rfl, by decide +kernel, rfl, by decide +kernel, by decide +kernel⟩
theorem ok_under {f : Addr} {fd : FuncData} {k : Nat} (F : Fun K "under" "under" s_under f fd) : FnOk P w K mg base CX0 (k + 1) f fd ["one", "other"] (spUnder K) := by
  refine F.ok sc_under (fun vs H Q E h => ?_) (fun cdv A outer s H vs Q E hr h => ?_)
  · obtain ⟨a, c, t, u, v, x, rfl, _⟩ := h
    rfl
  · obtain ⟨a, c, t, u, v, x, rfl, ha, hc, b1, b2, b3, b4, q⟩ := h
    refine ⟨_, (pss_one (ps_ret (pe_cmpR op_lt (pe_op op_mulW (pe_ix ix_tup (pv 0) pe_int (fun _ _ => rfl)) (pe_ix ix_tup (pv 1) pe_int (fun _ _ => rfl))) (pe_op op_mulW (pe_ix ix_tup (pv 1) pe_int (fun _ _ => rfl)) (pe_ix ix_tup (pv 0) pe_int (fun _ _ => rfl))) (nomark _)))), ?_⟩
    exact ⟨_, rfl, a, _, 0, .int t, rfl, rfl, ha, a0, _, rfl, c, _, 1, .int x, rfl, rfl, hc, a1, _, _, rfl, rfl, wide_mul b1 b4 (by decide) (by decide) (by decide), _, rfl, c, _, 0, .int v, rfl, rfl, hc, a0, _, rfl, a, _, 1, .int u, rfl, rfl, ha, a1, _, _, rfl, rfl, wide_mul b3 b2 (by decide) (by decide) (by decide), _, _, rfl, rfl, q⟩
theorem sc_is_fraction : FnScope ["thing", "top", "bottom"] ["thing"] (defScope s_is_fraction) := ⟨rfl, rfl, rfl, by decide +kernel, rfl, by decide +kernel, by decide +kernel⟩
theorem ok_is_fraction {f : Addr} {fd : FuncData} (F : Fun K "is_fraction" "is_fraction" s_is_fraction f fd) (z : Zs mg) (c_is_whole : Cal P w K mg base 1 "is_whole" ["thing"] (spWhole K)) (c_shared_divisor : Cal P w K mg base 1 "shared_divisor" ["top", "bottom"] spShared) : FnOk P w K mg base CX0 2 f fd ["thing"] spIsFrac := by
  refine F.ok sc_is_fraction (fun vs H Q E h => ?_) (fun cdv A outer s H vs Q E hr h => ?_)
  · obtain ⟨a, t, u, rfl, _⟩ := h
    rfl
  · obtain ⟨a, t, u, rfl, ha, hu, q⟩ := h
    refine ⟨_, (pss_cons (ps_if (PW.pt (pw_or (pt_not (pt_val (pe_callB call_isi (by rfl) z.isinstance (by decide +kernel) (pa_cons (pv 0) (pa_cons (pe_bltn (v := .ty "tuple") (by rfl) z.tuple (by decide +kernel) rfl) pa_nil))))) (pw_or1 (pt_cmpR op_ne (pe_callB call_len_seq (by rfl) z.len PySem.boot_len (pa_cons (pv 0) pa_nil)) pe_int (nomark _))))) (pss_one (ps_ret pe_bl)) pss_nil)
      (pss_cons (ps_asg (pv 0) (pg_tup (by rfl) (pgs_cons (pg_name (i := 1) sc_is_fraction.nd rfl (.inl rfl)) (pgs_cons (pg_name (i := 2) sc_is_fraction.nd rfl (.inl rfl)) pgs_nil))))
      (pss_cons (ps_if (PW.pt (pw_or (pt_not (pt_val (pe_cal c_is_whole hr (pa_cons (pv 1) pa_nil)))) (pw_or (pt_not (pt_val (pe_cal c_is_whole hr (pa_cons (pv 2) pa_nil)))) (pw_or1 (pt_cmpR op_lt (pv 2) pe_int (nomark _)))))) (pss_one (ps_ret pe_bl)) pss_nil)
      (pss_one (ps_ret (pe_cmpR op_eq (pe_cal c_shared_divisor hr (pa_cons (pv 1) (pa_cons (pv 2) pa_nil))) pe_int (nomark _))))))), ?_⟩
    refine ⟨_, rfl, _, .ty "tuple", _, _, true, rfl, .ty _, .base (.tup ha), kit_ty (by decide +kernel), _, rfl, iteF ⟨_, rfl, a, _, rfl, .inr (SqT.of ha), rfl, _, rfl, iteF ?_⟩⟩
    refine ⟨_, rfl, a, _, rfl, SqT.of ha, rfl, _, _, rfl, _, _, rfl, rfl, ?_⟩
    refine ⟨_, rfl, _, _, rfl, .int t, _, rfl, iteF ⟨_, rfl, _, _, rfl, .int u, _, rfl, iteF ⟨_, rfl, _, _, rfl, rfl, _, rfl, ite2 (fun c => ?_) (fun c => ?_)⟩⟩⟩
    · have := toB c
      omega
    · refine ⟨_, rfl, _, rfl, t, u, rfl, by omega, rfl, ?_⟩
      have e : (decide (V.int (gI t u) = V.int 1)) = decide (gI t u = 1) := by
        by_cases h : gI t u = 1
        · rw [h]
          rfl
        · rw [decide_eq_false h, decide_eq_false (fun z => h (V.int.inj z))]
      rw [e]
      exact q
end
end E1

namespace E1
open PySem PySem.Spec PyProof.Rows L2
/-! ### sums and convolutions of fractions -/
def sg (f : Nat → Rat) : Nat → Rat
  | 0 => 0
  | n + 1 => sg f n + f n
theorem sg_congr {f g : Nat → Rat} : ∀ n, (∀ i, i < n → f i = g i) → sg f n = sg g n
  | 0, _ => rfl
  | n + 1, h => by
    show sg f n + f n = sg g n + g n
    rw [sg_congr n fun i hi => h i (by omega), h n (by omega)]
theorem sg_zero {f : Nat → Rat} (n : Nat) (h : ∀ i, i < n → f i = 0) : sg f n = 0 := by
  induction n with
  | zero => rfl
  | succ n ih =>
    show sg f n + f n = 0
    rw [ih fun i hi => h i (by omega), h n (by omega)]
    grind
theorem sg_first (f : Nat → Rat) : ∀ n, sg f (n + 1) = f 0 + sg (fun i => f (i + 1)) n
  | 0 => by
    show 0 + f 0 = f 0 + 0
    grind
  | n + 1 => by
    show sg f (n + 1) + f (n + 1) = f 0 + (sg (fun i => f (i + 1)) n + f (n + 1))
    rw [sg_first f n]
    grind
theorem sg_mul (c : Rat) (f : Nat → Rat) : ∀ n, sg (fun i => c * f i) n = c * sg f n
  | 0 => by
    show (0 : Rat) = c * 0
    grind
  | n + 1 => by
    show sg (fun i => c * f i) n + c * f n = c * (sg f n + f n)
    rw [sg_mul c f n]
    grind
theorem sg_add (f g : Nat → Rat) : ∀ n, sg (fun i => f i + g i) n = sg f n + sg g n
  | 0 => by
    show (0 : Rat) = 0 + 0
    grind
  | n + 1 => by
    show sg (fun i => f i + g i) n + (f n + g n) = sg f n + f n + (sg g n + g n)
    rw [sg_add f g n]
    grind
/-- the place m of the product -/
def cv (f g : Nat → Rat) (m : Nat) : Rat := sg (fun i => f i * g (m - i)) (m + 1)
theorem cv_zero (f g : Nat → Rat) : cv f g 0 = f 0 * g 0 := by
  show 0 + f 0 * g 0 = f 0 * g 0
  grind
theorem cv_succ (f g : Nat → Rat) (m : Nat) : cv f g (m + 1) = f 0 * g (m + 1) + cv (fun i => f (i + 1)) g m := by
  unfold cv
  rw [sg_first]
  congr 1
  apply sg_congr
  intro i hi
  show f (i + 1) * g (m + 1 - (i + 1)) = f (i + 1) * g (m - i)
  rw [show m + 1 - (i + 1) = m - i by omega]
theorem cv_congr {f f' g g' : Nat → Rat} {m : Nat} (h1 : ∀ i, i ≤ m → f i = f' i) (h2 : ∀ i, i ≤ m → g i = g' i) : cv f g m = cv f' g' m := by
  unfold cv
  apply sg_congr
  intro i hi
  rw [h1 i (by omega), h2 (m - i) (by omega)]
theorem cv_lin (f g h : Nat → Rat) (c : Rat) (m : Nat) : cv f (fun i => c * g i + h i) m = c * cv f g m + cv f h m := by
  unfold cv
  rw [← sg_mul, ← sg_add]
  apply sg_congr
  intro i _
  grind
theorem cv_sub (f g h : Nat → Rat) (m : Nat) : cv f (fun i => g i - h i) m = cv f g m - cv f h m := by
  have e := cv_lin f h (fun i => g i - h i) 1 m
  have e2 : (fun i => 1 * h i + (g i - h i)) = g := by
    funext i
    grind
  rw [e2] at e
  grind
/-- the row moved on by one -/
def sh (u : Nat → Rat) : Nat → Rat
  | 0 => 0
  | n + 1 => u n
theorem cv_sh (f u : Nat → Rat) (m : Nat) : cv f (sh u) (m + 1) = cv f u m := by
  unfold cv
  show sg (fun i => f i * sh u (m + 1 - i)) (m + 1) + f (m + 1) * sh u (m + 1 - (m + 1)) = _
  rw [Nat.sub_self]
  show _ + f (m + 1) * 0 = _
  have e : sg (fun i => f i * sh u (m + 1 - i)) (m + 1) = sg (fun i => f i * u (m - i)) (m + 1) := by
    apply sg_congr
    intro i hi
    rw [show m + 1 - i = (m - i) + 1 by omega]
    rfl
  rw [e]
  grind
theorem cv_sh0 (f u : Nat → Rat) : cv f (sh u) 0 = 0 := by
  rw [cv_zero]
  show f 0 * 0 = 0
  grind
theorem cv_swap : ∀ (m : Nat) (f g h : Nat → Rat), cv f (cv g h) m = cv g (cv f h) m
  | 0, f, g, h => by
    rw [cv_zero, cv_zero, cv_zero, cv_zero]
    grind
  | m + 1, f, g, h => by
    have split : ∀ f g : Nat → Rat, cv f (cv g h) (m + 1) = f 0 * (g 0 * h (m + 1)) + f 0 * cv (fun i => g (i + 1)) h m + cv (fun i => f (i + 1)) (cv g h) m := fun f g => by
      rw [cv_succ, cv_succ]
      grind
    have inner : ∀ g : Nat → Rat, cv g h = fun i => g 0 * h i + sh (cv (fun i => g (i + 1)) h) i := fun g => by
      funext i
      cases i with
      | zero =>
        rw [cv_zero]
        show g 0 * h 0 = g 0 * h 0 + 0
        grind
      | succ i => exact cv_succ g h i
    rw [split f g, split g f]
    rw [cv_swap m (fun i => f (i + 1)) g h]
    have e1 : cv (fun i => g (i + 1)) (cv f h) m = f 0 * cv (fun i => g (i + 1)) h m + cv (fun i => g (i + 1)) (sh (cv (fun i => f (i + 1)) h)) m := by
      rw [inner f, cv_lin]
    rw [e1]
    cases m with
    | zero =>
      rw [cv_sh0, cv_zero, cv_zero]
      grind
    | succ m =>
      rw [cv_sh, cv_succ g]
      grind
/-- what vanishes ahead of k -/
theorem cv_low {f g : Nat → Rat} {k m : Nat} (h : ∀ i, i < k → g i = 0) (hm : m ≤ k) : cv f g m = if m = k then f 0 * g k else 0 := by
  cases m with
  | zero =>
    rw [cv_zero]
    split
    · next e => rw [e]
    · rw [h 0 (by omega)]
      grind
  | succ m =>
    rw [cv_succ]
    have z : cv (fun i => f (i + 1)) g m = 0 := by
      unfold cv
      apply sg_zero
      intro i hi
      rw [h (m - i) (by omega)]
      grind
    rw [z]
    split
    · next e =>
      rw [e]
      grind
    · rw [h (m + 1) (by omega)]
      grind
/-- two responses part just where the products do -/
theorem part_at {b t h b' t' h' : Nat → Rat} {n : Nat} (r : ∀ m, m ≤ n → cv b h m = t m) (r' : ∀ m, m ≤ n → cv b' h' m = t' m) (b0 : b 0 ≠ 0) (b0' : b' 0 ≠ 0) :
    ∀ k, k ≤ n → (∀ i, i < k → cv b' t i = cv b t' i) → (∀ i, i < k → h i = h' i) ∧ (h k = h' k ↔ cv b' t k = cv b t' k) := by
  have key : ∀ k, k ≤ n → (∀ i, i < k → h i = h' i) → cv b' t k - cv b t' k = b 0 * b' 0 * (h k - h' k) := fun k hk hh => by
    have e1 : cv b' t k = cv b' (cv b h) k := cv_congr (fun _ _ => rfl) fun i hi => (r i (by omega)).symm
    have e2 : cv b t' k = cv b (cv b' h') k := cv_congr (fun _ _ => rfl) fun i hi => (r' i (by omega)).symm
    rw [e1, e2, cv_swap k b' b h, ← cv_sub]
    have e3 : ∀ m, m ≤ k → cv b' h m - cv b' h' m = if m = k then b' 0 * (h k - h' k) else 0 := fun m hm => by
      rw [← cv_sub, cv_low (k := k) (fun i hi => by show h i - h' i = 0; rw [hh i hi]; grind) hm]
    rw [cv_low (k := k) (fun i hi => by rw [e3 i (by omega), if_neg (by omega)]) (Nat.le_refl k), if_pos rfl, e3 k (Nat.le_refl k), if_pos rfl]
    grind
  intro k
  induction k with
  | zero =>
    intro hk _
    refine ⟨fun i hi => absurd hi (by omega), ?_⟩
    have e := key 0 hk (fun i hi => absurd hi (by omega))
    constructor
    · intro z
      rw [z] at e
      grind
    · intro z
      rw [z] at e
      grind
  | succ k ih =>
    intro hk hh
    obtain ⟨i1, i2⟩ := ih (by omega) fun i hi => hh i (by omega)
    have all : ∀ i, i < k + 1 → h i = h' i := fun i hi => by
      by_cases c : i < k
      · exact i1 i c
      · rw [show i = k by omega]
        exact i2.mpr (hh k (by omega))
    refine ⟨all, ?_⟩
    have e := key (k + 1) hk all
    constructor
    · intro z
      rw [z] at e
      grind
    · intro z
      rw [z] at e
      grind
/-! ### lists of fractions -/
def fn (qs : List Rat) (i : Nat) : Rat := qs.getD i 0
def sumR : List Rat → Rat
  | [] => 0
  | x :: xs => x + sumR xs
def dotR : List Rat → List Rat → Rat
  | x :: xs, y :: ys => x * y + dotR xs ys
  | _, _ => 0
theorem sumR_append : ∀ xs ys : List Rat, sumR (xs ++ ys) = sumR xs + sumR ys
  | [], ys => by
    show sumR ys = 0 + sumR ys
    grind
  | x :: xs, ys => by
    show x + sumR (xs ++ ys) = x + sumR xs + sumR ys
    rw [sumR_append xs ys]
    grind
theorem fn_lt {qs : List Rat} {i : Nat} {q : Rat} (h : qs[i]? = some q) : fn qs i = q := by
  unfold fn
  rw [List.getD_eq_getElem?_getD, h]
  rfl
theorem fn_ge {qs : List Rat} {i : Nat} (h : qs.length ≤ i) : fn qs i = 0 := by
  unfold fn
  rw [List.getD_eq_getElem?_getD, List.getElem?_eq_none h]
  rfl
/-- a sum over the first n places -/
theorem sum_map (f : Nat → Rat) : ∀ n, sumR ((List.range n).map f) = sg f n
  | 0 => rfl
  | n + 1 => by
    rw [List.range_succ, List.map_append, sumR_append, sum_map f n]
    show sg f n + (f n + 0) = sg f n + f n
    grind
theorem sum_filter (f : Nat → Rat) (p : Nat → Bool) : ∀ n, sumR (((List.range n).filter p).map f) = sg (fun i => if p i = true then f i else 0) n
  | 0 => rfl
  | n + 1 => by
    rw [List.range_succ, List.filter_append, List.map_append, sumR_append, sum_filter f p n]
    show _ = sg (fun i => if p i = true then f i else 0) n + (if p n = true then f n else 0)
    congr 1
    by_cases c : p n = true
    · rw [if_pos c, List.filter_cons, if_pos c]
      show f n + 0 = f n
      grind
    · rw [if_neg c, List.filter_cons, if_neg c]
      rfl
theorem sg_more (f : Nat → Rat) (n : Nat) : ∀ m, (∀ i, n ≤ i → i < n + m → f i = 0) → sg f (n + m) = sg f n
  | 0, _ => rfl
  | m + 1, h => by
    show sg f (n + m) + f (n + m) = sg f n
    rw [sg_more f n m fun i h1 h2 => h i h1 (by omega), h (n + m) (by omega) (by omega)]
    grind
theorem sg_upto (f : Nat → Rat) {n m : Nat} (h : ∀ i, (n ≤ i ∨ m ≤ i) → f i = 0) : sg f n = sg f m := by
  by_cases c : n ≤ m
  · have e := sg_more f n (m - n) (fun i h1 _ => h i (.inl h1))
    rw [show n + (m - n) = m by omega] at e
    exact e.symm
  · have e := sg_more f m (n - m) (fun i h1 _ => h i (.inr h1))
    rw [show m + (n - m) = n by omega] at e
    exact e
/-- the law's own sum of a place -/
theorem law_place (xs ys : List Rat) (k : Nat) : sumR (((List.range xs.length).filter fun j => decide (j ≤ k ∧ k < j + ys.length)).map fun j => fn xs j * fn ys (k - j)) = cv (fn xs) (fn ys) k := by
  rw [sum_filter]
  unfold cv
  have e1 : sg (fun i => if decide (i ≤ k ∧ k < i + ys.length) = true then fn xs i * fn ys (k - i) else 0) xs.length = sg (fun i => if decide (i ≤ k ∧ k < i + ys.length) = true then fn xs i * fn ys (k - i) else 0) (k + 1) := by
    apply sg_upto
    intro i hi
    show (if decide (i ≤ k ∧ k < i + ys.length) = true then fn xs i * fn ys (k - i) else 0) = 0
    rcases hi with h | h
    · rw [fn_ge h]
      split
      · grind
      · rfl
    · rw [if_neg (by rw [decide_eq_true_eq]; omega)]
  rw [e1]
  apply sg_congr
  intro i hi
  show (if decide (i ≤ k ∧ k < i + ys.length) = true then fn xs i * fn ys (k - i) else 0) = fn xs i * fn ys (k - i)
  by_cases c : k < i + ys.length
  · rw [if_pos (by rw [decide_eq_true_eq]; omega)]
  · rw [if_neg (by rw [decide_eq_true_eq]; omega), fn_ge (qs := ys) (by omega)]
    grind
/-- two lists place by place -/
theorem dot_map (f g : Nat → Rat) (n : Nat) : ∀ m, dotR ((List.range' n m).map f) ((List.range' n m).map g) = sg (fun i => f (n + i) * g (n + i)) m := by
  intro m
  induction m generalizing n with
  | zero => rfl
  | succ m ih =>
    rw [List.range'_succ, List.map_cons, List.map_cons]
    show f n * g n + dotR ((List.range' (n + 1) m).map f) ((List.range' (n + 1) m).map g) = _
    rw [ih (n + 1), sg_first]
    congr 1
    apply sg_congr
    intro i _
    rw [show n + 1 + i = n + (i + 1) by omega]
theorem drop_range {xs : List Rat} {n m : Nat} (h : n + m ≤ xs.length) : (xs.drop n).take m = (List.range' n m).map (fn xs) := by
  apply List.ext_getElem?
  intro i
  rw [List.getElem?_take, List.getElem?_drop, List.getElem?_map]
  by_cases c : i < m
  · rw [if_pos c, List.getElem?_range' c, List.getElem?_eq_getElem (show n + i < xs.length by omega)]
    show _ = some (fn xs (n + 1 * i))
    rw [Nat.one_mul, fn_lt (List.getElem?_eq_getElem (show n + i < xs.length by omega))]
  · rw [if_neg c, List.getElem?_eq_none (by rw [List.length_range']; omega)]
    rfl
/-- the program's own sum of a place -/
theorem prog_place (xs ys : List Rat) (k : Nat) {f m : Nat} (hf : f = k + 1 - ys.length) (hm : m = min (k + 1) xs.length - f) : dotR ((List.range' f m).map (fn xs)) ((List.range' f m).map fun j => fn ys (k - j)) = cv (fn xs) (fn ys) k := by
  rw [dot_map]
  unfold cv
  have low : sg (fun i => fn xs i * fn ys (k - i)) f = 0 := sg_zero f fun i hi => by
    rw [fn_ge (qs := ys) (by omega)]
    grind
  have cut : ∀ m, sg (fun i => fn xs i * fn ys (k - i)) (f + m) = sg (fun i => fn xs (f + i) * fn ys (k - (f + i))) m := by
    intro m
    induction m with
    | zero => exact low
    | succ m ih =>
      show sg (fun i => fn xs i * fn ys (k - i)) (f + m) + fn xs (f + m) * fn ys (k - (f + m)) = sg (fun i => fn xs (f + i) * fn ys (k - (f + i))) m + fn xs (f + m) * fn ys (k - (f + m))
      rw [ih]
  rw [← cut m]
  by_cases c : k + 1 ≤ xs.length
  · by_cases c2 : f ≤ k + 1
    · rw [show f + m = k + 1 by omega]
    · omega
  · by_cases c2 : f ≤ xs.length
    · rw [show f + m = xs.length by omega]
      have := sg_more (fun i => fn xs i * fn ys (k - i)) xs.length (k + 1 - xs.length) fun i h1 _ => by
        show fn xs i * fn ys (k - i) = 0
        rw [fn_ge h1]
        grind
      rw [show xs.length + (k + 1 - xs.length) = k + 1 by omega] at this
      exact this.symm
    · have m0 : m = 0 := by omega
      rw [m0, Nat.add_zero, low]
      symm
      apply sg_zero
      intro i hi
      show fn xs i * fn ys (k - i) = 0
      by_cases c3 : i < xs.length
      · rw [fn_ge (qs := ys) (by omega)]
        grind
      · rw [fn_ge (qs := xs) (by omega)]
        grind
/-! ### the response -/
/-- the next place behind the row -/
def nxt (t b row : List Rat) : Rat := (fn t row.length - dotR b.tail row.reverse) / fn b 0
def quo (t b : List Rat) : Nat → List Rat
  | 0 => []
  | n + 1 => quo t b n ++ [nxt t b (quo t b n)]
theorem quo_len (t b : List Rat) : ∀ n, (quo t b n).length = n
  | 0 => rfl
  | n + 1 => by
    show (quo t b n ++ [nxt t b (quo t b n)]).length = n + 1
    rw [List.length_append, quo_len t b n]
    rfl
theorem dot_sg : ∀ xs ys : List Rat, dotR xs ys = sg (fun i => fn xs i * fn ys i) ys.length
  | [], ys => by
    symm
    show sg _ _ = 0
    apply sg_zero
    intro i _
    rw [fn_ge (Nat.zero_le _)]
    grind
  | x :: xs, [] => rfl
  | x :: xs, y :: ys => by
    show x * y + dotR xs ys = sg _ (ys.length + 1)
    rw [sg_first, dot_sg xs ys]
    rfl
theorem fn_tail (b : List Rat) (i : Nat) : fn b.tail i = fn b (i + 1) := by
  cases b with
  | nil => rfl
  | cons x xs => rfl
theorem fn_rev (row : List Rat) {i : Nat} (h : i < row.length) : fn row.reverse i = fn row (row.length - 1 - i) := by
  unfold fn
  rw [List.getD_eq_getElem?_getD, List.getD_eq_getElem?_getD, List.getElem?_reverse h]
theorem quo_fn (t b : List Rat) {i : Nat} : ∀ {n m : Nat}, i < n → n ≤ m → fn (quo t b m) i = fn (quo t b n) i := by
  intro n m h1 h2
  induction m with
  | zero => omega
  | succ m ih =>
    by_cases c : n ≤ m
    · rw [← ih c]
      show fn (quo t b m ++ [_]) i = _
      unfold fn
      rw [List.getD_eq_getElem?_getD, List.getD_eq_getElem?_getD, List.getElem?_append_left (by rw [quo_len]; omega)]
    · rw [show n = m + 1 by omega]
theorem quo_ok (t b : List Rat) (b0 : fn b 0 ≠ 0) (n k : Nat) (h : k < n) : cv (fn b) (fn (quo t b n)) k = fn t k := by
  have e0 : cv (fn b) (fn (quo t b n)) k = cv (fn b) (fn (quo t b (k + 1))) k := cv_congr (fun _ _ => rfl) fun i hi => quo_fn t b (show i < k + 1 by omega) (by omega)
  rw [e0]
  have last : fn (quo t b (k + 1)) k = nxt t b (quo t b k) := by
    show fn (quo t b k ++ [nxt t b (quo t b k)]) k = _
    apply fn_lt
    rw [List.getElem?_append_right (by rw [quo_len]; exact Nat.le_refl _), quo_len, Nat.sub_self]
    rfl
  have den : fn b 0 * nxt t b (quo t b k) = fn t k - dotR b.tail (quo t b k).reverse := by
    unfold nxt
    rw [quo_len]
    grind
  unfold cv
  rw [sg_first]
  show fn b 0 * fn (quo t b (k + 1)) (k - 0) + _ = _
  rw [Nat.sub_zero, last, den, dot_sg, List.length_reverse, quo_len]
  have e : sg (fun i => fn b (i + 1) * fn (quo t b (k + 1)) (k - (i + 1))) k = sg (fun i => fn b.tail i * fn (quo t b k).reverse i) k := by
    apply sg_congr
    intro i hi
    rw [fn_tail, fn_rev _ (by rw [quo_len]; exact hi), quo_len, show k - (i + 1) = k - 1 - i by omega]
    rw [quo_fn t b (n := k) (m := k + 1) (by omega) (by omega)]
  rw [e]
  grind
/-! ### fractions in lowest terms -/
theorem lowT_num {t b : Int} (hb : b ≠ 0) : lowT t b = (Rat.divInt t b).num := by
  rw [Rat.num_divInt]
  unfold lowT gI
  rw [Int.gcd_comm b t]
  split
  · next h =>
    rw [Int.sign_eq_neg_one_of_neg h, Int.neg_mul, Int.one_mul]
  · next h =>
    rw [Int.sign_eq_one_of_pos (by omega), Int.one_mul]
theorem lowB_den {t b : Int} (hb : b ≠ 0) : lowB t b = ((Rat.divInt t b).den : Int) := by
  rw [Rat.den_divInt, if_neg hb]
  unfold lowB gI
  rw [Int.gcd_comm b t, Int.natCast_ediv]
  congr 1
  split <;> omega
theorem den_ne (q : Rat) : (q.den : Int) ≠ 0 := by
  have := q.den_pos
  omega
theorem den_ge (q : Rat) : (0 : Int) < q.den := by
  have := q.den_pos
  omega
theorem q_eq (q : Rat) : q * (q.den : Int) = (q.num : Rat) := by
  have h := Rat.num_divInt_den q
  rw [Rat.divInt_eq_div] at h
  have d : ((q.den : Int) : Rat) ≠ 0 := by
    intro z
    have : (q.den : Int) = 0 := by exact_mod_cast z
    exact den_ne q this
  grind
theorem cast_ne {n : Int} (h : n ≠ 0) : (n : Rat) ≠ 0 := fun z => h (by exact_mod_cast z)
theorem div_q {t b : Int} (h : b ≠ 0) : Rat.divInt t b * (b : Rat) = (t : Rat) := by
  rw [Rat.divInt_eq_div]
  have := cast_ne h
  grind
theorem div_is {t b : Int} (h : b ≠ 0) {q : Rat} (e : q * (b : Rat) = (t : Rat)) : Rat.divInt t b = q := by
  have := div_q (t := t) h
  have := cast_ne h
  grind
theorem minus_q (q r : Rat) : Rat.divInt (q.num * r.den - r.num * q.den) (q.den * r.den) = q - r := by
  apply div_is (Int.mul_ne_zero (den_ne q) (den_ne r))
  have a := q_eq q
  have b := q_eq r
  push_cast at *
  grind
theorem times_q (q r : Rat) : Rat.divInt (q.num * r.num) (q.den * r.den) = q * r := by
  apply div_is (Int.mul_ne_zero (den_ne q) (den_ne r))
  have a := q_eq q
  have b := q_eq r
  push_cast at *
  grind
theorem num_ne {q : Rat} (h : q ≠ 0) : q.num ≠ 0 := fun z => by
  have a := q_eq q
  rw [z] at a
  have d := cast_ne (den_ne q)
  have : ((0 : Int) : Rat) = 0 := rfl
  grind
theorem num_eq {q : Rat} (h : q.num = 0) : q = 0 := by
  by_cases c : q = 0
  · exact c
  · exact absurd h (num_ne c)
theorem divided_q (q r : Rat) (h : r ≠ 0) : Rat.divInt (q.num * r.den) (q.den * r.num) = q / r := by
  apply div_is (Int.mul_ne_zero (den_ne q) (num_ne h))
  have a := q_eq q
  have b := q_eq r
  have d1 := cast_ne (den_ne q)
  have d2 := cast_ne (den_ne r)
  push_cast at *
  grind
theorem q_gcd (q : Rat) : gI q.num q.den = 1 := by
  have := q.reduced
  unfold gI
  show ((Nat.gcd q.num.natAbs (q.den : Int).natAbs : Nat) : Int) = 1
  rw [Int.natAbs_natCast, this]
  rfl
/-! ### sizes -/
def Sc (D : Int) (B : Nat) (q : Rat) : Prop := ∃ n : Int, q * (D : Rat) = (n : Rat) ∧ n.natAbs ≤ B
theorem Sc.cross {D : Int} {B : Nat} {q : Rat} (h : Sc D B q) : ∃ n : Int, q.num * D = n * q.den ∧ n.natAbs ≤ B := by
  obtain ⟨n, e, b⟩ := h
  refine ⟨n, ?_, b⟩
  have a := q_eq q
  have : ((q.num * D : Int) : Rat) = ((n * q.den : Int) : Rat) := by
    push_cast
    push_cast at a
    grind
  exact_mod_cast this
theorem Sc.den {D : Int} {B : Nat} {q : Rat} (h : Sc D B q) : (q.den : Int) ∣ D := by
  obtain ⟨n, e, _⟩ := h.cross
  have d : q.den ∣ q.num.natAbs * D.natAbs := by
    have e2 := congrArg Int.natAbs e
    rw [Int.natAbs_mul, Int.natAbs_mul, Int.natAbs_natCast] at e2
    exact ⟨n.natAbs, by rw [e2, Nat.mul_comm]⟩
  have g : Nat.Coprime q.den q.num.natAbs := Nat.Coprime.symm q.reduced
  have := g.dvd_of_dvd_mul_left d
  exact Int.dvd_natAbs.mp (by exact_mod_cast this)
theorem Sc.num {D : Int} {B : Nat} {q : Rat} (h : Sc D B q) (hD : D ≠ 0) : q.num.natAbs ≤ B := by
  have dv := h.den
  obtain ⟨n, e, b⟩ := h.cross
  have l : q.den ≤ D.natAbs := by
    have : (q.den : Int).natAbs ∣ D.natAbs := Int.natAbs_dvd_natAbs.mpr dv
    rw [Int.natAbs_natCast] at this
    exact Nat.le_of_dvd (by omega) this
  have e2 := congrArg Int.natAbs e
  rw [Int.natAbs_mul, Int.natAbs_mul, Int.natAbs_natCast] at e2
  have h1 : q.num.natAbs * D.natAbs ≤ n.natAbs * D.natAbs := by
    rw [e2]
    exact Nat.mul_le_mul_left _ l
  exact Nat.le_trans (Nat.le_of_mul_le_mul_right h1 (by omega)) b
theorem Sc.mono {D : Int} {B C : Nat} {q : Rat} (h : Sc D B q) (l : B ≤ C) : Sc D C q := by
  obtain ⟨n, e, b⟩ := h
  exact ⟨n, e, by omega⟩
theorem Sc.scale {D k : Int} {B : Nat} {q : Rat} (h : Sc D B q) : Sc (D * k) (B * k.natAbs) q := by
  obtain ⟨n, e, b⟩ := h
  refine ⟨n * k, ?_, ?_⟩
  · push_cast
    grind
  · rw [Int.natAbs_mul]
    exact Nat.mul_le_mul_right _ b
theorem Sc.add {D : Int} {B C : Nat} {q r : Rat} (h : Sc D B q) (g : Sc D C r) : Sc D (B + C) (q + r) := by
  obtain ⟨n, e, b⟩ := h
  obtain ⟨m, f, c⟩ := g
  refine ⟨n + m, ?_, by omega⟩
  push_cast
  grind
theorem Sc.mul {D E : Int} {B C : Nat} {q r : Rat} (h : Sc D B q) (g : Sc E C r) : Sc (D * E) (B * C) (q * r) := by
  obtain ⟨n, e, b⟩ := h
  obtain ⟨m, f, c⟩ := g
  refine ⟨n * m, ?_, by rw [Int.natAbs_mul]; exact Nat.mul_le_mul b c⟩
  push_cast
  grind
theorem Sc.zero {D : Int} {B : Nat} : Sc D B 0 := ⟨0, by push_cast; grind, Nat.zero_le _⟩
/-- the step of a response, with whole numbers -/
theorem horner {D β0 : Int} {B C : Nat} (hB : β0.natAbs ≤ B) (hC : 6 * B ≤ C) : ∀ (bs hs : List Rat) (k : Nat), (∀ b ∈ bs, Sc D B b) → (∀ i q, hs[i]? = some q → i < k ∧ Sc (β0 ^ (k - i)) (C ^ (k - i)) q) →
    ∃ S : Int, dotR bs hs * (D : Rat) * ((β0 ^ k : Int) : Rat) = (S : Rat) ∧ 5 * S.natAbs ≤ C ^ (k + 1)
  | [], hs, k, _, _ => ⟨0, by show (0 : Rat) * _ * _ = _; push_cast; grind, by simp⟩
  | b :: bs, [], k, _, _ => ⟨0, by show (0 : Rat) * _ * _ = _; push_cast; grind, by simp⟩
  | b :: bs, h :: hs, k, h1, h2 => by
    obtain ⟨k0, m, em, bm⟩ := h2 0 h rfl
    obtain ⟨j, rfl⟩ : ∃ j, k = j + 1 := ⟨k - 1, by omega⟩
    obtain ⟨S, eS, bS⟩ := horner hB hC bs hs j (fun x hx => h1 x (List.mem_cons_of_mem _ hx)) fun i q hq => by
      obtain ⟨l1, l2⟩ := h2 (i + 1) q hq
      rw [show j + 1 - (i + 1) = j - i by omega] at l2
      exact ⟨by omega, l2⟩
    obtain ⟨n, en, bn⟩ := h1 b List.mem_cons_self
    refine ⟨n * m + β0 * S, ?_, ?_⟩
    · show (b * h + dotR bs hs) * (D : Rat) * ((β0 ^ (j + 1) : Int) : Rat) = _
      rw [Nat.sub_zero] at em
      have p : ((β0 ^ (j + 1) : Int) : Rat) = (β0 : Rat) * ((β0 ^ j : Int) : Rat) := by
        rw [Int.pow_succ]
        push_cast
        grind
      push_cast at *
      grind
    · rw [Nat.sub_zero] at bm
      have t1 : (n * m).natAbs ≤ B * C ^ (j + 1) := by
        rw [Int.natAbs_mul]
        exact Nat.mul_le_mul bn bm
      have t2 : (β0 * S).natAbs ≤ B * S.natAbs := by
        rw [Int.natAbs_mul]
        exact Nat.mul_le_mul_right _ hB
      have t3 := Int.natAbs_add_le (n * m) (β0 * S)
      have t4 : 5 * (B * S.natAbs) ≤ B * C ^ (j + 1) := by
        rw [show 5 * (B * S.natAbs) = B * (5 * S.natAbs) by rw [← Nat.mul_assoc, Nat.mul_comm 5 B, Nat.mul_assoc]]
        exact Nat.mul_le_mul_left _ bS
      have t5 : 6 * (B * C ^ (j + 1)) ≤ C ^ (j + 1 + 1) := by
        rw [← Nat.mul_assoc, Nat.pow_succ C (j + 1), Nat.mul_comm (C ^ (j + 1)) C]
        exact Nat.mul_le_mul_right _ hC
      omega
theorem nxt_sc {D β0 : Int} {B C : Nat} {t b row : List Rat} (hD : D ≠ 0) (h0 : fn b 0 * (D : Rat) = (β0 : Rat)) (hn : β0 ≠ 0) (hB : β0.natAbs ≤ B) (hC : 6 * B ≤ C) (hb : ∀ x ∈ b, Sc D B x) (ht : ∀ i, Sc D B (fn t i))
    (hr : ∀ i q, row[i]? = some q → Sc (β0 ^ (i + 1)) (C ^ (i + 1)) q) : Sc (β0 ^ (row.length + 1)) (C ^ (row.length + 1)) (nxt t b row) := by
  obtain ⟨S, eS, bS⟩ := horner hB hC b.tail row.reverse row.length (fun x hx => hb x (List.mem_of_mem_tail hx)) fun i q hq => by
    have li : i < row.length := by
      have := (List.getElem?_eq_some_iff.mp hq).1
      rw [List.length_reverse] at this
      exact this
    rw [List.getElem?_reverse li] at hq
    have := hr _ q hq
    rw [show row.length - 1 - i + 1 = row.length - i by omega] at this
    exact ⟨li, this⟩
  obtain ⟨τ, eτ, bτ⟩ := ht row.length
  refine ⟨τ * β0 ^ row.length - S, ?_, ?_⟩
  · unfold nxt
    have b0 : fn b 0 ≠ 0 := fun z => by
      rw [z] at h0
      have := cast_ne hn
      grind
    have p : ((β0 ^ (row.length + 1) : Int) : Rat) = (β0 : Rat) * ((β0 ^ row.length : Int) : Rat) := by
      rw [Int.pow_succ]
      push_cast
      grind
    rw [p]
    push_cast at *
    grind
  · have t1 : (τ * β0 ^ row.length).natAbs ≤ B * B ^ row.length := by
      rw [Int.natAbs_mul, Int.natAbs_pow]
      exact Nat.mul_le_mul bτ (Nat.pow_le_pow_left hB _)
    have t2 : 6 * (B * B ^ row.length) ≤ C ^ (row.length + 1) := by
      rw [← Nat.mul_assoc, Nat.pow_succ, Nat.mul_comm (C ^ row.length) C]
      exact Nat.mul_le_mul hC (Nat.pow_le_pow_left (by omega) _)
    have t3 := Int.natAbs_sub_le (τ * β0 ^ row.length) S
    omega
theorem quo_sc {D β0 : Int} {B C : Nat} {t b : List Rat} (hD : D ≠ 0) (h0 : fn b 0 * (D : Rat) = (β0 : Rat)) (hn : β0 ≠ 0) (hB : β0.natAbs ≤ B) (hC : 6 * B ≤ C) (hb : ∀ x ∈ b, Sc D B x) (ht : ∀ i, Sc D B (fn t i)) :
    ∀ n i q, (quo t b n)[i]? = some q → Sc (β0 ^ (i + 1)) (C ^ (i + 1)) q
  | 0, i, q, h => by
    have : ([] : List Rat)[i]? = some q := h
    cases this
  | n + 1, i, q, h => by
    have h' : (quo t b n ++ [nxt t b (quo t b n)])[i]? = some q := h
    by_cases c : i < n
    · rw [List.getElem?_append_left (by rw [quo_len]; exact c)] at h'
      exact quo_sc hD h0 hn hB hC hb ht n i q h'
    · have li := (List.getElem?_eq_some_iff.mp h').1
      rw [List.length_append, quo_len] at li
      have e : i = n := by
        have : i < n + 1 := li
        omega
      subst e
      rw [List.getElem?_append_right (by rw [quo_len]; exact Nat.le_refl _), quo_len, Nat.sub_self] at h'
      cases h'
      have := nxt_sc hD h0 hn hB hC hb ht (row := quo t b i) fun j r hr => quo_sc hD h0 hn hB hC hb ht i j r hr
      rw [quo_len] at this
      exact this
/-! ### one bottom for all -/
def lcmI (c b : Int) : Int := if c % b = 0 then c else c / gI c b * b
theorem gI_dl (c b : Int) : gI c b ∣ c := by
  unfold gI
  exact Int.gcd_dvd_left ..
theorem gI_dr (c b : Int) : gI c b ∣ b := by
  unfold gI
  exact Int.gcd_dvd_right ..
theorem lcmI_ok {c b : Int} (hc : 0 < c) (hb : 0 < b) : 0 < lcmI c b ∧ c ∣ lcmI c b ∧ b ∣ lcmI c b ∧ ∀ D, c ∣ D → b ∣ D → lcmI c b ∣ D := by
  unfold lcmI
  split
  · next h => exact ⟨hc, Int.dvd_refl c, Int.dvd_of_emod_eq_zero h, fun D h1 _ => h1⟩
  · have g0 := gI_pos (t := c) (b := b) (by omega)
    obtain ⟨x, hx⟩ := gI_dl c b
    obtain ⟨y, hy⟩ := gI_dr c b
    have cop : Nat.gcd x.natAbs y.natAbs = 1 := by
      have h := Int.gcd_mul_left (gI c b) x y
      rw [← hx, ← hy] at h
      have h2 : Int.gcd c b = (gI c b).natAbs := by
        unfold gI
        rw [Int.natAbs_natCast]
      rw [h2] at h
      have : (gI c b).natAbs * 1 = (gI c b).natAbs * Int.gcd x y := by
        rw [Nat.mul_one]
        exact h
      exact (Nat.eq_of_mul_eq_mul_left (by omega) this).symm
    generalize gI c b = g at *
    have ex : c / g = x := Int.ediv_eq_of_eq_mul_right (by omega) hx
    rw [ex]
    have x0 : 0 < x := by
      rcases Int.lt_trichotomy x 0 with z | z | z
      · have := Int.mul_neg_of_pos_of_neg g0 z
        omega
      · rw [z, Int.mul_zero] at hx
        omega
      · exact z
    refine ⟨Int.mul_pos x0 hb, ⟨y, ?_⟩, ⟨x, Int.mul_comm _ _⟩, fun D h1 h2 => ?_⟩
    · subst hx hy
      grind
    · obtain ⟨d1, e1⟩ := h1
      obtain ⟨d2, e2⟩ := h2
      have e3 : x * d1 = y * d2 := by
        have : g * (x * d1) = g * (y * d2) := by
          rw [← Int.mul_assoc, ← Int.mul_assoc, ← hx, ← hy, ← e1, ← e2]
        exact Int.eq_of_mul_eq_mul_left (by omega) this
      have yd : y.natAbs ∣ d1.natAbs := by
        have h1 : y.natAbs ∣ x.natAbs * d1.natAbs := by
          rw [← Int.natAbs_mul, e3, Int.natAbs_mul]
          exact ⟨_, rfl⟩
        have cp : Nat.Coprime y.natAbs x.natAbs := Nat.Coprime.symm cop
        exact cp.dvd_of_dvd_mul_left h1
      obtain ⟨k, hk⟩ := Int.natAbs_dvd_natAbs.mp yd
      refine ⟨k, ?_⟩
      subst hx hy hk
      grind
def com (bs : List Int) : Int := bs.foldl lcmI 1
theorem com_ok : ∀ (bs : List Int) (c : Int), 0 < c → (∀ b ∈ bs, 0 < b) → 0 < bs.foldl lcmI c ∧ c ∣ bs.foldl lcmI c ∧ (∀ b ∈ bs, b ∣ bs.foldl lcmI c) ∧ ∀ D, c ∣ D → (∀ b ∈ bs, b ∣ D) → bs.foldl lcmI c ∣ D
  | [], c, hc, _ => ⟨hc, Int.dvd_refl c, fun b h => absurd h List.not_mem_nil, fun D h _ => h⟩
  | b :: bs, c, hc, hb => by
    obtain ⟨a1, a2, a3, a4⟩ := lcmI_ok hc (hb b List.mem_cons_self)
    obtain ⟨i1, i2, i3, i4⟩ := com_ok bs (lcmI c b) a1 fun x hx => hb x (List.mem_cons_of_mem _ hx)
    rw [List.foldl_cons]
    refine ⟨i1, Int.dvd_trans a2 i2, fun x hx => ?_, fun D h1 h2 => i4 D (a4 D h1 (h2 b List.mem_cons_self)) fun x hx => h2 x (List.mem_cons_of_mem _ hx)⟩
    rcases List.mem_cons.mp hx with rfl | hx
    · exact Int.dvd_trans a3 i2
    · exact i3 x hx
/-- tops over one bottom -/
def tops (c : Int) (ps : List (Int × Int)) : List Int := ps.map fun p => p.1 * (c / p.2)
theorem clear_q (c : Int) (hc : c ≠ 0) : ∀ ps : List (Int × Int), (∀ p ∈ ps, 0 < p.2 ∧ p.2 ∣ c) → sumR (ps.map fun p => Rat.divInt p.1 p.2) * (c : Rat) = ((tops c ps).sum : Int)
  | [], _ => by
    show (0 : Rat) * _ = ((0 : Int) : Rat)
    push_cast
    grind
  | p :: ps, h => by
    have i := clear_q c hc ps fun x hx => h x (List.mem_cons_of_mem _ hx)
    obtain ⟨p0, k, hk⟩ := h p List.mem_cons_self
    have e : c / p.2 = k := Int.ediv_eq_of_eq_mul_right (by omega) hk
    show (Rat.divInt p.1 p.2 + sumR (ps.map fun p => Rat.divInt p.1 p.2)) * (c : Rat) = ((p.1 * (c / p.2) + (tops c ps).sum : Int) : Rat)
    rw [e]
    have d := div_q (t := p.1) (show p.2 ≠ 0 by omega)
    have hk2 : (c : Rat) = (p.2 : Rat) * (k : Rat) := by
      rw [hk]
      push_cast
      rfl
    push_cast
    grind
/-- the products that aren't 0 -/
def prods : List Rat → List Rat → List (Int × Int)
  | x :: xs, y :: ys => (if x.num ≠ 0 ∧ y.num ≠ 0 then [(x.num * y.num, (x.den * y.den : Int))] else []) ++ prods xs ys
  | _, _ => []
theorem prods_q : ∀ xs ys : List Rat, sumR ((prods xs ys).map fun p => Rat.divInt p.1 p.2) = dotR xs ys
  | [], _ => rfl
  | _ :: _, [] => rfl
  | x :: xs, y :: ys => by
    show sumR (((if x.num ≠ 0 ∧ y.num ≠ 0 then [(x.num * y.num, (x.den * y.den : Int))] else []) ++ prods xs ys).map fun p => Rat.divInt p.1 p.2) = x * y + dotR xs ys
    rw [List.map_append, sumR_append, prods_q xs ys]
    split
    · show Rat.divInt (x.num * y.num) (x.den * y.den) + 0 + _ = _
      rw [times_q]
      grind
    · next h =>
      have z : x * y = 0 := by
        by_cases c : x.num = 0
        · rw [num_eq c]
          grind
        · have : y.num = 0 := Classical.byContradiction fun w => h ⟨c, w⟩
          rw [num_eq this]
          grind
      rw [z]
      show (0 : Rat) + _ = _
      grind
theorem prods_mem : ∀ {xs ys : List Rat} {p : Int × Int}, p ∈ prods xs ys → ∃ x ∈ xs, ∃ y ∈ ys, p = (x.num * y.num, (x.den * y.den : Int))
  | [], _, p, h => absurd h List.not_mem_nil
  | _ :: _, [], p, h => absurd h List.not_mem_nil
  | x :: xs, y :: ys, p, h => by
    have h' : p ∈ (if x.num ≠ 0 ∧ y.num ≠ 0 then [(x.num * y.num, (x.den * y.den : Int))] else []) ++ prods xs ys := h
    rcases List.mem_append.mp h' with h | h
    · split at h
      · exact ⟨x, List.mem_cons_self, y, List.mem_cons_self, List.mem_singleton.mp h⟩
      · exact absurd h List.not_mem_nil
    · obtain ⟨a, h1, b, h2, e⟩ := prods_mem h
      exact ⟨a, List.mem_cons_of_mem _ h1, b, List.mem_cons_of_mem _ h2, e⟩
/-! ### lists of pairs and of fractions in the heap -/
inductive PrsAt (H : Hp) : List V → List (Int × Int) → Prop where
  | nil : PrsAt H [] []
  | cons {p : Addr} {t b : Int} {vs : List V} {ps : List (Int × Int)} (e : H p = some (.tup [.int t, .int b])) (r : PrsAt H vs ps) : PrsAt H (.ref p :: vs) ((t, b) :: ps)
def pr (q : Rat) : Int × Int := (q.num, (q.den : Int))
abbrev FrsAt (H : Hp) (vs : List V) (qs : List Rat) : Prop := PrsAt H vs (qs.map pr)
def Fr (H : Hp) (p : Addr) (q : Rat) : Prop := H p = some (.tup [.int q.num, .int (q.den : Int)])
def FrL (H : Hp) (a : Addr) (qs : List Rat) : Prop := ∃ vs, H a = some (.lst vs) ∧ FrsAt H vs qs
theorem PrsAt.same {H H' : Hp} {vs : List V} {ps : List (Int × Int)} (h : PrsAt H vs ps) (s : Same H H') : PrsAt H' vs ps := by
  induction h with
  | nil => exact .nil
  | cons e _ ih => exact .cons (s _ _ e) ih
theorem PrsAt.but {H H' : Hp} {a : Addr} {xs : List V} {vs : List V} {ps : List (Int × Int)} (h : PrsAt H vs ps) (s : SameBut a H H') (ha : H a = some (.lst xs)) : PrsAt H' vs ps := by
  induction h with
  | nil => exact .nil
  | cons e _ ih => exact .cons (s _ _ (ne_of e ha (fun z => nomatch z)) e) ih
theorem PrsAt.len {H : Hp} {vs : List V} {ps : List (Int × Int)} (h : PrsAt H vs ps) : vs.length = ps.length := by
  induction h with
  | nil => rfl
  | cons _ _ ih => rw [List.length_cons, List.length_cons, ih]
theorem PrsAt.get {H : Hp} {vs : List V} {ps : List (Int × Int)} (h : PrsAt H vs ps) : ∀ {i : Nat} {v : V}, vs[i]? = some v → ∃ p t b, v = .ref p ∧ ps[i]? = some (t, b) ∧ H p = some (.tup [.int t, .int b]) := by
  induction h with
  | nil => intro i v z; cases z
  | cons e _ ih =>
    intro i v z
    cases i with
    | zero =>
      cases z
      exact ⟨_, _, _, rfl, rfl, e⟩
    | succ i => exact ih z
theorem PrsAt.at {H : Hp} {vs : List V} {ps : List (Int × Int)} (h : PrsAt H vs ps) : ∀ {i : Nat} {x : Int × Int}, ps[i]? = some x → ∃ p, vs[i]? = some (.ref p) ∧ H p = some (.tup [.int x.1, .int x.2]) := by
  induction h with
  | nil => intro i v z; cases z
  | cons e _ ih =>
    intro i v z
    cases i with
    | zero =>
      cases z
      exact ⟨_, rfl, e⟩
    | succ i => exact ih z
theorem PrsAt.app {H : Hp} {vs ws : List V} {ps qs : List (Int × Int)} (h : PrsAt H vs ps) (g : PrsAt H ws qs) : PrsAt H (vs ++ ws) (ps ++ qs) := by
  induction h with
  | nil => exact g
  | cons e _ ih => exact .cons e ih
theorem PrsAt.drop {H : Hp} {vs : List V} {ps : List (Int × Int)} (h : PrsAt H vs ps) : ∀ n, PrsAt H (vs.drop n) (ps.drop n) := by
  induction h with
  | nil => intro n; rw [List.drop_nil, List.drop_nil]; exact .nil
  | cons e r ih =>
    intro n
    cases n with
    | zero => exact .cons e r
    | succ n => exact ih n
theorem PrsAt.take {H : Hp} {vs : List V} {ps : List (Int × Int)} (h : PrsAt H vs ps) : ∀ n, PrsAt H (vs.take n) (ps.take n) := by
  induction h with
  | nil => intro n; rw [List.take_nil, List.take_nil]; exact .nil
  | cons e r ih =>
    intro n
    cases n with
    | zero => exact .nil
    | succ n => exact .cons e (ih n)
theorem FrsAt.get {H : Hp} {vs : List V} {qs : List Rat} (h : FrsAt H vs qs) {i : Nat} {v : V} (e : vs[i]? = some v) : ∃ p q, v = .ref p ∧ qs[i]? = some q ∧ Fr H p q := by
  obtain ⟨p, t, b, e1, e2, e3⟩ := PrsAt.get h e
  rw [List.getElem?_map] at e2
  obtain ⟨q, hq, ee⟩ := Option.map_eq_some_iff.mp e2
  cases ee
  exact ⟨p, q, e1, hq, e3⟩
theorem FrsAt.at {H : Hp} {vs : List V} {qs : List Rat} (h : FrsAt H vs qs) {i : Nat} {q : Rat} (e : qs[i]? = some q) : ∃ p, vs[i]? = some (.ref p) ∧ Fr H p q := PrsAt.at h (x := pr q) (by rw [List.getElem?_map, e]; rfl)
theorem FrsAt.len {H : Hp} {vs : List V} {qs : List Rat} (h : FrsAt H vs qs) : vs.length = qs.length := by
  have := PrsAt.len h
  rw [List.length_map] at this
  exact this
theorem FrsAt.app {H : Hp} {vs ws : List V} {qs rs : List Rat} (h : FrsAt H vs qs) (g : FrsAt H ws rs) : FrsAt H (vs ++ ws) (qs ++ rs) := by
  show PrsAt H _ ((qs ++ rs).map pr)
  rw [List.map_append]
  exact PrsAt.app h g
theorem FrsAt.one {H : Hp} {p : Addr} {q : Rat} (h : Fr H p q) : FrsAt H [.ref p] [q] := .cons h .nil
theorem FrsAt.drop {H : Hp} {vs : List V} {qs : List Rat} (h : FrsAt H vs qs) (n : Nat) : FrsAt H (vs.drop n) (qs.drop n) := by
  show PrsAt H _ ((qs.drop n).map pr)
  rw [List.map_drop]
  exact PrsAt.drop h n
theorem FrsAt.take {H : Hp} {vs : List V} {qs : List Rat} (h : FrsAt H vs qs) (n : Nat) : FrsAt H (vs.take n) (qs.take n) := by
  show PrsAt H _ ((qs.take n).map pr)
  rw [List.map_take]
  exact PrsAt.take h n
theorem FrL.same {H H' : Hp} {a : Addr} {qs : List Rat} (h : FrL H a qs) (s : Same H H') : FrL H' a qs := by
  obtain ⟨vs, e, r⟩ := h
  exact ⟨vs, s _ _ e, PrsAt.same r s⟩
theorem Fr.same {H H' : Hp} {p : Addr} {q : Rat} (h : Fr H p q) (s : Same H H') : Fr H' p q := s _ _ h
theorem Fr.low {H : Hp} {p : Addr} {t b : Int} {q : Rat} (hb : b ≠ 0) (e : Rat.divInt t b = q) (h : H p = some (.tup [.int (lowT t b), .int (lowB t b)])) : Fr H p q := by
  rw [lowT_num hb, lowB_den hb, e] at h
  exact h
/-- as data -/
def frD (q : Rat) : PyData := .tuple [.int q.num, .int (q.den : Int)]
theorem Fr.dp {K : PySem.W.Frag} {H : Hp} {p : Addr} {q : Rat} (h : Fr H p q) : Dp K H (.ref p) (frD q) := .tup (SqT.of h) (.cons (.int _) (.cons (.int _) .nil))
theorem FrsAt.dp {K : PySem.W.Frag} {H : Hp} : ∀ {qs : List Rat} {vs : List V}, FrsAt H vs qs → DpAll K H vs (qs.map frD)
  | [], vs, h => by
    cases h
    exact .nil
  | q :: qs, vs, h => by
    cases h with
    | cons e r => exact .cons (Fr.dp e) (FrsAt.dp r)
theorem frD_eqv (q r : Rat) : PyData.eqv (frD q) (frD r) = decide (q = r) := by
  show PyData.eqv (.tuple [.int q.num, .int (q.den : Int)]) (.tuple [.int r.num, .int (r.den : Int)]) = _
  simp only [PyData.eqv, PyData.eqvAll, Bool.and_true]
  rw [Bool.eq_iff_iff]
  simp only [Bool.and_eq_true, beq_iff_eq, decide_eq_true_eq]
  constructor
  · intro ⟨h1, h2⟩
    exact Rat.ext h1 (by exact_mod_cast h2)
  · intro h
    rw [h]
    exact ⟨rfl, rfl⟩
theorem frDs_eqv : ∀ qs rs : List Rat, PyData.eqvAll (qs.map frD) (rs.map frD) = decide (qs = rs)
  | [], [] => by simp [PyData.eqvAll]
  | [], r :: rs => by simp [PyData.eqvAll]
  | q :: qs, [] => by simp [PyData.eqvAll]
  | q :: qs, r :: rs => by
    rw [List.map_cons, List.map_cons, PyData.eqvAll, frD_eqv, frDs_eqv qs rs, Bool.eq_iff_iff]
    simp
theorem frL_eqv (qs rs : List Rat) : PyData.eqv (.list (qs.map frD)) (.list (rs.map frD)) = decide (qs = rs) := by
  rw [← frDs_eqv]
  simp only [PyData.eqv]
theorem frDs_lay : ∀ qs : List Rat, PyData.canLayAll0 (qs.map frD) = true
  | [] => rfl
  | q :: qs => by
    rw [List.map_cons, PyData.canLayAll0, frDs_lay qs, Bool.and_true]
    rfl
theorem frDs_deep : ∀ qs : List Rat, PyData.depthAll (qs.map frD) ≤ 3
  | [] => by simp [PyData.depthAll]
  | q :: qs => by
    have := frDs_deep qs
    simp only [List.map_cons, PyData.depthAll, frD, PyData.depth]
    omega
theorem frD_shaped (q : Rat) : SeqAt.shaped (frD q) = true := rfl
theorem frL_shaped (qs : List Rat) : SeqAt.shaped (.list (qs.map frD)) = true := by
  have h1 := frDs_deep qs
  have h2 : PyData.depth (.list (qs.map frD)) ≤ 64 := by simp only [PyData.depth]; omega
  show (PyData.canLay0 (.list (qs.map frD)) && decide (PyData.depth (.list (qs.map frD)) ≤ 64)) = true
  rw [Bool.and_eq_true]
  exact ⟨by simp only [PyData.canLay0]; exact frDs_lay qs, decide_eq_true h2⟩

end E1

namespace L2
open PySem PySem.Spec PyProof.Rows
/-! ### zip(reversed(e), y), lists -/
section
variable {prog : Program} {w : World} {A : Around} {E : Value → Shared → Prop} {s : Shared} {it l : Addr}
theorem rev_gives {k : Nat} {its : Array Value} {v : Value} {Q : Value → Shared → Prop} (r : s.heap.IsRevIter it l (k : Int)) (hl : s.heap.IsList l its) (hv : its[k]? = some v)
    (q : ∀ g, g.IsRevIter it l ((k : Int) - 1) → Heap.SameBut it s.heap g → Q v { s with heap := g }) : wpAny (model prog w) A (Builtin.SmallTypes.nextOf (.ref it)) Q E s := by
  obtain ⟨ob, e1, e2, e3⟩ := id r
  obtain ⟨lo, l1, _, m, l2⟩ := hl
  have T := r.typeIs
  unfold Builtin.SmallTypes.nextOf
  refine wpAny_bind (wpAny_callSpecial?_slot (name := Str.ofString "__next__") T F.slot_lri_next (wpAny_call_entry F.slot_lri_next T F.entry_lri_next ?_ (F.args_lri_next_1 _)))
  unfold Builtin.«list_reverseiterator.__next__»
  have a1 : ∀ {A' : Around} {E' : Value → Shared → Prop} {R : Value → Shared → Prop}, R (rawInt (k : Int)) s → wpAny (model prog w) A' (field (.ref it) 1) R E' s := fun h => wpAny_field e1 e3 rfl h
  have a0 : ∀ {A' : Around} {E' : Value → Shared → Prop} {R : Value → Shared → Prop}, R (.ref l) s → wpAny (model prog w) A' (field (.ref it) 0) R E' s := fun h => wpAny_field e1 e3 rfl h
  have as : ∀ {A' : Around} {E' : Value → Shared → Prop} {R : Option (Array Value) → Shared → Prop}, R (some its) s → wpAny (model prog w) A' (seqItems? (.ref l)) R E' s := fun h => wpAny_seqItems l1 l2 h
  refine wpAny_bind (wpAny_of_eq (a := (Value.ref it, [])) rfl (wpAny_bind (a1 ?_)))
  show wpAny _ _ (if ((k : Nat) : Int) < 0 then _ else _) _ _ s
  rw [if_neg (Int.not_lt.mpr (Int.natCast_nonneg k))]
  refine wpAny_bind (show wpAny _ _ (field (.ref it) 0) _ _ s from a0 (wpAny_bind (as ?_)))
  simp only [Int.toNat_natCast, hv]
  refine wpAny_bind (wpAny_setField e1 e3 (Nat.lt_succ_self 1) ?_)
  refine wpAny_pure ⟨v, rfl, wpAny_pure (q _ ⟨_, Heap.get?_update_self _ e1 (Obj.isFreed_of_fields (Obj.data_mapFields e3 _)), (Obj.cls_mapFields ..).trans e2, ?_⟩ (Heap.SameBut.update ..))⟩
  rw [Obj.data_mapFields e3]
  rfl
theorem rev_stops {Q : Value → Shared → Prop} (hh : A.handled = none) (r : s.heap.IsRevIter it l (-1))
    (q : ∀ g e, Heap.ExtBut it s.heap g → (∃ o, g.get? e = some o ∧ o.cls = .type "StopIteration") → E (.ref e) { s with heap := g }) : wpAny (model prog w) A (Builtin.SmallTypes.nextOf (.ref it)) Q E s := by
  obtain ⟨ob, e1, e2, e3⟩ := id r
  have T := r.typeIs
  unfold Builtin.SmallTypes.nextOf
  refine wpAny_bind (wpAny_callSpecial?_slot (name := Str.ofString "__next__") T F.slot_lri_next (wpAny_call_entry F.slot_lri_next T F.entry_lri_next ?_ (F.args_lri_next_1 _)))
  unfold Builtin.«list_reverseiterator.__next__»
  refine wpAny_bind (wpAny_of_eq (a := (Value.ref it, [])) rfl (wpAny_bind (wpAny_field e1 e3 (x := rawInt (-1)) rfl ?_)))
  show wpAny _ _ (if (-1 : Int) < 0 then _ else _) _ _ s
  rw [if_pos (by decide)]
  refine wpAny_bind (wpAny_rule (wpAny_bind ?_))
  show wpAny _ _ (newExc (.type "StopIteration") [] >>= _) _ _ _
  refine wpAny_bind ?_
  simp only [newExc, newTuple]
  refine wpAny_bind (wpAny_newObj_type (wpAny_bind (m := firstArgMember _ _) (wpAny_of_eq (a := Value.none) (by first | rfl | (simp only [firstArgMember]; rfl)) (wpAny_newObj_type ?_ (by size_fits)))) (by size_fits))
  simp only [raiseNew]
  refine wpAny_bind (wpAny_handled ?_)
  first | rw [show A.in1.handled = none from hh] | rw [hh]
  exact wpAny_bind (wpAny_pure (wpAny_throw (q _ _ (((Heap.ExtBut.refl _ _).push _).push _) ⟨_, Heap.get?_push_size _ rfl, rfl⟩)))
end
theorem draws_rev {prog : Program} {w : World} {A : Around} (hh : A.handled = none) {it l : Addr} (ne : l ≠ it) (its : Array Value) :
    Draws prog w A it [it, l] its.size (fun i v => its[its.size - 1 - i]? = some v) (fun i h => (i ≤ its.size ∧ h.IsRevIter it l ((its.size : Int) - 1 - (i : Int))) ∧ h.IsList l its) := by
  refine ⟨fun i h st => let ⟨o, e, _⟩ := st.1.2; ⟨o, e⟩, fun i h h' st k => ⟨⟨st.1.1, st.1.2.at fun o e => k it (List.mem_cons_self ..) o e⟩, st.2.at fun o e => k l (by simp) o e⟩, fun i s Q E lt st q => ?_, fun s Q E st q => ?_⟩
  · obtain ⟨⟨_, r⟩, li⟩ := st
    have e : (its.size : Int) - 1 - (i : Int) = ((its.size - 1 - i : Nat) : Int) := by omega
    rw [e] at r
    have hv : its[its.size - 1 - i]? = some (its[its.size - 1 - i]'(by omega)) := Array.getElem?_eq_getElem (by omega)
    refine rev_gives r li hv fun g r' sb => q _ g s.toks hv ⟨⟨lt, ?_⟩, li.at fun o eo => (sb.2 l ne).trans eo⟩ sb
    rw [show (its.size : Int) - 1 - ((i + 1 : Nat) : Int) = ((its.size - 1 - i : Nat) : Int) - 1 by omega]
    exact r'
  · obtain ⟨⟨_, r⟩, li⟩ := st
    rw [show (its.size : Int) - 1 - (its.size : Int) = -1 by omega] at r
    exact rev_stops hh r q

abbrev rzT (h : Heap) (it : Addr) (o : Obj) : Heap := (h.push o).push { cls := .type "tuple", data := .seq #[.ref it, .ref h.objs.size] }
abbrev rzO (h : Heap) (it : Addr) (o : Obj) : Heap := (rzT h it o).push { cls := .type "tuple", data := .seq #[.none, .none] }
abbrev rzZ (h : Heap) (it : Addr) (o : Obj) : Heap := (rzO h it o).push { cls := .type "zip", data := .fields #[.none, .bool false, .bool false, .ref (h.push o).objs.size, .ref (rzT h it o).objs.size] }
theorem meets_rz {it l : Addr} {k : Int} {v : Value} {o : Obj} {H : Heap → Prop} (B : Begins v o H) :
    Meets (Builtin.«zip.__new__» ⟨[.type "zip", .ref it, v], []⟩) (fun _ R s => (s.heap.IsRevIter it l k ∧ H s.heap) ∧ R (.ok (.ret (.ref (rzO s.heap it o).objs.size))) { s with heap := rzZ s.heap it o }) := by
  refine .of_wp fun prog w A R s h => ?_
  obtain ⟨hp, g, d, tk, os⟩ := s
  obtain ⟨⟨r, hh⟩, h⟩ := h
  have hsub := sub_zip
  have i1 : ∀ {A' : Around} {E Q : Value → Shared → Prop}, Q (.ref it) ⟨hp, g, d, tk, os⟩ → wpAny (model prog w) A' (pyIter (.ref it)) Q E ⟨hp, g, d, tk, os⟩ := fun q => wpAny_pyIter_revIter (s := ⟨hp, g, d, tk, os⟩) r q
  have i2 : ∀ {A' : Around} {E Q : Value → Shared → Prop}, Q (.ref hp.objs.size) ⟨hp.push o, g, d, tk, os⟩ → wpAny (model prog w) A' (pyIter v) Q E ⟨hp, g, d, tk, os⟩ := fun q => B.iter prog w _ _ ⟨hp, g, d, tk, os⟩ _ hh q
  wp_walk using i1, i2
  exact ⟨_, rfl, h⟩
section
variable {prog : Program} {w : World} {A : Around} {E : Value → Shared → Prop} {s : Shared}
theorem rz_begins {it l : Addr} {k : Int} {v : Value} {o : Obj} {H : Heap → Prop} {Q : Value → Shared → Prop} (B : Begins v o H) (r : s.heap.IsRevIter it l k) (hh : H s.heap)
    (h : ∀ g, IsZip g (s.heap.objs.size + 3) (s.heap.objs.size + 1) (s.heap.objs.size + 2) .none → IsTupOf2 g (s.heap.objs.size + 1) (.ref it) (.ref s.heap.objs.size) → IsTupOf2 g (s.heap.objs.size + 2) .none .none →
      g.get? s.heap.objs.size = some o → (∀ c ob, s.heap.get? c = some ob → g.get? c = some ob) → Q (.ref (s.heap.objs.size + 3)) { s with heap := g }) : wpAny (model prog w) A (call (.type "zip") [.ref it, v]) Q E s := by
  refine callType_new F.called_zip (by decide) (F.typeCall_zip_2 _ _) (F.newCall_zip_2 _ _) (fun obj => F.args_object_init_3 obj _ _) F.entry_zip_new (meets_rz (l := l) (k := k) B) ⟨⟨r, hh⟩, ?_⟩
  have up : ∀ (g : Heap) (ob : Obj) c o', g.get? c = some o' → (g.push ob).get? c = some o' := fun g ob c o' e => Heap.get?_push_of_some _ e
  have n1 : (s.heap.push o).objs.size = s.heap.objs.size + 1 := Heap.size_push ..
  have n2 : (rzT s.heap it o).objs.size = s.heap.objs.size + 2 := (Heap.size_push ..).trans (by rw [n1])
  have n3 : (rzO s.heap it o).objs.size = s.heap.objs.size + 3 := (Heap.size_push ..).trans (by rw [n2])
  have c3 : (rzZ s.heap it o).get? (rzO s.heap it o).objs.size = some { cls := .type "zip", data := .fields #[.none, .bool false, .bool false, .ref (s.heap.push o).objs.size, .ref (rzT s.heap it o).objs.size] } := Heap.get?_push_size _ rfl
  have c2 : (rzZ s.heap it o).get? (rzT s.heap it o).objs.size = some { cls := .type "tuple", data := .seq #[.none, .none] } := up _ _ _ _ (Heap.get?_push_size _ rfl)
  have c1 : (rzZ s.heap it o).get? (s.heap.push o).objs.size = some { cls := .type "tuple", data := .seq #[.ref it, .ref s.heap.objs.size] } := up _ _ _ _ (up _ _ _ _ (Heap.get?_push_size _ rfl))
  have c0 : (rzZ s.heap it o).get? s.heap.objs.size = some o := up _ _ _ _ (up _ _ _ _ (up _ _ _ _ (Heap.get?_push_size _ B.free)))
  rw [n1, n2, n3] at c3
  rw [n2] at c2
  rw [n1] at c1
  show _ ∧ _
  rw [n3]
  exact ⟨⟨_, c3, rfl⟩, h _ c3 c1 c2 c0 fun c ob e => up _ _ _ _ (up _ _ _ _ (up _ _ _ _ (up _ _ _ _ e)))⟩
end
/-- the pairs of the list at a (n items, from its end) and the list at b -/
def ItzV (K : PySem.W.Frag) (a b : Addr) (n : Nat) : It where
  go i H := i < n ∧ ∃ (xs ys : List V) (x y : V), (SqL K H a xs ∧ xs.length = n ∧ xs[n - 1 - i]? = some x) ∧ SqL K H b ys ∧ ys[i]? = some y
  yld i H v H' := ∃ T x y, (v = .ref T ∧ H T = none ∧ H' = upd H T (.tup [x, y])) ∧ (∀ xs, SqL K H a xs → xs[n - 1 - i]? = some x) ∧ ∀ ys, SqL K H b ys → ys[i]? = some y
  stop i H := ∃ xs ys : List V, (SqL K H a xs ∧ SqL K H b ys) ∧ xs.length = n ∧ (i = n ∨ i = ys.length) ∧ i ≤ n ∧ i ≤ ys.length
structure ZpV (h : Heap) (z TI TO i1 i2 a b : Addr) (n i : Nat) : Prop where
  zip : IsZip h z TI TO .none
  ti : IsPair h TI (.ref i1) (.ref i2)
  to : ∃ x y, IsPair h TO x y
  le : i ≤ n
  one : h.IsRevIter i1 a ((n : Int) - 1 - (i : Int))
  two : h.IsListIter i2 b i
theorem ZpV.cells {h : Heap} {z TI TO i1 i2 a b : Addr} {n i : Nat} (s : ZpV h z TI TO i1 i2 a b n i) : ∀ c ∈ [z, TI, TO, i1, i2], ∃ o, h.get? c = some o ∧ ∀ v, o.data ≠ .cell v := fun c hc => by
  obtain ⟨o1, e1, _, d1⟩ := s.one
  obtain ⟨o2, e2, _, d2⟩ := s.two
  obtain ⟨x, y, e3⟩ := s.to
  simp only [List.mem_cons, List.not_mem_nil, or_false] at hc
  rcases hc with rfl | rfl | rfl | rfl | rfl
  · exact ⟨_, s.zip, fun _ n => nomatch n⟩
  · exact ⟨_, s.ti, fun _ n => nomatch n⟩
  · exact ⟨_, e3, fun _ n => nomatch n⟩
  · exact ⟨o1, e1, fun _ n => nomatch d1.symm.trans n⟩
  · exact ⟨o2, e2, fun _ n => nomatch d2.symm.trans n⟩
theorem ZpV.sep {z TI TO i1 i2 a b : Addr} (D : ZipApart z TI TO i1 i2 a b) : ZipSep2 z TI TO i1 i2 [i1, a] [i2, b] := by
  constructor <;> first | exact D.TIz | exact D.TOz | exact D.TITO | exact D.TIi1 | exact D.TIi2 | skip
  all_goals simp only [List.mem_cons, List.not_mem_nil, or_false, true_or, not_or]
  · exact ⟨D.i1z.symm, D.l1z.symm⟩
  · exact ⟨D.TOi1, D.l1TO.symm⟩
  · exact ⟨D.i2z.symm, D.l2z.symm⟩
  · exact ⟨D.TOi2, D.l2TO.symm⟩
  · exact ⟨D.i12, D.l2i1.symm⟩
  · exact ⟨D.i12.symm, D.l1i2.symm⟩
theorem turn_zipV {P : Program} {w : World} {K : PySem.W.Frag} {elts : List Expr} {kk n : Nat} {tpos : Pos} {a b z TI TO i1 i2 : Addr} (D : ZipApart z TI TO i1 i2 a b) : Turn P w K (.Tuple elts kk tpos) (ItzV K a b n) [z, TI, TO, i1, i2] z (fun i h => ZpV h z TI TO i1 i2 a b n i) := by
  have sp := ZpV.sep D
  refine ⟨List.mem_cons_self .., fun i h st => st.cells, fun i h h' st k => ?_, fun X hP hw hK hc i pins s σ H E I hf st hg => ?_, fun X hP hw hK hc i pins s σ H E I hf st hg => ?_, fun A i s Q E st h => wpAny_pyIter_zip st.zip h⟩
  · obtain ⟨x, y, e⟩ := st.to
    exact ⟨k z (by simp) _ st.zip, k TI (by simp) _ st.ti, ⟨x, y, k TO (by simp) _ e⟩, st.le, st.one.at fun o => k i1 (by simp) o, st.two.at fun o => k i2 (by simp) o⟩
  · subst hP hw hK
    obtain ⟨lt, xs, ys, x, y, ⟨qx, nx, ex⟩, qy, ey⟩ := hg
    obtain ⟨l1, rv1, p1, _⟩ := I.list qx
    obtain ⟨l2, rv2, p2, _⟩ := I.list qy
    obtain ⟨u1, eu1, ru1⟩ := rv1.get ex
    obtain ⟨u2, eu2, ru2⟩ := rv2.get ey
    obtain ⟨t1, t2, e3⟩ := st.to
    have hd : X.A.in1.handled = none := I.ok.hd hc
    have zl : z < s.heap.objs.size := Heap.lt_size st.zip
    have sz : l1.toArray.size = n := by rw [← nx, rv1.length]; simp
    have b1 : i < l1.toArray.size := by rw [sz]; exact lt
    have b2 : i < l2.toArray.size := by simpa using (List.getElem?_eq_some_iff.mp eu2).1
    have one' := st.one
    rw [← sz] at one'
    refine wpAny_pyNext_zipD2_item sp (draws_rev hd D.l1i1 l1.toArray) (Draws.list hd i2 b D.l2i2 l2.toArray) st.zip st.ti e3 ⟨⟨Nat.le_of_lt b1, one'⟩, p1.isList⟩ ⟨st.two, p2.isList⟩ b1 b2 fun v1 v2 h' tk y1 y2 z' to' s1 s2 hT hsz hk => ?_
    have ev1 : v1 = u1 := by
      have q : l1.toArray[l1.toArray.size - 1 - i]? = some v1 := y1
      rw [sz, List.getElem?_toArray, eu1] at q
      exact (Option.some.inj q).symm
    have ev2 : v2 = u2 := by
      have q : l2.toArray[i]? = some v2 := y2
      rw [List.getElem?_toArray, eu2] at q
      exact (Option.some.inj q).symm
    subst ev1 ev2
    refine ⟨_, rfl, wpAny_letOwnedTupleGo_zip (s := { s with heap := h', toks := tk }) z' fun g z'' sb => ?_⟩
    have nz : s.heap.objs.size ≠ z := Nat.ne_of_gt zl
    have lay : ObjOk X.prog X.w (upd H s.heap.objs.size (.tup [x, y])) g s.heap.objs.size (.tup [x, y]) := ⟨by show 2 ≤ sizeLine; decide, _, .cons ru1 (.cons ru2 .nil), ⟨_, (sb.2 _ nz).trans hT, rfl, _, rfl⟩⟩
    have far : ∀ c o, c ∉ [z, TI, TO, i1, i2] → s.heap.get? c = some o → g.get? c = some o := fun c o n e => by
      simp only [List.mem_cons, List.not_mem_nil, or_false, not_or] at n
      exact (sb.2 _ n.1).trans (hk c o n.1 n.2.2.1 n.2.2.2.1 n.2.2.2.2 e)
    have J : Inv X pins σ (upd H s.heap.objs.size (.tup [x, y])) { s with heap := g, toks := tk } := I.turnedNew (t' := tk) (ch := [z, TI, TO, i1, i2]) far hf (Nat.le_refl _) lay
    have s1' := s1.1.2
    rw [sz] at s1'
    refine ⟨.ref s.heap.objs.size, _, J, rfl, ⟨_, x, y, ⟨rfl, I.hok.fresh (Nat.le_refl _), rfl⟩, fun l hl => (I.list_inj hl qx).symm ▸ ex, fun l hl => (I.list_inj hl qy).symm ▸ ey⟩, ⟨z'', ?_, ⟨_, _, (sb.2 _ D.TOz).trans to'⟩, lt, s1'.at fun o q => (sb.2 _ D.i1z).trans q, s2.1.at fun o q => (sb.2 _ D.i2z).trans q⟩, fun c hcm => ?_⟩
    · exact (sb.2 _ D.TIz).trans (hk _ _ D.TIz D.TITO D.TIi1 D.TIi2 st.ti)
    · obtain ⟨o, eo, _⟩ := st.cells c hcm
      rw [upd_ne (Nat.ne_of_lt (Heap.lt_size eo))]
      exact (hf c hcm).1
  · subst hP hw hK
    obtain ⟨xs, ys, ⟨qx, qy⟩, nx, en, n1, n2⟩ := hg
    obtain ⟨l1, rv1, p1, _⟩ := I.list qx
    obtain ⟨l2, rv2, p2, _⟩ := I.list qy
    have e1 := rv1.length
    have e2 := rv2.length
    obtain ⟨t1, t2, e3⟩ := st.to
    have hd : X.A.in1.handled = none := I.ok.hd hc
    have sz : l1.toArray.size = n := by rw [← nx, rv1.length]; simp
    have one' := st.one
    rw [← sz] at one'
    refine wpAny_pyNext_zipD2_end sp (draws_rev hd D.l1i1 l1.toArray) (Draws.list hd i2 b D.l2i2 l2.toArray) st.zip st.ti e3 ⟨⟨by rw [sz]; exact n1, one'⟩, p1.isList⟩ ⟨st.two, p2.isList⟩ (by rw [sz]; exact n1) (by simp; omega) (by rw [sz]; simp; omega) fun h' tk hk => ⟨rfl, I.turnedL (t' := tk) (ch := [z, TI, TO, i1, i2]) (fun c o n e => ?_) hf⟩
    simp only [List.mem_cons, List.not_mem_nil, or_false, not_or] at n
    exact hk c o n.1 n.2.2.1 n.2.2.2.1 n.2.2.2.2 e
theorem rz_apart (n m a b : Nat) (h1 : a < m) (h2 : m < n) (h3 : b < n) (h4 : b ≠ m) : ZipApart (n + 3) (n + 1) (n + 2) m n a b := by
  constructor <;> (refine PySem.W.neN ?_; omega)
def iZipV (K : PySem.W.Frag) (te te2 : TE) : TI := fun σ H R => te σ H fun v H1 => ∃ a xs, v = .ref a ∧ SqL K H1 a xs ∧ te2 σ H1 fun v2 H2 => ∃ b ys, v2 = .ref b ∧ SqL K H2 a xs ∧ SqL K H2 b ys ∧ R (ItzV K a b xs.length) H2
theorem pi_zipV {X : Cx} {e e2 : Expr} {te te2 : TE} {p p2 pos pos2 tpos : Pos} {elts : List Expr} {kk : Nat} (hg : Gl X "zip") (hm : X.mg "zip" = none) (hg2 : Gl X "reversed") (hm2 : X.mg "reversed" = none) (he : PE X e te) (he2 : PE X e2 te2)
    (hs : starEach [.Call (.Name "reversed" p2) [e] [] pos2, e2] X.env = (false, eval (.Call (.Name "reversed" p2) [e] [] pos2) X.env) :: starEach [e2] X.env := by rfl)
    (hs2 : starEach [e2] X.env = (false, eval e2 X.env) :: starEach [] X.env := by rfl)
    (hs3 : starEach [e] X.env = (false, eval e X.env) :: starEach [] X.env := by rfl) (hpl : (backTo pos (starEach [e2] X.env)).any (·.1) = false := by rfl) :
    PI X (.Tuple elts kk tpos) (.Call (.Name "zip" p) [.Call (.Name "reversed" p2) [e] [] pos2, e2] [] pos) (iZipV X.K te te2) := by
  refine ⟨fun pins s σ H R I h => Call_ (ld_blt I hg hm PyProof.Rows.boot_zip (PyProof.Rows.callWith_type1 (args_cons ?_ hs) hs hpl))⟩
  refine Call_ (ld_blt I hg2 hm2 PyProof.Rows.boot_reversed (PyProof.Rows.callWith_type1 (args_cons (thn (he.run pins s σ H _ I h) fun u t ⟨v, G, J, rv, q⟩ => args_nil ?_) hs3) hs3 rfl))
  obtain ⟨a, xs, rfl, qx, q⟩ := q
  obtain rfl : u = Value.ref a := rv
  obtain ⟨l1, v1, p1, _⟩ := J.list qx
  refine call_reversed_list p1.isList ?_
  have new : (t.heap.push (revObj a ((l1.toArray.size : Int) - 1))).get? t.heap.objs.size = some (revObj a ((l1.toArray.size : Int) - 1)) := Heap.get?_push_size _ rfl
  have J2 : Inv X pins σ G { t with heap := t.heap.push (revObj a ((l1.toArray.size : Int) - 1)) } := J.kept (t' := t.toks) fun b o e => Heap.get?_push_of_some _ e
  have fp : FpOk X pins G t.heap.objs.size := J.fpOk (Nat.le_refl _) (J.hok.fresh (Nat.le_refl _))
  have J3 := J2.pinned (fp := [t.heap.objs.size]) (fun b hb => by rw [List.mem_singleton.mp hb]; exact fp) (fun b hb => by rw [List.mem_singleton.mp hb]; exact ⟨_, new, fun v z => nomatch z⟩)
  refine args_cons (thn (he2.run _ _ σ G _ J3 q) fun u2 t2 ⟨v2, G2, J4, rv2, q2⟩ => args_nil ?_) hs2
  obtain ⟨b, ys, rfl, qx2, qy, q⟩ := q2
  obtain rfl : u2 = Value.ref b := rv2
  obtain ⟨m1, w1, p3, _⟩ := J4.list qx2
  obtain ⟨m2, w2, p4, _⟩ := J4.list qy
  obtain ⟨at', fz, _⟩ := J4.pin (t.heap.objs.size, revObj a ((l1.toArray.size : Int) - 1)) (List.mem_append_right _ (List.mem_append_right _ (mem_pinsAt (List.mem_singleton.mpr rfl) new)))
  have J5 : Inv X pins σ G2 t2 := J4.unpinned
  have fp2 : FpOk X pins G2 t.heap.objs.size := ⟨fz, fp.2⟩
  have ltI : t.heap.objs.size < t2.heap.objs.size := Heap.lt_size at'
  have e1 : ((l1.toArray.size : Nat) : Int) - 1 = (xs.length : Int) - 1 - ((0 : Nat) : Int) := by rw [v1.length]; simp
  refine rz_begins (l := a) (k := (l1.toArray.size : Int) - 1) (begins_list b m2.toArray) ⟨_, at', rfl, rfl⟩ p4.isList fun g hz hT hO h2 hk => wpAny_pyIter_zip hz ?_
  have ap : ZipApart (t2.heap.objs.size + 3) (t2.heap.objs.size + 1) (t2.heap.objs.size + 2) t.heap.objs.size t2.heap.objs.size a b := by
    refine rz_apart _ _ _ _ p1.lt ltI p4.lt fun e => ?_
    obtain ⟨o', e', c', _⟩ := p4.isList
    rw [e, at'] at e'
    cases e'
    exact absurd (show Value.type "list_reverseiterator" = Value.type "list" from c') (by decide)
  refine ⟨_, [t2.heap.objs.size + 3, t2.heap.objs.size + 1, t2.heap.objs.size + 2, t.heap.objs.size, t2.heap.objs.size], _, _, G2, rfl, J5.kept (t' := t2.toks) hk, turn_zipV (n := xs.length) ap, ⟨hz, hT, ⟨_, _, hO⟩, Nat.zero_le _, ?_, ⟨_, h2, rfl, rfl⟩⟩, fun c hc => ?_, q⟩
  · rw [← e1]
    exact ⟨_, hk _ _ at', rfl, rfl⟩
  · simp only [List.mem_cons, List.not_mem_nil, or_false] at hc
    rcases hc with rfl | rfl | rfl | rfl | rfl
    case inr.inr.inr.inl => exact fp2
    all_goals exact (fun le => J5.fpOk le (J5.hok.fresh le)) (by first | exact Nat.le_refl _ | exact Nat.le_add_right _ _)
theorem walk_zipV {K : PySem.W.Frag} {a b : Addr} {xs ys : List V} (hl : xs.length = ys.length) : Walk (ItzV K a b xs.length) xs.length (fun H => SqL K H a xs ∧ SqL K H b ys) (YPair (fun i => xs[xs.length - 1 - i]?) (fun i => ys[i]?)) := by
  refine ⟨fun i H hi q => ⟨hi, xs, ys, xs[xs.length - 1 - i]'(by omega), ys[i]'(by omega), ⟨q.1, rfl, by simp [show xs.length - 1 - i < xs.length by omega]⟩, q.2, by simp [show i < ys.length by omega]⟩, fun H q => ⟨xs, ys, q, rfl, .inl rfl, Nat.le_refl _, Nat.le_of_eq hl⟩, fun i H v H' _ q y => ?_⟩
  obtain ⟨T, l, r, ⟨e1, e2, e3⟩, gl, gr⟩ := y
  exact ⟨T, l, r, e1, e2, e3, gl _ q.1, gr _ q.2⟩

/-! ### xs[:0:-1] -/
theorem pick_tail (its : Array Value) : slicePick its none (some 0) (some (-1)) = (its.toList.drop 1).reverse.toArray := by
  obtain ⟨l⟩ := its
  cases l with
  | nil => rfl
  | cons y ys =>
    have all : ((List.range (ys.length + 1)).map fun k => ys.length + 1 - 1 - k).filterMap ((⟨y :: ys⟩ : Array Value)[·]?) = (y :: ys).reverse := by
      have e := PySem.W.krv_all (⟨y :: ys⟩ : Array Value)
      rw [PySem.W.krv_range, List.filterMap_reverse]
      exact congrArg List.reverse e
    rw [List.range_succ, List.map_append, List.filterMap_append, List.reverse_cons] at all
    have last : ([ys.length].map fun k => ys.length + 1 - 1 - k).filterMap ((⟨y :: ys⟩ : Array Value)[·]?) = [y] := by simp
    rw [last] at all
    have main := List.append_cancel_right all
    have bd : sliceBounds none (some 0) (some (-1)) (ys.length + 1) = (((ys.length + 1 : Nat) : Int) - 1, 0, -1) := by
      simp [sliceBounds]
      omega
    have rg : sliceRange (((ys.length + 1 : Nat) : Int) - 1) 0 (-1) = (List.range ys.length).map fun k => ys.length + 1 - 1 - k := by
      unfold sliceRange
      by_cases h : 0 < ys.length
      · rw [if_neg (by decide), if_pos (by omega)]
        show (List.range ((((ys.length + 1 : Nat) : Int) - 1 - 0 - -1 - 1) / - -1).toNat).map (fun k : Nat => ((((ys.length + 1 : Nat) : Int) - 1 + -1 * (k : Int))).toNat) = _
        rw [show ((((ys.length + 1 : Nat) : Int) - 1 - 0 - -1 - 1) / - -1).toNat = ys.length by rw [show (- -1 : Int) = 1 by decide, Int.ediv_one]; omega]
        exact List.map_congr_left fun k hk => by have := List.mem_range.mp hk; omega
      · have z : ys.length = 0 := by omega
        rw [z]
        rfl
    unfold slicePick
    show ((sliceRange (sliceBounds none (some 0) (some (-1)) (ys.length + 1)).1 (sliceBounds none (some 0) (some (-1)) (ys.length + 1)).2.1 (sliceBounds none (some 0) (some (-1)) (ys.length + 1)).2.2).filterMap _).toArray = _
    rw [bd]
    show ((sliceRange (((ys.length + 1 : Nat) : Int) - 1) 0 (-1)).filterMap _).toArray = _
    rw [rg]
    exact congrArg List.toArray main
def tRev1 (K : PySem.W.Frag) (te : TE) : TE := fun σ H Q => te σ H fun v H1 => ∃ (a : Addr) (xs : List V), v = .ref a ∧ SqL K H1 a xs ∧ ∀ q, H1 q = none → Q (.ref q) (upd H1 q (.lst (xs.drop 1).reverse))
theorem pe_rev1 {X : Cx} {e : Expr} {te : TE} {j k : Nat} {p0 p1 p2 p3 pos : Pos} (he : PE X e te) : PE X (.Subscript e (.Slice none (some (.Constant (.int 0) j p0)) (some (.UnaryOp .USub (.Constant (.int 1) k p1) p2)) p3) pos) (tRev1 X.K te) := by
  refine ⟨fun pins s σ H Q I h => Subscript_ (thn (he.run pins s σ H _ I h) fun v t ⟨x, G, J, r, q⟩ => ?_)⟩
  obtain ⟨a, xs, rfl, qx, q⟩ := q
  obtain rfl : v = Value.ref a := r
  have step : PO X (some (.UnaryOp .USub (.Constant (.int 1) k p1) p2)) (tPart (tUn (rU fun i => .int (-i)) (tC (.int 1)))) := po_some (pe_un un_neg pe_int)
  have up : PO X (some (.Constant (.int 0) j p0)) (tPart (tC (.int 0))) := po_some pe_int
  refine wpAny_Slice (thn (po_none.run pins t σ G (fun o F => o = none ∧ F = G) J ⟨rfl, rfl⟩) fun v0 t0 ⟨o0, G0, J0, r0, z0, w0⟩ => ?_)
  subst z0 w0
  refine thn (up.run pins t0 σ G0 (fun o F => o = some 0 ∧ F = G0) J0 ⟨0, rfl, rfl, rfl⟩) fun v1 t1 ⟨o1, G1, J1, r1, z1, w1⟩ => ?_
  subst z1 w1
  refine thn (step.run pins t1 σ G1 (fun o F => o = some (-1) ∧ F = G1) J1 ⟨1, rfl, -1, rfl, rfl, rfl⟩) fun v2 t2 ⟨o2, G2, J2, r2, z2, w2⟩ => ?_
  subst z2 w2
  have J3 : Inv X pins σ G2 { t2 with heap := t2.heap.push { cls := .type "slice", data := .fields #[v0, v1, v2] } } := J2.kept (t' := t2.toks) fun b ob q => Heap.get?_push_of_some _ q
  obtain ⟨its, rr, ht, hz⟩ := J3.list qx
  have hl := rr.length
  show wpAny (model X.prog X.w) X.A (subscriptTail e (.Slice none (some (.Constant (.int 0) j p0)) (some (.UnaryOp .USub (.Constant (.int 1) k p1) p2)) p3) (.ref a) (.ref t2.heap.objs.size)) (EP X pins σ Q) X.xe { t2 with heap := t2.heap.push { cls := .type "slice", data := .fields #[v0, v1, v2] } }
  refine tail_any (ops := [.ref a, .ref t2.heap.objs.size]) ht.isList.typeIs PySem.slot_list_getitem.lookup ?_ (by with_unfolding_all rfl)
  refine wpAny_getItem_list_slice ht.isList (Heap.IsSliceOf.new _ v0 v1 v2) r0 r1 r2 (by decide) ?_ (by rw [List.size_toArray]; omega)
  rw [pick_tail]
  refine ⟨.ref _, _, J3.laid (t' := t2.toks) (o := .lst (xs.drop 1).reverse) (fun b ob q => Heap.get?_push_of_some _ q) (Nat.le_refl _) ?_, rfl, q _ (J3.hok.fresh (Nat.le_refl _))⟩
  exact ⟨by rw [List.length_reverse, List.length_drop]; omega, _, 0, (rr.drop 1).reverse, Heap.get?_push_size _ rfl⟩
end L2

namespace E1
open PySem PySem.Spec PyProof.Rows L2

theorem rep_all (n : Nat) : (List.replicate n true).all id = true := by
  rw [List.all_eq_true]
  intro x h
  exact (List.mem_replicate.mp h).2
theorem PrL_get {H : Hp} {vs : List V} {ps : List (Int × Int)} (h : PrsAt H vs ps) {i : Nat} {v : V} (e : vs[i]? = some v) : ∃ p t b, v = .ref p ∧ ps[i]? = some (t, b) ∧ (t, b) ∈ ps ∧ H p = some (.tup [.int t, .int b]) := by
  obtain ⟨p, t, b, e1, e2, e3⟩ := h.get e
  exact ⟨p, t, b, e1, e2, List.mem_of_getElem? e2, e3⟩
/-- pairs whose bottoms are above 0 and divide D -/
def Btm (D : Int) (ps : List (Int × Int)) : Prop := D ≠ 0 ∧ D.natAbs < 2 ^ 2000 ∧ ∀ p ∈ ps, 0 < p.2 ∧ p.2 ∣ D ∧ p.1.natAbs < 2 ^ 3000
theorem Btm.lt {D : Int} {ps : List (Int × Int)} (h : Btm D ps) {b : Int} (hb : 0 < b) (d : b ∣ D) : b.natAbs < 2 ^ 2000 := by
  have : b.natAbs ∣ D.natAbs := Int.natAbs_dvd_natAbs.mpr d
  have := Nat.le_of_dvd (by have := h.1; omega) this
  exact Nat.lt_of_le_of_lt this h.2.1
theorem Btm.com {D : Int} {ps : List (Int × Int)} (h : Btm D ps) : 0 < com (ps.map (·.2)) ∧ com (ps.map (·.2)) ∣ D ∧ ∀ p ∈ ps, p.2 ∣ com (ps.map (·.2)) := by
  have hp : ∀ b ∈ ps.map (·.2), 0 < b ∧ b ∣ D := fun b hb => by
    obtain ⟨p, h1, rfl⟩ := List.mem_map.mp hb
    exact ⟨(h.2.2 p h1).1, (h.2.2 p h1).2.1⟩
  obtain ⟨c1, _, c3, c4⟩ := com_ok (ps.map (·.2)) 1 (by decide) fun b hb => (hp b hb).1
  exact ⟨c1, c4 D (Int.one_dvd D) fun b hb => (hp b hb).2, fun p hp' => c3 _ (List.mem_map.mpr ⟨p, hp', rfl⟩)⟩
theorem Btm.take {D : Int} {ps : List (Int × Int)} (h : Btm D ps) (n : Nat) : Btm D (ps.take n) := ⟨h.1, h.2.1, fun p hp => h.2.2 p (List.mem_of_mem_take hp)⟩
def spIsFrs : Sp := fun vs H Q _ => ∃ (a : Addr) (qs : List Rat), vs = [.ref a] ∧ FrL H a qs ∧ qs.length ≤ 1000 ∧ ∀ H', Same H H' → Q (.bl true) H'
def spCom : Sp := fun vs H Q _ => ∃ (a : Addr) (ws : List V) (ps : List (Int × Int)) (D : Int), vs = [.ref a] ∧ H a = some (.lst ws) ∧ PrsAt H ws ps ∧ Btm D ps ∧ Q (.int (com (ps.map (·.2)))) H
def spCleared : Sp := fun vs H Q _ => ∃ (a : Addr) (ws : List V) (ps : List (Int × Int)) (D : Int), vs = [.ref a] ∧ H a = some (.lst ws) ∧ PrsAt H ws ps ∧ Btm D ps ∧ ps.length ≤ 1000 ∧
  ∀ T l H', Same H H' → H' T = some (.tup [.ref l, .int (com (ps.map (·.2)))]) → H' l = some (.lst ((tops (com (ps.map (·.2))) ps).map V.int)) → Q (.ref T) H'
/-- fractions of a bottom and a size -/
def Bnd (D : Int) (B : Nat) (qs : List Rat) : Prop := D ≠ 0 ∧ D.natAbs < 2 ^ 1000 ∧ B < 2 ^ 1000 ∧ ∀ q ∈ qs, Sc D B q
theorem sqT_same {K : PySem.W.Frag} {H H' : Hp} {a : Addr} {xs : List V} (h : SqT K H a xs) (e : Same H H') : SqT K H' a xs := by
  rcases h with (h | ⟨o, h⟩) | h
  · exact .inl (.inl (e _ _ h))
  · exact .inl (.inr ⟨o, e _ _ h⟩)
  · exact .inr h
/-- fractions, of which some may be the module's own -/
def FrsK (K : PySem.W.Frag) (H : Hp) (vs : List V) (qs : List Rat) : Prop := vs.length = qs.length ∧ ∀ (i : Nat) (q : Rat), qs[i]? = some q → ∃ p, vs[i]? = some (.ref p) ∧ SqT K H p [.int q.num, .int (q.den : Int)]
def FrLK (K : PySem.W.Frag) (H : Hp) (a : Addr) (qs : List Rat) : Prop := ∃ vs, H a = some (.lst vs) ∧ FrsK K H vs qs
theorem FrL.k {K : PySem.W.Frag} {H : Hp} {a : Addr} {qs : List Rat} (h : FrL H a qs) : FrLK K H a qs := by
  obtain ⟨vs, e, r⟩ := h
  exact ⟨vs, e, FrsAt.len r, fun i q hq => let ⟨p, h1, h2⟩ := FrsAt.at r hq; ⟨p, h1, SqT.of h2⟩⟩
theorem FrsK.get {K : PySem.W.Frag} {H : Hp} {vs : List V} {qs : List Rat} (h : FrsK K H vs qs) {i : Nat} {v : V} (e : vs[i]? = some v) : ∃ p q, v = .ref p ∧ qs[i]? = some q ∧ SqT K H p [.int q.num, .int (q.den : Int)] := by
  have hi := (List.getElem?_eq_some_iff.mp e).1
  have e2 : qs[i]? = some (qs[i]'(by rw [← h.1]; exact hi)) := List.getElem?_eq_getElem _
  obtain ⟨p, e3, f⟩ := h.2 i _ e2
  rw [e] at e3
  cases e3
  exact ⟨p, _, rfl, e2, f⟩
def spSop (K : PySem.W.Frag) : Sp := fun vs H Q _ => ∃ (a c : Addr) (xs ys : List Rat) (D E : Int) (B C : Nat), vs = [.ref a, .ref c] ∧ FrL H a xs ∧ FrLK K H c ys ∧ Bnd D B xs ∧ Bnd E C ys ∧ xs.length ≤ 1000 ∧ ∀ p H', H p = none → Same H H' → Fr H' p (dotR xs ys) → Q (.ref p) H'
theorem prods_snoc : ∀ (xs ys : List Rat) (x y : Rat), xs.length = ys.length → prods (xs ++ [x]) (ys ++ [y]) = prods xs ys ++ (if x.num ≠ 0 ∧ y.num ≠ 0 then [(x.num * y.num, (x.den * y.den : Int))] else [])
  | [], [], x, y, _ => by
    show (if x.num ≠ 0 ∧ y.num ≠ 0 then [(x.num * y.num, (x.den * y.den : Int))] else []) ++ [] = [] ++ _
    rw [List.append_nil, List.nil_append]
  | a :: xs, b :: ys, x, y, h => by
    show (if a.num ≠ 0 ∧ b.num ≠ 0 then _ else []) ++ prods (xs ++ [x]) (ys ++ [y]) = _
    rw [prods_snoc xs ys x y (Nat.succ.inj h), ← List.append_assoc]
    rfl
theorem dot_take : ∀ (xs ys : List Rat), dotR (xs.take (min xs.length ys.length)) (ys.take (min xs.length ys.length)) = dotR xs ys
  | [], ys => by
    cases ys <;> rfl
  | x :: xs, [] => rfl
  | x :: xs, y :: ys => by
    rw [List.length_cons, List.length_cons, Nat.succ_min_succ]
    show x * y + dotR (xs.take _) (ys.take _) = x * y + dotR xs ys
    rw [dot_take xs ys]
theorem Bnd.btm {D E : Int} {B C : Nat} {xs ys : List Rat} (h : Bnd D B xs) (g : Bnd E C ys) : Btm (D * E) (prods xs ys) := by
  refine ⟨Int.mul_ne_zero h.1 g.1, ?_, fun p hp => ?_⟩
  · rw [Int.natAbs_mul]
    have : D.natAbs * E.natAbs < 2 ^ 1000 * 2 ^ 1000 := Nat.mul_lt_mul'' h.2.1 g.2.1
    rw [← Nat.pow_add] at this
    exact this
  · obtain ⟨x, hx, y, hy, rfl⟩ := prods_mem hp
    have sx := h.2.2.2 x hx
    have sy := g.2.2.2 y hy
    refine ⟨Int.mul_pos (den_ge x) (den_ge y), Int.mul_dvd_mul sx.den sy.den, ?_⟩
    show (x.num * y.num).natAbs < 2 ^ 3000
    rw [Int.natAbs_mul]
    have : x.num.natAbs * y.num.natAbs < 2 ^ 1000 * 2 ^ 1000 := Nat.mul_lt_mul'' (Nat.lt_of_le_of_lt (sx.num h.1) h.2.2.1) (Nat.lt_of_le_of_lt (sy.num g.1) g.2.2.1)
    rw [← Nat.pow_add] at this
    exact up this (by decide)
theorem FrL.len {H : Hp} {a : Addr} {qs : List Rat} (h : FrL H a qs) : ∃ vs, H a = some (.lst vs) ∧ vs.length = qs.length ∧ FrsAt H vs qs := by
  obtain ⟨vs, e, r⟩ := h
  exact ⟨vs, e, FrsAt.len r, r⟩
section
variable {P : Program} {w : World} {K : PySem.W.Frag} {mg : Str → Option Value} {base : Heap}
theorem sc_is_fractions : FnScope ["thing", "one"] ["thing"] (defScope s_is_fractions) := ⟨rfl, rfl, rfl, by decide +kernel, rfl, by decide +kernel, by decide +kernel⟩
theorem ok_is_fractions {f : Addr} {fd : FuncData} (F : Fun K "is_fractions" "is_fractions" s_is_fractions f fd) (z : Zs mg) (c_is_fraction : Cal P w K mg base 2 "is_fraction" ["thing"] spIsFrac) : FnOk P w K mg base CX0 3 f fd ["thing"] spIsFrs := by
  refine F.ok sc_is_fractions (fun vs H Q E h => ?_) (fun cdv A outer s H vs Q E hr h => ?_)
  · obtain ⟨a, qs, rfl, _⟩ := h
    rfl
  · obtain ⟨a, qs, rfl, ⟨vs, ha, hq⟩, hl, q⟩ := h
    refine ⟨_, (pss_one (ps_ret (pe_and (pe_callB call_isi (by rfl) z.isinstance (by decide +kernel) (pa_cons (pv 0) (pa_cons (pe_bltn (v := .ty "list") (by rfl) z.list (by decide +kernel) rfl) pa_nil))) (pe_one (pe_callB (cr_all rfl) (by rfl) z.all (by decide +kernel) (pa_cons (pe_lc (own := [("one", 1)]) (g := gName 1) (tt := tYes) (te := (tCall spIsFrac [] E0 (tCons (tVar 1) tNil))) (by rfl) sc_is_fractions.nd (pi_list (pv 0)) (blkOk_by (own := [("one", 1)]) (N := ["thing", "one"]) (sc := defScope s_is_fractions) (by decide +kernel)) (fun _ _ _ _ _ => by exact (pg_name (i := 1) sc_is_fractions.nd rfl (.inl rfl))) (fun _ _ _ _ _ => by exact pts_nil) (fun _ _ _ _ _ => by exact (pe_cal c_is_fraction hr (pa_cons (pv 1) pa_nil)))) pa_nil)))))), ?_⟩
    have hlen := FrsAt.len hq
    refine ⟨_, rfl, _, .ty "list", _, _, true, rfl, .ty _, .base (.lst ha), kit_ty (by decide +kernel), _, rfl, iteT ⟨_, rfl, a, rfl, ⟨_, SqL.of ha⟩, fun D hD => lc_list (K := K) (a := a) (xs := vs) (fun i H' => Same H H' ∧ H' D = some (.lst (List.replicate i (V.bl true)))) ⟨same_new hD, upd_same⟩ (fun i H' _ hP => SqL.of (hP.1 _ _ ha)) (fun i x H' hx hP => ?_) (fun H' hP => ?_)⟩⟩
    · obtain ⟨s1, hacc⟩ := hP
      obtain ⟨p, r, rfl, hr', hp⟩ := FrsAt.get hq hx
      have hi := (List.getElem?_eq_some_iff.mp hx).1
      have d0 := den_ge r
      refine ⟨rfl, _, rfl, p, r.num, r.den, rfl, s1 _ _ hp, by omega, ?_⟩
      rw [q_gcd, decide_eq_true rfl]
      refine ⟨_, hacc, ?_, fun b o e => ?_, ?_⟩
      · rw [List.length_replicate]
        exact small1000 (by omega)
      · rw [upd_ne (ne_of_none e hD)]
        exact s1 _ _ e
      · rw [upd_same, List.replicate_succ']
    · obtain ⟨s1, hacc⟩ := hP
      refine ⟨D, List.replicate _ true, rfl, SqL.of (by rw [List.map_replicate]; exact hacc), ?_⟩
      rw [rep_all]
      exact q _ s1
theorem sc_common_bottom : FnScope ["pairs", "common", "pair"] ["pairs"] (defScope s_common_bottom) := ⟨rfl, rfl, rfl, by decide +kernel, rfl, by decide +kernel, by decide +kernel⟩
theorem ok_common_bottom {f : Addr} {fd : FuncData} (F : Fun K "common_bottom" "common_bottom" s_common_bottom f fd) (z : Zs mg) (c_shared_divisor : Cal P w K mg base 1 "shared_divisor" ["top", "bottom"] spShared) : FnOk P w K mg base CX0 2 f fd ["pairs"] spCom := by
  refine F.ok sc_common_bottom (fun vs H Q E h => ?_) (fun cdv A outer s H vs Q E hr h => ?_)
  · obtain ⟨a, ws, ps, D, rfl, _⟩ := h
    rfl
  · obtain ⟨a, ws, ps, D, rfl, ha, hp0, hB, q⟩ := h
    refine ⟨_, (pss_cons (ps_set (i := 1) sc_common_bottom.nd rfl (.inl rfl) pe_int)
      (pss_cons (ps_for PassesOwn.never rfl (pi_list (pv 0)) (pg_name (i := 2) sc_common_bottom.nd rfl (.inl rfl)) (pss_one (ps_if (pt_truth (pe_op op_mod (pv 1) (pe_ix ix_tup (pv 2) pe_int (fun _ _ => rfl))) (by intro _; rfl)) (pss_one (ps_set (i := 1) sc_common_bottom.nd rfl (.inl rfl) (pe_op op_mulW (pe_op op_fdivW (pv 1) (pe_cal c_shared_divisor hr (pa_cons (pv 1) (pa_cons (pe_ix ix_tup (pv 2) pe_int (fun _ _ => rfl)) pa_nil)))) (pe_ix ix_tup (pv 2) pe_int (fun _ _ => rfl))))) pss_nil)))
      (pss_one (ps_ret (pv 1))))), ?_⟩
    have hlen := hp0.len
    refine ⟨_, rfl, a, rfl, ⟨_, SqL.of ha⟩, for_list (K := K) (a := a) (xs := ws) (fun i σ H' => H' = H ∧ ∃ y : Option V, σ = [some (.ref a), some (.int (com ((ps.take i).map (·.2)))), y]) ⟨rfl, none, rfl⟩ (fun i σ H' _ hP => hP.1 ▸ SqL.of ha) (fun i x σ H' hx hP => ?_) (fun σ H' hP => ?_)⟩
    · obtain ⟨rfl, y, rfl⟩ := hP
      obtain ⟨p, t, b, rfl, hi, hm, hp⟩ := PrL_get hp0 hx
      obtain ⟨b0, bD, _⟩ := hB.2.2 _ hm
      obtain ⟨c0, cD, _⟩ := (hB.take i).com
      have b1 := hB.lt b0 bD
      have c1 := hB.lt c0 cD
      have e : com ((ps.take (i + 1)).map (·.2)) = lcmI (com ((ps.take i).map (·.2))) b := by
        rw [List.take_succ, hi, Option.toList_some, List.map_append]
        unfold com
        rw [List.foldl_append]
        rfl
      generalize hc : com ((ps.take i).map (·.2)) = c at *
      refine ⟨_, rfl, _, rfl, p, _, 1, .int b, rfl, rfl, SqT.of hp, a1, _, _, rfl, rfl, (by show 0 < b; exact b0), _, rfl, ?_⟩
      by_cases c2 : c % b = 0
      · rw [c2]
        refine iteF ⟨rfl, some (.ref p), ?_⟩
        rw [e]
        unfold lcmI
        rw [if_pos c2]
        rfl
      · have ne : (c % b != 0) = true := by
          rw [bne_iff_ne]
          exact c2
        rw [ne]
        have g0 := gI_pos (t := c) (b := b) (by omega)
        have g1 : (gI c b).natAbs < 2 ^ 2000 := Nat.lt_of_le_of_lt (gI_le (by omega)) b1
        have q1 : (c / gI c b).natAbs < 2 ^ 2000 := by
          have h1 : 0 ≤ c / gI c b := Int.ediv_nonneg (by omega) (by omega)
          have h2 : c / gI c b ≤ c := Int.ediv_le_self _ (by omega)
          omega
        refine iteT ⟨_, rfl, _, rfl, _, rfl, p, _, 1, .int b, rfl, rfl, SqT.of hp, a1, c, b, rfl, by omega, _, _, rfl, rfl, wide_div g0 g1 (by decide) (by decide), _, rfl, p, _, 1, .int b, rfl, rfl, SqT.of hp, a1, _, _, rfl, rfl, wide_mul q1 b1 (by decide) (by decide) (by decide), rfl, some (.ref p), ?_⟩
        rw [e]
        unfold lcmI
        rw [if_neg c2]
        rfl
    · obtain ⟨rfl, y, rfl⟩ := hP
      rw [hlen, List.take_length]
      exact ⟨_, rfl, q⟩
theorem sc_cleared : FnScope ["pairs", "common", "top", "bottom"] ["pairs"] (defScope s_cleared) := ⟨rfl, rfl, rfl, by decide +kernel, rfl, by decide +kernel, by decide +kernel⟩
theorem ok_cleared {f : Addr} {fd : FuncData} (F : Fun K "cleared" "cleared" s_cleared f fd) (c_common_bottom : Cal P w K mg base 2 "common_bottom" ["pairs"] spCom) : FnOk P w K mg base CX0 3 f fd ["pairs"] spCleared := by
  refine F.ok sc_cleared (fun vs H Q E h => ?_) (fun cdv A outer s H vs Q E hr h => ?_)
  · obtain ⟨a, ws, ps, D, rfl, _⟩ := h
    rfl
  · obtain ⟨a, ws, ps, D, rfl, ha, hp0, hB, hl, q⟩ := h
    refine ⟨_, (pss_cons (ps_set (i := 1) sc_cleared.nd rfl (.inr rfl) (pe_cal c_common_bottom hr (pa_cons (pv 0) pa_nil)))
      (pss_one (ps_ret (pe_tup (pa_cons (pe_lc (own := [("top", 2), ("bottom", 3)]) (g := gTup K 2 (gCons (gName 2) (gCons (gName 3) gNil))) (tt := tYes) (te := (tOp (rI CMulW fun i j => V.int (i * j)) (tVar 2) (tOp (rI CDivW fun i j => V.int (i / j)) (tVar 1) (tVar 3)))) (by rfl) sc_cleared.nd (pi_list (pv 0)) (blkOk_by (own := [("top", 2), ("bottom", 3)]) (N := ["pairs", "common", "top", "bottom"]) (sc := defScope s_cleared) (by decide +kernel)) (fun _ _ _ _ _ => by exact (pg_tup (by rfl) (pgs_cons (pg_name (i := 2) sc_cleared.nd rfl (.inl rfl)) (pgs_cons (pg_name (i := 3) sc_cleared.nd rfl (.inl rfl)) pgs_nil)))) (fun _ _ _ _ _ => by exact pts_nil) (fun _ _ _ _ _ => by exact (pe_op op_mulW (pv 2) (pe_op op_fdivW (pv 1) (pv 3))))) (pa_cons (pv 1) pa_nil)))))), ?_⟩
    have hlen := hp0.len
    obtain ⟨c0, cD, cdv⟩ := hB.com
    have c1 := hB.lt c0 cD
    refine ⟨_, rfl, a, ws, ps, D, rfl, ha, hp0, hB, ?_⟩
    generalize com (ps.map (·.2)) = c at *
    refine ⟨_, rfl, a, rfl, ⟨_, SqL.of ha⟩, fun l hD => lc_list (K := K) (a := a) (xs := ws) (fun i H' => Same H H' ∧ H' l = some (.lst ((tops c (ps.take i)).map V.int))) ⟨same_new hD, upd_same⟩ (fun i H' _ hP => SqL.of (hP.1 _ _ ha)) (fun i x H' hx hP => ?_) (fun H' hP => ?_)⟩
    · obtain ⟨s1, hacc⟩ := hP
      obtain ⟨p, t, b, rfl, hi, hm, hp⟩ := PrL_get hp0 hx
      obtain ⟨b0, bD, t1⟩ := hB.2.2 _ hm
      have b1 := hB.lt b0 bD
      have li := (List.getElem?_eq_some_iff.mp hi).1
      have q1 : (c / b).natAbs < 2 ^ 2000 := by
        have h1 : 0 ≤ c / b := Int.ediv_nonneg (by omega) (by omega)
        have h2 : c / b ≤ c := Int.ediv_le_self _ (by omega)
        omega
      refine ⟨p, [.int t, .int b], rfl, SqT.of (s1 _ _ hp), rfl, _, _, rfl, _, _, rfl, rfl, rfl, ?_⟩
      refine ⟨_, rfl, _, rfl, _, rfl, _, _, rfl, rfl, wide_div b0 b1 (by decide) (by decide), _, _, rfl, rfl, wide_mul t1 q1 (by decide) (by decide) (by decide), _, hacc, ?_, fun b' o e => ?_, ?_⟩
      · unfold tops
        rw [List.length_map, List.length_map, List.length_take]
        exact small1000 (by omega)
      · rw [upd_ne (ne_of_none e hD)]
        exact s1 _ _ e
      · rw [upd_same, List.take_succ, hi, Option.toList_some]
        unfold tops
        rw [List.map_append, List.map_append]
        rfl
    · obtain ⟨s1, hacc⟩ := hP
      rw [hlen, List.take_length] at hacc
      refine ⟨_, rfl, (by show 2 ≤ sizeLine; decide), fun T hT => ?_⟩
      exact q T l _ (s1.trans (same_new hT)) upd_same (same_new hT _ _ hacc)
theorem sc_sum_of_products : FnScope ["xs", "ys", "products", "tops", "common", "x", "y"] ["xs", "ys"] (defScope s_sum_of_products) := ⟨rfl, rfl, rfl, by decide +kernel, rfl, by decide +kernel, by decide +kernel⟩
theorem ok_sum_of_products {f : Addr} {fd : FuncData} (F : Fun K "sum_of_products" "sum_of_products" s_sum_of_products f fd) (z : Zs mg) (c_cleared : Cal P w K mg base 3 "cleared" ["pairs"] spCleared) (c_lowest : Cal P w K mg base 2 "lowest" ["top", "bottom"] spLow) : FnOk P w K mg base CX0 4 f fd ["xs", "ys"] (spSop K) := by
  refine F.ok sc_sum_of_products (fun vs H Q E h => ?_) (fun cdv A outer s H vs Q E hr h => ?_)
  · obtain ⟨a, c, xs, ys, D, E, B, C, rfl, _⟩ := h
    rfl
  · obtain ⟨a, c, xs, ys, D, E, B, C, rfl, ⟨vs, ha, hx0⟩, ⟨us, hc, hy0⟩, hB, hC, hl, q⟩ := h
    refine ⟨_, (pss_cons (ps_setLc (i := 2) (own := [("x", 5), ("y", 6)]) (g := gTup K 2 (gCons (gName 5) (gCons (gName 6) gNil))) (te := (tTup (tCons (tOp (rI CMulW fun i j => V.int (i * j)) (tOp (rIxT K) (tVar 5) (tC (.int 0))) (tOp (rIxT K) (tVar 6) (tC (.int 0)))) (tCons (tOp (rI CMulW fun i j => V.int (i * j)) (tOp (rIxT K) (tVar 5) (tC (.int 1))) (tOp (rIxT K) (tVar 6) (tC (.int 1)))) tNil)))) (tt := (tAnd (tTest (tOp rNe (tOp (rIxT K) (tVar 5) (tC (.int 0))) (tC (.int 0)))) (tTest (tOp rNe (tOp (rIxT K) (tVar 6) (tC (.int 0))) (tC (.int 0)))))) (by rfl) sc_sum_of_products.nd rfl rfl (sw_true rfl rfl rfl (by decide +kernel)) (RZ.pi_zipA (by rfl) z.zip (pa_cons (pv 0) (pa_cons (pv 1) pa_nil))) (blkOk_by (own := [("x", 5), ("y", 6)]) (N := ["xs", "ys", "products", "tops", "common", "x", "y"]) (sc := defScope s_sum_of_products) (by decide +kernel)) (fun _ _ _ _ _ => by exact (pg_tup (by rfl) (pgs_cons (pg_name (i := 5) sc_sum_of_products.nd rfl (.inl rfl)) (pgs_cons (pg_name (i := 6) sc_sum_of_products.nd rfl (.inl rfl)) pgs_nil)))) (fun _ _ _ _ _ => by exact (pts_one (PW.pt (pw_and (pt_cmpR op_ne (pe_ix ix_tup (pv 5) pe_int (fun _ _ => rfl)) pe_int (nomark _)) (pw_and1 (pt_cmpR op_ne (pe_ix ix_tup (pv 6) pe_int (fun _ _ => rfl)) pe_int (nomark _))))))) (fun _ _ _ _ _ => by exact (pe_tup (pa_cons (pe_op op_mulW (pe_ix ix_tup (pv 5) pe_int (fun _ _ => rfl)) (pe_ix ix_tup (pv 6) pe_int (fun _ _ => rfl))) (pa_cons (pe_op op_mulW (pe_ix ix_tup (pv 5) pe_int (fun _ _ => rfl)) (pe_ix ix_tup (pv 6) pe_int (fun _ _ => rfl))) pa_nil)))))
      (pss_cons (ps_asg (pe_cal c_cleared hr (pa_cons (pv 2) pa_nil)) (pg_tup (by rfl) (pgs_cons (pg_name (i := 3) sc_sum_of_products.nd rfl (.inl rfl)) (pgs_cons (pg_name (i := 4) sc_sum_of_products.nd rfl (.inl rfl)) pgs_nil))))
      (pss_one (ps_ret (pe_cal c_lowest hr (pa_cons (pe_callB (cr_sum rfl) (by rfl) z.sum (by decide +kernel) (pa_cons (pv 3) pa_nil)) (pa_cons (pv 4) pa_nil))))))), ?_⟩
    have lx := FrsAt.len hx0
    have ly := hy0.1
    refine ⟨_, rfl, _, rfl, a, c, vs, us, rfl, .inl ⟨SqL.of ha, SqL.of hc, fun l hD => ?_⟩⟩
    refine lc_it (walk_zip (K := K) (a := a) (b := c) (xs := vs) (ys := us) rfl) (fun i H2 => Same H H2 ∧ ∃ ws, H2 l = some (.lst ws) ∧ PrsAt H2 ws (prods (xs.take i) (ys.take i)) ∧ ws.length ≤ i) ⟨same_new hD, [], upd_same, .nil, Nat.le_refl _⟩ (fun i H2 _ hP => ⟨SqL.of (hP.1 _ _ ha), SqL.of (hP.1 _ _ hc)⟩) (fun i x H2 H3 hi hP hY => ?_) (fun H2 hP => ?_)
    · obtain ⟨s1, ws, hw, hps, hwl⟩ := hP
      obtain ⟨Tp, u, v, rfl, nT, rfl, e1, e2⟩ := hY
      obtain ⟨p, qx, rfl, hqx, hp⟩ := FrsAt.get hx0 e1
      obtain ⟨r, qy, rfl, hqy, hr'⟩ := hy0.get e2
      have sN := same_new (o := .tup [.ref p, .ref r]) nT
      have S1 := s1.trans sN
      have hp3 := S1 _ _ hp
      have hr3 := sqT_same hr' S1
      have hw3 := sN _ _ hw
      have ps3 := hps.same sN
      have sx := hB.2.2.2 _ (List.mem_of_getElem? hqx)
      have sy := hC.2.2.2 _ (List.mem_of_getElem? hqy)
      have nx : qx.num.natAbs < 2 ^ 1000 := Nat.lt_of_le_of_lt (sx.num hB.1) hB.2.2.1
      have ny : qy.num.natAbs < 2 ^ 1000 := Nat.lt_of_le_of_lt (sy.num hC.1) hC.2.2.1
      have dn : ∀ {G : Int} {k : Rat}, G ≠ 0 → G.natAbs < 2 ^ 1000 → (k.den : Int) ∣ G → ((k.den : Int)).natAbs < 2 ^ 1000 := fun {G k} h0 h1 h2 => by
        have h3 : (k.den : Int).natAbs ∣ G.natAbs := Int.natAbs_dvd_natAbs.mpr h2
        exact Nat.lt_of_le_of_lt (Nat.le_of_dvd (by omega) h3) h1
      have dx := dn hB.1 hB.2.1 sx.den
      have dy := dn hC.1 hC.2.1 sy.den
      have li : i < min vs.length us.length := hi
      have tk : prods (xs.take (i + 1)) (ys.take (i + 1)) = prods (xs.take i) (ys.take i) ++ (if qx.num ≠ 0 ∧ qy.num ≠ 0 then [(qx.num * qy.num, (qx.den * qy.den : Int))] else []) := by
        rw [List.take_succ, List.take_succ, hqx, hqy, Option.toList_some, Option.toList_some]
        apply prods_snoc
        rw [List.length_take, List.length_take]
        omega
      refine ⟨Tp, [.ref p, .ref r], rfl, SqT.of upd_same, rfl, _, _, rfl, _, _, rfl, rfl, rfl, ?_⟩
      refine ⟨_, rfl, p, _, 0, .int qx.num, rfl, rfl, SqT.of hp3, a0, rfl, _, rfl, iteN (fun cx => ?_) (fun cx => ?_)⟩
      · refine ⟨_, rfl, r, _, 0, .int qy.num, rfl, rfl, hr3, a0, rfl, _, rfl, iteN (fun cy => ?_) (fun cy => ?_)⟩
        · have n1 : qx.num ≠ 0 := fun z => cx (by rw [z])
          have n2 : qy.num ≠ 0 := fun z => cy (by rw [z])
          refine ⟨_, rfl, p, _, 0, .int qx.num, rfl, rfl, SqT.of hp3, a0, _, rfl, r, _, 0, .int qy.num, rfl, rfl, hr3, a0, _, _, rfl, rfl, wide_mul nx ny (by decide) (by decide) (by decide), _, rfl, p, _, 1, .int qx.den, rfl, rfl, SqT.of hp3, a1, _, rfl, r, _, 1, .int qy.den, rfl, rfl, hr3, a1, _, _, rfl, rfl, wide_mul dx dy (by decide) (by decide) (by decide), (by show 2 ≤ sizeLine; decide), fun t ht => ?_⟩
          have sT := same_new (o := .tup [.int (qx.num * qy.num), .int (qx.den * qy.den : Int)]) ht
          have nl : t ≠ l := fun e => by
            rw [e] at ht
            rw [hw3] at ht
            cases ht
          refine ⟨_, sT _ _ hw3, small1000 (by omega), fun b o e => ?_, ws ++ [.ref t], upd_same, ?_, by rw [List.length_append]; show ws.length + 1 ≤ i + 1; omega⟩
          · rw [upd_ne (ne_of_none e hD)]
            exact sT _ _ (S1 _ _ e)
          · rw [tk, if_pos ⟨n1, n2⟩]
            have A : PrsAt (upd (upd (upd H2 Tp (.tup [.ref p, .ref r])) t (.tup [.int (qx.num * qy.num), .int (qx.den * qy.den : Int)])) l (.lst (ws ++ [.ref t]))) ws (prods (xs.take i) (ys.take i)) := (ps3.same sT).but SameBut.upd (sT _ _ hw3)
            refine A.app (.cons ?_ .nil)
            rw [upd_ne nl]
            exact upd_same
        · refine ⟨S1, ws, hw3, ?_, by omega⟩
          have z : qy.num = 0 := V.int.inj cy
          rw [tk, if_neg (fun h => h.2 z), List.append_nil]
          exact ps3
      · refine ⟨S1, ws, hw3, ?_, by omega⟩
        have z : qx.num = 0 := V.int.inj cx
        rw [tk, if_neg (fun h => h.1 z), List.append_nil]
        exact ps3
    · obtain ⟨s1, ws, hw, hps, hwl⟩ := hP
      rw [lx, ly] at hps hwl
      have hB' : Bnd D B (xs.take (min xs.length ys.length)) := ⟨hB.1, hB.2.1, hB.2.2.1, fun x hx => hB.2.2.2 x (List.mem_of_mem_take hx)⟩
      have hC' : Bnd E C (ys.take (min xs.length ys.length)) := ⟨hC.1, hC.2.1, hC.2.2.1, fun x hx => hC.2.2.2 x (List.mem_of_mem_take hx)⟩
      have bt := hB'.btm hC'
      obtain ⟨c0, cD, cdv⟩ := bt.com
      have c1 := bt.lt c0 cD
      have pl := hps.len
      have val := prods_q (xs.take (min xs.length ys.length)) (ys.take (min xs.length ys.length))
      rw [dot_take] at val
      have cl := clear_q (com ((prods (xs.take (min xs.length ys.length)) (ys.take (min xs.length ys.length))).map (·.2))) (by omega) (prods (xs.take (min xs.length ys.length)) (ys.take (min xs.length ys.length))) fun p hp => ⟨(bt.2.2 p hp).1, cdv p hp⟩
      rw [val] at cl
      refine ⟨_, rfl, l, ws, _, D * E, rfl, hw, hps, bt, by omega, fun Tp L1 H3 s3 hT hL => ?_⟩
      refine ⟨Tp, _, rfl, SqT.of hT, rfl, _, _, rfl, _, _, rfl, rfl, ?_⟩
      refine ⟨_, rfl, L1, _, rfl, SqL.of hL, _, rfl, _, _, rfl, by omega, up c1 (by decide), fun p hp => ?_⟩
      have S3 := s1.trans s3
      exact q p _ (S3.free hp) (S3.trans (same_new hp)) (Fr.low (by omega) (div_is (by omega) cl) upd_same)
end
end E1

namespace E1
open PySem PySem.Spec PyProof.Rows L2
theorem fn_mem {qs : List Rat} {i : Nat} (h : i < qs.length) : fn qs i ∈ qs := by
  rw [fn_lt (List.getElem?_eq_getElem h)]
  exact List.getElem_mem h
theorem fn_sc {D : Int} {B : Nat} {qs : List Rat} (h : ∀ q ∈ qs, Sc D B q) (i : Nat) : Sc D B (fn qs i) := by
  by_cases c : i < qs.length
  · exact h _ (fn_mem c)
  · rw [fn_ge (by omega)]
    exact .zero
theorem FrsAt.fn {H : Hp} {vs : List V} {qs : List Rat} (h : FrsAt H vs qs) {i : Nat} (hi : i < qs.length) : ∃ p, vs[i]? = some (.ref p) ∧ Fr H p (E1.fn qs i) := by
  obtain ⟨p, h1, h2⟩ := FrsAt.at h (List.getElem?_eq_getElem hi)
  exact ⟨p, h1, by rw [fn_lt (List.getElem?_eq_getElem hi)]; exact h2⟩
def spChkS : Sp := fun vs H Q _ => ∃ (a : Addr) (qs : List Rat), vs = [.ref a] ∧ FrL H a qs ∧ qs.length ≤ 1000 ∧ ∀ H', Same H H' → Q .non H'
def spPPlace : Sp := fun vs H Q _ => ∃ (a c : Addr) (xs ys : List Rat) (k : Nat) (D E : Int) (B C : Nat), vs = [.ref a, .ref c, .int k] ∧ FrL H a xs ∧ FrL H c ys ∧ Bnd D B xs ∧ Bnd E C ys ∧ xs.length ≤ 1000 ∧ ys.length ≤ 1000 ∧ k ≤ 1000 ∧ ∀ p H', H p = none → Same H H' → Fr H' p (cv (fn xs) (fn ys) k) → Q (.ref p) H'
theorem cut_nat {vs : List V} {f u : Nat} : cutV vs (some (f : Int)) (some (u : Int)) = (vs.drop (min f vs.length)).take (min u vs.length - min f vs.length) := by
  unfold cutV
  rw [HT.sIx_nat, HT.sIx_nat]
theorem place_cut (xs : List Rat) (f k : Nat) : (xs.drop (min f xs.length)).take (min (k + 1) xs.length - min f xs.length) = (List.range' f (min (k + 1) xs.length - f)).map (fn xs) := by
  by_cases c : f ≤ xs.length
  · rw [Nat.min_eq_left c]
    exact drop_range (by omega)
  · rw [Nat.min_eq_right (show xs.length ≤ f by omega), show min (k + 1) xs.length - xs.length = 0 by omega, show min (k + 1) xs.length - f = 0 by omega]
    rfl
theorem range_mem {f m : Nat} {g : Nat → Rat} {q : Rat} (h : q ∈ (List.range' f m).map g) : ∃ j, f ≤ j ∧ j < f + m ∧ q = g j := by
  obtain ⟨j, hj, rfl⟩ := List.mem_map.mp h
  rw [List.mem_range'_1] at hj
  exact ⟨j, hj.1, hj.2, rfl⟩
def pl (xs ys : List Rat) (n : Nat) : List Rat := (List.range n).map (cv (fn xs) (fn ys))
theorem pl_len (xs ys : List Rat) (n : Nat) : (pl xs ys n).length = n := by
  rw [pl, List.length_map, List.length_range]
theorem pl_succ (xs ys : List Rat) (n : Nat) : pl xs ys (n + 1) = pl xs ys n ++ [cv (fn xs) (fn ys) n] := by
  rw [pl, List.range_succ, List.map_append]
  rfl
def spFirst : Sp := fun vs H Q _ => ∃ (a c : Addr) (xs ys : List Rat) (n : Nat) (D E : Int) (B C : Nat), vs = [.ref a, .ref c, .int n] ∧ FrL H a xs ∧ FrL H c ys ∧ Bnd D B xs ∧ Bnd E C ys ∧ xs.length ≤ 400 ∧ ys.length ≤ 400 ∧ n ≤ 900 ∧ ∀ p H', H p = none → Same H H' → FrL H' p (pl xs ys n) → Q (.ref p) H'
/-- the product of two series -/
def mulL (xs ys : List Rat) : List Rat := if xs = [] ∨ ys = [] then [] else pl xs ys (xs.length + ys.length - 1)
def spProd : Sp := fun vs H Q _ => ∃ (a c : Addr) (xs ys : List Rat) (D E : Int) (B C : Nat), vs = [.ref a, .ref c] ∧ FrL H a xs ∧ FrL H c ys ∧ Bnd D B xs ∧ Bnd E C ys ∧ xs.length ≤ 400 ∧ ys.length ≤ 400 ∧ ∀ p H', H p = none → Same H H' → FrL H' p (mulL xs ys) → Q (.ref p) H'
section
variable {P : Program} {w : World} {K : PySem.W.Frag} {mg : Str → Option Value} {base : Heap}
theorem sc_check_series : FnScope ["thing"] ["thing"] (defScope s_check_series) := ⟨rfl, rfl, rfl, by decide +kernel, rfl, by decide +kernel, by decide +kernel⟩
theorem ok_check_series {f : Addr} {fd : FuncData} (F : Fun K "check_series" "check_series" s_check_series f fd) (c_is_fractions : Cal P w K mg base 3 "is_fractions" ["thing"] spIsFrs) : FnOk P w K mg base CX0 4 f fd ["thing"] spChkS := by
  refine F.ok sc_check_series (fun vs H Q E h => ?_) (fun cdv A outer s H vs Q E hr h => ?_)
  · obtain ⟨a, qs, rfl, _⟩ := h
    rfl
  · obtain ⟨a, qs, rfl, hq, hl, q⟩ := h
    refine ⟨_, (pss_one (ps_if (pt_not (pt_val (pe_cal c_is_fractions hr (pa_cons (pv 0) pa_nil)))) (pss_one ps_never) pss_nil)), ?_⟩
    exact ⟨_, rfl, a, qs, rfl, hq, hl, fun H1 s1 => ⟨_, rfl, iteF (q _ s1)⟩⟩
theorem sc_product_place : FnScope ["one", "other", "at", "first", "left", "right", "k"] ["one", "other", "at"] (defScope s_product_place) := ⟨rfl, rfl, rfl, by decide +kernel, rfl, by decide +kernel, by decide +kernel⟩
theorem ok_product_place {f : Addr} {fd : FuncData} (F : Fun K "product_place" "product_place" s_product_place f fd) (z : Zs mg) (c_sum_of_products : Cal P w K mg base 4 "sum_of_products" ["xs", "ys"] (spSop K)) : FnOk P w K mg base CX0 5 f fd ["one", "other", "at"] spPPlace := by
  refine F.ok sc_product_place (fun vs H Q E h => ?_) (fun cdv A outer s H vs Q E hr h => ?_)
  · obtain ⟨a, c, xs, ys, k, D, E, B, C, rfl, _⟩ := h
    rfl
  · obtain ⟨a, c, xs, ys, k, D, E, B, C, rfl, hx, hy, hB, hC, lx, ly, lk, q⟩ := h
    refine ⟨_, (pss_cons (ps_set (i := 3) sc_product_place.nd rfl (.inl rfl) (pe_callB (call_max2 rfl) (by rfl) z.max (by decide +kernel) (pa_cons pe_int (pa_cons (pe_op op_add (pe_op op_sub (pv 2) (pe_callB call_len_seq (by rfl) z.len PySem.boot_len (pa_cons (pv 1) pa_nil))) pe_int) pa_nil))))
      (pss_cons (ps_set (i := 4) sc_product_place.nd rfl (.inl rfl) (pe_slice sl_list (pv 0) (po_some (pv 3)) (po_some (pe_op op_add (pv 2) pe_int))))
      (pss_cons (ps_setLc (i := 5) (own := [("k", 6)]) (g := gName 6) (tt := tYes) (te := (tOp (rIxL K) (tVar 1) (tOp (rI0 fun i j => V.int (i - j)) (tVar 2) (tVar 6)))) (by rfl) sc_product_place.nd rfl rfl (sw_true rfl rfl rfl (by decide +kernel)) (pi_range2 (by rfl) z.range (pa_cons (pv 3) (pa_cons (pe_op op_add (pv 3) (pe_callB call_len_seq (by rfl) z.len PySem.boot_len (pa_cons (pv 4) pa_nil))) pa_nil))) (blkOk_by (own := [("k", 6)]) (N := ["one", "other", "at", "first", "left", "right", "k"]) (sc := defScope s_product_place) (by decide +kernel)) (fun _ _ _ _ _ => by exact (pg_name (i := 6) sc_product_place.nd rfl (.inl rfl))) (fun _ _ _ _ _ => by exact pts_nil) (fun _ _ _ _ _ => by exact (pe_ix ix_list (pv 1) (pe_op op_sub (pv 2) (pv 6)) (fun _ _ => rfl))))
      (pss_one (ps_ret (pe_cal c_sum_of_products hr (pa_cons (pv 4) (pa_cons (pv 5) pa_nil)))))))), ?_⟩
    obtain ⟨vs, ha, hvl, hv⟩ := hx.len
    obtain ⟨us, hc, hul, hu⟩ := hy.len
    refine ⟨_, rfl, _, rfl, c, _, rfl, .inl (SqL.of hc), _, _, rfl, rfl, _, _, rfl, rfl, _, _, rfl, ?_⟩
    rw [hul]
    have ef : (if (k : Int) - (ys.length : Int) + 1 > 0 then (k : Int) - (ys.length : Int) + 1 else 0) = ((k + 1 - ys.length : Nat) : Int) := by
      split <;> omega
    rw [ef]
    have hf : k + 1 - ys.length ≤ k + 1 := by omega
    generalize hfe : k + 1 - ys.length = f0 at *
    refine ⟨_, rfl, _, rfl, _, rfl, _, rfl, _, _, rfl, rfl, _, rfl, a, _, rfl, SqL.of ha, fun p1 h1 => ?_⟩
    have ecut : cutV vs (some (f0 : Int)) (some ((k : Int) + 1)) = (vs.drop (min f0 vs.length)).take (min (k + 1) vs.length - min f0 vs.length) := cut_nat (u := k + 1)
    rw [ecut]
    have hL0 : FrsAt H ((vs.drop (min f0 vs.length)).take (min (k + 1) vs.length - min f0 vs.length)) ((List.range' f0 (min (k + 1) xs.length - f0)).map (fn xs)) := by
      rw [← place_cut, hvl]
      exact FrsAt.take (FrsAt.drop hv _) _
    have hll := FrsAt.len hL0
    generalize (vs.drop (min f0 vs.length)).take (min (k + 1) vs.length - min f0 vs.length) = ls at *
    generalize hm : min (k + 1) xs.length - f0 = m at *
    rw [List.length_map, List.length_range'] at hll
    have s1 := same_new (o := .lst ls) h1
    have hc1 := s1 _ _ hc
    have hu1 := PrsAt.same hu s1
    refine ⟨_, rfl, _, rfl, _, rfl, p1, _, rfl, .inl (SqL.of (upd_same (H := H) (a := p1) (o := .lst ls))), _, _, rfl, rfl, f0, f0 + ls.length, rfl, ⟨by omega, by omega, by omega, by omega⟩, fun l hD => ?_⟩
    rw [show (((f0 : Int) + (ls.length : Int)) - (f0 : Int)).toNat = m by omega]
    refine lc_range (lo := (f0 : Int)) (n := m) (fun i H' => Same (upd H p1 (.lst ls)) H' ∧ ∃ ws, H' l = some (.lst ws) ∧ FrsAt H' ws ((List.range' f0 i).map fun j => fn ys (k - j)) ∧ ws.length = i) ⟨same_new hD, [], upd_same, .nil, rfl⟩ (fun i H2 hi hP => ?_) (fun H2 hP => ?_)
    · obtain ⟨s2, ws, hw, hws, hwl⟩ := hP
      have ix : k - (f0 + i) < ys.length := by omega
      obtain ⟨p, hp1, hp⟩ := FrsAt.fn hu1 ix
      have ei : (k : Int) - ((f0 : Int) + (i : Int)) = ((k - (f0 + i) : Nat) : Int) := by omega
      refine ⟨rfl, _, rfl, _, rfl, _, rfl, _, _, rfl, rfl, c, _, _, .ref p, rfl, rfl, SqL.of (s2 _ _ hc1), (by rw [ei]; exact atI_nat hp1), ?_⟩
      refine ⟨_, hw, small1000 (by omega), fun b o e => ?_, ws ++ [.ref p], upd_same, ?_, by rw [List.length_append, hwl]; rfl⟩
      · rw [upd_ne (ne_of_none e hD)]
        exact s2 _ _ e
      · have A : FrsAt (upd H2 l (.lst (ws ++ [.ref p]))) ws ((List.range' f0 i).map fun j => fn ys (k - j)) := PrsAt.but hws SameBut.upd hw
        rw [List.range'_concat, List.map_append]
        refine FrsAt.app A (FrsAt.one ?_)
        show Fr _ p (fn ys (k - (f0 + 1 * i)))
        rw [Nat.one_mul]
        show (upd H2 l (.lst (ws ++ [.ref p]))) p = _
        rw [upd_ne (ne_of (s2 _ _ hp) hw (fun z => nomatch z))]
        exact s2 _ _ hp
    · obtain ⟨s2, ws, hw, hws, hwl⟩ := hP
      refine ⟨_, rfl, _, rfl, p1, l, _, _, D, E, B, C, rfl, ⟨ls, s2 _ _ upd_same, PrsAt.same hL0 (s1.trans s2)⟩, FrL.k ⟨ws, hw, hws⟩, ⟨hB.1, hB.2.1, hB.2.2.1, fun q' hq' => ?_⟩, ⟨hC.1, hC.2.1, hC.2.2.1, fun q' hq' => ?_⟩, ?_, fun p H3 hp s3 hF => ?_⟩
      · obtain ⟨j, _, _, rfl⟩ := range_mem hq'
        exact fn_sc hB.2.2.2 j
      · obtain ⟨j, _, _, rfl⟩ := range_mem hq'
        exact fn_sc hC.2.2.2 _
      · rw [List.length_map, List.length_range']
        omega
      · have S3 := s1.trans s2
        rw [prog_place xs ys k hfe.symm hm.symm] at hF
        exact q p H3 (S3.free hp) (S3.trans s3) hF
theorem sc_first_places : FnScope ["one", "other", "many", "at"] ["one", "other", "many"] (defScope s_first_places) := ⟨rfl, rfl, rfl, by decide +kernel, rfl, by decide +kernel, by decide +kernel⟩
theorem ok_first_places {f : Addr} {fd : FuncData} (F : Fun K "first_places" "first_places" s_first_places f fd) (z : Zs mg) (c_product_place : Cal P w K mg base 5 "product_place" ["one", "other", "at"] spPPlace) : FnOk P w K mg base CX0 6 f fd ["one", "other", "many"] spFirst := by
  refine F.ok sc_first_places (fun vs H Q E h => ?_) (fun cdv A outer s H vs Q E hr h => ?_)
  · obtain ⟨a, c, xs, ys, n, D, E, B, C, rfl, _⟩ := h
    rfl
  · obtain ⟨a, c, xs, ys, n, D, E, B, C, rfl, hx, hy, hB, hC, lx, ly, ln, q⟩ := h
    refine ⟨_, (pss_one (ps_ret (pe_lc (own := [("at", 3)]) (g := gName 3) (tt := tYes) (te := (tCall spPPlace [] E0 (tCons (tVar 0) (tCons (tVar 1) (tCons (tVar 3) tNil))))) (by rfl) sc_first_places.nd (pi_range1 (by rfl) z.range (pa_cons (pv 2) pa_nil)) (blkOk_by (own := [("at", 3)]) (N := ["one", "other", "many", "at"]) (sc := defScope s_first_places) (by decide +kernel)) (fun _ _ _ _ _ => by exact (pg_name (i := 3) sc_first_places.nd rfl (.inl rfl))) (fun _ _ _ _ _ => by exact pts_nil) (fun _ _ _ _ _ => by exact (pe_cal c_product_place hr (pa_cons (pv 0) (pa_cons (pv 1) (pa_cons (pv 3) pa_nil)))))))), ?_⟩
    refine ⟨_, rfl, _, rfl, by omega, by omega, fun l hD => ?_⟩
    rw [Int.toNat_natCast]
    refine lc_range (lo := 0) (n := n) (fun i H' => Same H H' ∧ FrL H' l (pl xs ys i)) ⟨same_new hD, [], upd_same, .nil⟩ (fun i H2 hi hP => ?_) (fun H2 hP => ?_)
    · obtain ⟨s2, ws, hw, hws⟩ := hP
      have hwl := FrsAt.len hws
      rw [pl_len] at hwl
      rw [show (0 : Int) + (i : Int) = (i : Int) by omega]
      refine ⟨rfl, _, rfl, _, rfl, _, rfl, a, c, xs, ys, i, D, E, B, C, rfl, hx.same s2, hy.same s2, hB, hC, by omega, by omega, by omega, fun p H3 hp s3 hF => ?_⟩
      have hw3 := s3 _ _ hw
      refine ⟨_, hw3, small1000 (by omega), fun b o e => ?_, ws ++ [.ref p], upd_same, ?_⟩
      · rw [upd_ne (ne_of_none e hD)]
        exact s3 _ _ (s2 _ _ e)
      · rw [pl_succ]
        refine FrsAt.app (PrsAt.but (PrsAt.same hws s3) SameBut.upd hw3) (FrsAt.one ?_)
        show (upd H3 l (.lst (ws ++ [.ref p]))) p = _
        rw [upd_ne (fun z => by rw [z, hw] at hp; cases hp)]
        exact hF
    · obtain ⟨s2, hF⟩ := hP
      exact q l H2 hD s2 hF
theorem sc_product_of : FnScope ["one", "other"] ["one", "other"] (defScope s_product_of) := ⟨rfl, rfl, rfl, by decide +kernel, rfl, by decide +kernel, by decide +kernel⟩
theorem ok_product_of {f : Addr} {fd : FuncData} (F : Fun K "product_of" "product_of" s_product_of f fd) (z : Zs mg) (c_check_series : Cal P w K mg base 4 "check_series" ["thing"] spChkS) (c_first_places : Cal P w K mg base 6 "first_places" ["one", "other", "many"] spFirst) : FnOk P w K mg base CX0 7 f fd ["one", "other"] spProd := by
  refine F.ok sc_product_of (fun vs H Q E h => ?_) (fun cdv A outer s H vs Q E hr h => ?_)
  · obtain ⟨a, c, xs, ys, D, E, B, C, rfl, _⟩ := h
    rfl
  · obtain ⟨a, c, xs, ys, D, E, B, C, rfl, hx, hy, hB, hC, lx, ly, q⟩ := h
    refine ⟨_, (pss_cons (ps_expr (pe_cal c_check_series hr (pa_cons (pv 0) pa_nil)))
      (pss_cons (ps_expr (pe_cal c_check_series hr (pa_cons (pv 1) pa_nil)))
      (pss_cons (ps_if (PW.pt (pw_or (pt_not (pt_truth (pv 0) (by intro _; rfl))) (pw_or1 (pt_not (pt_truth (pv 1) (by intro _; rfl)))))) (pss_one (ps_ret (pe_lst pa_nil))) pss_nil)
      (pss_one (ps_ret (pe_cal c_first_places hr (pa_cons (pv 0) (pa_cons (pv 1) (pa_cons (pe_op op_sub (pe_op op_add (pe_callB call_len_seq (by rfl) z.len PySem.boot_len (pa_cons (pv 0) pa_nil)) (pe_callB call_len_seq (by rfl) z.len PySem.boot_len (pa_cons (pv 1) pa_nil))) pe_int) pa_nil))))))))), ?_⟩
    refine ⟨_, rfl, a, xs, rfl, hx, by omega, fun H1 s1 => ?_⟩
    refine ⟨_, rfl, c, ys, rfl, hy.same s1, by omega, fun H2 s2' => ?_⟩
    have s2 := s1.trans s2'
    obtain ⟨vs, ha, hvl, hv⟩ := (hx.same s2).len
    obtain ⟨us, hc, hul, hu⟩ := (hy.same s2).len
    have vx : vs = [] ↔ xs = [] := by
      rw [← List.length_eq_zero_iff, hvl, List.length_eq_zero_iff]
    have ux : us = [] ↔ ys = [] := by
      rw [← List.length_eq_zero_iff, hul, List.length_eq_zero_iff]
    have go : (xs = [] ∨ ys = []) → ∀ p, H2 p = none → Q (.ref p) (upd H2 p (.lst [])) := fun e p hp => q p _ (s2.free hp) (s2.trans (same_new hp)) ⟨[], upd_same, by rw [mulL, if_pos e]; exact .nil⟩
    refine ⟨_, rfl, !vs.isEmpty, .inl ⟨vs, SqL.of ha, rfl⟩, ?_⟩
    cases vs with
    | nil => exact iteT (iteT ⟨(by show 0 ≤ sizeLine; decide), fun p hp => go (.inl (vx.mp rfl)) p hp⟩)
    | cons v0 vs0 =>
      refine iteF ⟨_, rfl, !us.isEmpty, .inl ⟨us, SqL.of hc, rfl⟩, ?_⟩
      cases us with
      | nil => exact iteT ⟨(by show 0 ≤ sizeLine; decide), fun p hp => go (.inr (ux.mp rfl)) p hp⟩
      | cons u0 us0 =>
        have nx : ¬ (xs = [] ∨ ys = []) := fun z => by
          rcases z with z | z
          · cases vx.mpr z
          · cases ux.mpr z
        have px : 0 < xs.length := by rw [← hvl]; exact Nat.succ_pos _
        have py : 0 < ys.length := by rw [← hul]; exact Nat.succ_pos _
        refine iteF ⟨_, rfl, _, rfl, _, rfl, a, _, rfl, .inl (SqL.of ha), _, rfl, c, _, rfl, .inl (SqL.of hc), _, _, rfl, rfl, _, _, rfl, rfl, a, c, xs, ys, xs.length + ys.length - 1, D, E, B, C, ?_, hx.same s2, hy.same s2, hB, hC, lx, ly, by omega, fun p H3 hp s3 hF => q p H3 (s2.free hp) (s2.trans s3) ?_⟩
        · rw [hvl, hul, show (((xs.length + ys.length - 1 : Nat)) : Int) = (xs.length : Int) + (ys.length : Int) - 1 by omega]
          rfl
        · rw [mulL, if_neg nx]
          exact hF
end
end E1

namespace E1
open PySem PySem.Spec PyProof.Rows L2
theorem sg_rev (f : Nat → Rat) : ∀ n, sg (fun i => f (n - i)) (n + 1) = sg f (n + 1)
  | 0 => rfl
  | n + 1 => by
    rw [sg_first]
    have e : sg (fun i => f (n + 1 - (i + 1))) (n + 1) = sg (fun i => f (n - i)) (n + 1) := sg_congr _ fun i _ => by rw [show n + 1 - (i + 1) = n - i by omega]
    rw [e, sg_rev f n]
    show f (n + 1 - 0) + sg f (n + 1) = sg f (n + 1) + f (n + 1)
    rw [Nat.sub_zero]
    grind
theorem cv_comm (f g : Nat → Rat) (m : Nat) : cv f g m = cv g f m := by
  unfold cv
  rw [← sg_rev]
  apply sg_congr
  intro i hi
  show f (m - i) * g (m - (m - i)) = g i * f (m - i)
  rw [show m - (m - i) = i by omega]
  grind

/-! ### lists and their places -/
theorem fn_cut {xs ys : List Rat} (hl : xs.length = ys.length) (h : ∀ i, i < xs.length → fn xs i = fn ys i) : xs = ys := by
  apply List.ext_getElem hl
  intro i h1 h2
  have := h i h1
  rw [fn_lt (List.getElem?_eq_getElem h1), fn_lt (List.getElem?_eq_getElem h2)] at this
  exact this
theorem cv_fun_assoc (f g h : Nat → Rat) (m : Nat) : cv (cv f g) h m = cv f (cv g h) m := by
  rw [cv_comm (cv f g) h, cv_swap]
  exact cv_congr (fun _ _ => rfl) fun i _ => cv_comm h g i
theorem cv_far {xs ys : List Rat} {k : Nat} (h : xs.length + ys.length ≤ k + 1) : cv (fn xs) (fn ys) k = 0 := by
  unfold cv
  refine sg_zero _ fun i hi => ?_
  by_cases c : xs.length ≤ i
  · rw [fn_ge c]
    grind
  · rw [fn_ge (qs := ys) (show ys.length ≤ k - i by omega)]
    grind
theorem pl_at (xs ys : List Rat) {n i : Nat} (h : i < n) : fn (pl xs ys n) i = cv (fn xs) (fn ys) i := by
  refine fn_lt ?_
  unfold pl
  rw [List.getElem?_map, List.getElem?_range h]
  rfl
theorem mul_pl {xs ys : List Rat} (hx : xs ≠ []) (hy : ys ≠ []) : mulL xs ys = pl xs ys (xs.length + ys.length - 1) := by
  unfold mulL
  rw [if_neg (fun z => z.elim hx hy)]
theorem pos_len {xs : List Rat} (h : xs ≠ []) : 0 < xs.length := List.length_pos_iff.mpr h
theorem mul_len {xs ys : List Rat} (hx : xs ≠ []) (hy : ys ≠ []) : (mulL xs ys).length = xs.length + ys.length - 1 := by
  rw [mul_pl hx hy, pl_len]
theorem mul_ne {xs ys : List Rat} (hx : xs ≠ []) (hy : ys ≠ []) : mulL xs ys ≠ [] := fun z => by
  have := mul_len hx hy
  have := pos_len hx
  have := pos_len hy
  rw [z] at *
  simp at *
  omega
theorem mul_fn {xs ys : List Rat} (hx : xs ≠ []) (hy : ys ≠ []) : fn (mulL xs ys) = cv (fn xs) (fn ys) := funext fun i => by
  have := pos_len hx
  have := pos_len hy
  by_cases c : i < xs.length + ys.length - 1
  · rw [mul_pl hx hy, pl_at _ _ c]
  · rw [fn_ge (by rw [mul_len hx hy]; omega), cv_far (by omega)]
theorem mul_comm {xs ys : List Rat} (hx : xs ≠ []) (hy : ys ≠ []) : mulL xs ys = mulL ys xs := by
  refine fn_cut (by rw [mul_len hx hy, mul_len hy hx, Nat.add_comm]) fun i _ => ?_
  rw [mul_fn hx hy, mul_fn hy hx, cv_comm]
theorem mul_assoc {xs ys zs : List Rat} (hx : xs ≠ []) (hy : ys ≠ []) (hz : zs ≠ []) : mulL (mulL xs ys) zs = mulL xs (mulL ys zs) := by
  have p1 := pos_len hx
  have p2 := pos_len hy
  have p3 := pos_len hz
  refine fn_cut ?_ fun i _ => ?_
  · rw [mul_len (mul_ne hx hy) hz, mul_len hx (mul_ne hy hz), mul_len hx hy, mul_len hy hz]
    omega
  · rw [mul_fn (mul_ne hx hy) hz, mul_fn hx (mul_ne hy hz), mul_fn hx hy, mul_fn hy hz, cv_fun_assoc]
theorem mul_one {xs : List Rat} (hx : xs ≠ []) : mulL xs [1] = xs := by
  have o : ([1] : List Rat) ≠ [] := fun z => nomatch z
  refine fn_cut (by rw [mul_len hx o]; rfl) fun i _ => ?_
  rw [mul_fn hx o, cv_comm]
  unfold cv
  rw [sg_first, sg_zero _ fun j _ => ?_]
  · show fn [1] 0 * fn xs (i - 0) + 0 = fn xs i
    rw [show fn [1] 0 = 1 from rfl, Nat.sub_zero]
    grind
  · show fn [1] (j + 1) * _ = 0
    rw [fn_ge (show ([1] : List Rat).length ≤ j + 1 by simp)]
    grind
theorem one_mul {xs : List Rat} (hx : xs ≠ []) : mulL [1] xs = xs := by
  have o : ([1] : List Rat) ≠ [] := fun z => nomatch z
  rw [mul_comm o hx, mul_one hx]
/-- the product of some sections -/
def tog (ss : List (List Rat)) : List Rat := ss.foldl mulL [1]
theorem tog_ne : ∀ (ss : List (List Rat)) (acc : List Rat), acc ≠ [] → (∀ s ∈ ss, s ≠ []) → ss.foldl mulL acc ≠ []
  | [], _, h, _ => h
  | s :: ss, acc, h, hs => tog_ne ss (mulL acc s) (mul_ne h (hs s List.mem_cons_self)) fun x hx => hs x (List.mem_cons_of_mem _ hx)
def togR : List (List Rat) → List Rat
  | [] => [1]
  | s :: ss => mulL (togR ss) s
theorem togR_ne : ∀ (ss : List (List Rat)), (∀ s ∈ ss, s ≠ []) → togR ss ≠ []
  | [], _ => fun z => nomatch z
  | s :: ss, hs => mul_ne (togR_ne ss fun x hx => hs x (List.mem_cons_of_mem _ hx)) (hs s List.mem_cons_self)
theorem fold_R : ∀ (ss : List (List Rat)) (acc : List Rat), acc ≠ [] → (∀ s ∈ ss, s ≠ []) → ss.foldl mulL acc = mulL acc (togR ss)
  | [], acc, h, _ => (mul_one h).symm
  | s :: ss, acc, h, hs => by
    have hs' : ∀ x ∈ ss, x ≠ [] := fun x hx => hs x (List.mem_cons_of_mem _ hx)
    have s0 := hs s List.mem_cons_self
    have r0 := togR_ne ss hs'
    rw [List.foldl_cons, fold_R ss _ (mul_ne h s0) hs', mul_assoc h s0 r0]
    show _ = mulL acc (mulL (togR ss) s)
    rw [mul_comm s0 r0]
theorem tog_snoc (ss : List (List Rat)) (s : List Rat) : tog (ss ++ [s]) = mulL (tog ss) s := by
  unfold tog
  rw [List.foldl_append]
  rfl
theorem tog_rev {ss : List (List Rat)} (hs : ∀ s ∈ ss, s ≠ []) : tog ss.reverse = tog ss := by
  have e : ∀ l : List (List Rat), tog l.reverse = togR l := fun l => by
    induction l with
    | nil => rfl
    | cons s l ih =>
      rw [List.reverse_cons, tog_snoc, ih]
      rfl
  rw [e, show tog ss = ss.foldl mulL [1] from rfl, fold_R ss [1] (fun z => nomatch z) hs, one_mul (togR_ne ss hs)]
/-! ### sizes -/
def SM (D : Int) (M : Nat) (q : Rat) : Prop := Sc D (M * D.natAbs) q
theorem SM.zero {D : Int} {M : Nat} : SM D M 0 := Sc.zero
theorem SM.mono {D : Int} {M N : Nat} {q : Rat} (h : SM D M q) (l : M ≤ N) : SM D N q := Sc.mono h (Nat.mul_le_mul_right _ l)
theorem SM.add {D : Int} {M N : Nat} {q r : Rat} (h : SM D M q) (g : SM D N r) : SM D (M + N) (q + r) := Sc.mono (Sc.add h g) (by rw [Nat.add_mul]; exact Nat.le_refl _)
theorem SM.mul {D E : Int} {M N : Nat} {q r : Rat} (h : SM D M q) (g : SM E N r) : SM (D * E) (M * N) (q * r) := Sc.mono (Sc.mul h g) (by rw [Int.natAbs_mul, Nat.mul_mul_mul_comm]; exact Nat.le_refl _)
theorem SM.grow {D : Int} {M : Nat} {q : Rat} (h : SM D M q) (k : Int) : SM (D * k) M q := Sc.mono (Sc.scale (k := k) h) (by rw [Int.natAbs_mul, Nat.mul_assoc]; exact Nat.le_refl _)
theorem SM.val {D : Int} {M : Nat} {q : Rat} (h : SM D M q) (hD : D ≠ 0) : q.num.natAbs ≤ M * q.den := by
  obtain ⟨n, e, b⟩ := Sc.cross h
  have e2 := congrArg Int.natAbs e
  rw [Int.natAbs_mul, Int.natAbs_mul, Int.natAbs_natCast] at e2
  have := Nat.mul_le_mul_right q.den b
  have d0 : 0 < D.natAbs := Int.natAbs_pos.mpr hD
  refine Nat.le_of_mul_le_mul_right ?_ d0
  rw [e2, Nat.mul_right_comm]
  exact this
theorem SM.neg {D : Int} {M : Nat} {q : Rat} (h : SM D M q) : SM D M (-q) := by
  obtain ⟨n, e, b⟩ := h
  refine ⟨-n, ?_, by rw [Int.natAbs_neg]; exact b⟩
  push_cast
  grind
theorem sg_sm {D : Int} {M : Nat} {f : Nat → Rat} : ∀ n, (∀ i, i < n → SM D M (f i)) → SM D (n * M) (sg f n)
  | 0, _ => .zero
  | n + 1, h => by
    have := (sg_sm n fun i hi => h i (by omega)).add (h n (by omega))
    rw [← Nat.succ_mul] at this
    exact this
theorem sum_sm {D : Int} {M : Nat} : ∀ qs : List Rat, (∀ q ∈ qs, SM D M q) → SM D (qs.length * M) (sumR qs)
  | [], _ => .zero
  | q :: qs, h => by
    have := (h q List.mem_cons_self).add (sum_sm qs fun x hx => h x (List.mem_cons_of_mem _ hx))
    rw [List.length_cons, Nat.succ_mul, Nat.add_comm]
    exact this
theorem fn_sm {D : Int} {M : Nat} {qs : List Rat} (h : ∀ q ∈ qs, SM D M q) (i : Nat) : SM D M (fn qs i) := fn_sc h i
def Sect (qs : List Rat) : Prop := 0 < qs.length ∧ qs.length ≤ 8 ∧ ∀ q ∈ qs, q.num.natAbs ≤ 1000000 ∧ q.den ≤ 1000000
theorem Sect.ne {qs : List Rat} (h : Sect qs) : qs ≠ [] := fun z => by
  have := h.1
  rw [z] at this
  cases this
def DS : List Rat → Int
  | [] => 1
  | q :: qs => (q.den : Int) * DS qs
theorem DS_dvd {q : Rat} : ∀ {qs : List Rat}, q ∈ qs → (q.den : Int) ∣ DS qs
  | r :: qs, h => by
    rcases List.mem_cons.mp h with rfl | h
    · exact ⟨DS qs, rfl⟩
    · exact Int.dvd_trans (DS_dvd h) ⟨r.den, Int.mul_comm ..⟩
theorem DS_pos : ∀ qs : List Rat, 0 < DS qs
  | [] => by decide
  | q :: qs => Int.mul_pos (den_ge q) (DS_pos qs)
theorem DS_le : ∀ qs : List Rat, (∀ q ∈ qs, q.den ≤ 1000000) → (DS qs).natAbs ≤ 1000000 ^ qs.length
  | [], _ => by decide
  | q :: qs, h => by
    show ((q.den : Int) * DS qs).natAbs ≤ _
    rw [Int.natAbs_mul, List.length_cons, Nat.pow_succ, Nat.mul_comm]
    exact Nat.mul_le_mul (DS_le qs fun x hx => h x (List.mem_cons_of_mem _ hx)) (h q List.mem_cons_self)
theorem Sect.sm {qs : List Rat} (h : Sect qs) : ∀ q ∈ qs, SM (DS qs) 1000000 q := fun q hq => by
  obtain ⟨k, hk⟩ := DS_dvd hq
  rw [hk]
  refine SM.grow (D := (q.den : Int)) (M := 1000000) ⟨q.num, q_eq q, ?_⟩ k
  have := (h.2.2 q hq).1
  have := den_ge q
  rw [Int.natAbs_natCast]
  exact Nat.le_trans (h.2.2 q hq).1 (Nat.le_mul_of_pos_right _ (by omega))
theorem Sect.ds {qs : List Rat} (h : Sect qs) : (DS qs).natAbs ≤ 2 ^ 160 :=
  Nat.le_trans (DS_le qs fun q hq => (h.2.2 q hq).2) (Nat.le_trans (Nat.pow_le_pow_right (by decide) h.2.1) (by decide))
def DD : List (List Rat) → Int
  | [] => 1
  | s :: ss => DS s * DD ss
theorem DD_pos : ∀ ss : List (List Rat), 0 < DD ss
  | [] => by decide
  | s :: ss => Int.mul_pos (DS_pos s) (DD_pos ss)
theorem DD_le : ∀ ss : List (List Rat), (∀ s ∈ ss, Sect s) → (DD ss).natAbs ≤ 2 ^ (160 * ss.length)
  | [], _ => by decide
  | s :: ss, h => by
    show (DS s * DD ss).natAbs ≤ _
    rw [Int.natAbs_mul, List.length_cons, Nat.mul_add, Nat.pow_add, Nat.mul_comm]
    exact Nat.mul_le_mul (DD_le ss fun x hx => h x (List.mem_cons_of_mem _ hx)) (h s List.mem_cons_self).ds
def Mt (n : Nat) : Nat := (32 * 1000000) ^ n
theorem mul_sm {D E : Int} {M N : Nat} {xs ys : List Rat} (hx : ∀ q ∈ xs, SM D M q) (hy : ∀ q ∈ ys, SM E N q) (hl : xs.length + ys.length ≤ 33) : ∀ q ∈ mulL xs ys, SM (D * E) (32 * (M * N)) q := fun q hq => by
  unfold mulL at hq
  split at hq
  · exact absurd hq List.not_mem_nil
  · obtain ⟨k, hk, rfl⟩ := List.mem_map.mp hq
    have hk := List.mem_range.mp hk
    exact (sg_sm (k + 1) fun i _ => (fn_sm hx i).mul (fn_sm hy (k - i))).mono (Nat.mul_le_mul_right _ (by omega))
theorem fold_sm : ∀ (ss : List (List Rat)) (acc : List Rat) (D : Int) (M : Nat), (∀ s ∈ ss, Sect s) → acc ≠ [] → (∀ q ∈ acc, SM D M q) → acc.length + 7 * ss.length ≤ 32 →
    (∀ q ∈ ss.foldl mulL acc, SM (D * DD ss) (M * Mt ss.length) q) ∧ (ss.foldl mulL acc).length ≤ acc.length + 7 * ss.length
  | [], acc, D, M, _, _, h, _ => by
    refine ⟨fun q hq => ?_, by simp⟩
    show SM (D * 1) (M * 1) q
    rw [Int.mul_one, Nat.mul_one]
    exact h q hq
  | s :: ss, acc, D, M, hs, h0, h, hl => by
    have s1 := hs s List.mem_cons_self
    have hl2 := mul_len h0 s1.ne
    have p0 := pos_len h0
    have := s1.1
    have := s1.2.1
    rw [List.length_cons] at hl
    obtain ⟨i1, i2⟩ := fold_sm ss (mulL acc s) (D * DS s) (32 * (M * 1000000)) (fun x hx => hs x (List.mem_cons_of_mem _ hx)) (mul_ne h0 s1.ne) (mul_sm h s1.sm (by omega)) (by omega)
    rw [List.foldl_cons, List.length_cons]
    refine ⟨fun q hq => ?_, by omega⟩
    have := i1 q hq
    show SM (D * (DS s * DD ss)) _ q
    rw [← Int.mul_assoc]
    refine this.mono (Nat.le_of_eq ?_)
    unfold Mt
    rw [Nat.pow_succ]
    grind
theorem tog_sm {ss : List (List Rat)} (hs : ∀ s ∈ ss, Sect s) (hl : ss.length ≤ 4) : (∀ q ∈ tog ss, SM (DD ss) (2 ^ 100) q) ∧ 0 < (tog ss).length ∧ (tog ss).length ≤ 29 := by
  obtain ⟨h1, h2⟩ := fold_sm ss [1] 1 1 hs (fun z => nomatch z) (fun q hq => by rw [List.mem_singleton.mp hq]; exact ⟨1, by decide +kernel, by decide⟩) (by show 1 + 7 * ss.length ≤ 32; omega)
  refine ⟨fun q hq => ?_, pos_len (tog_ne ss [1] (fun z => nomatch z) fun s h => (hs s h).ne), Nat.le_trans h2 (by show 1 + 7 * ss.length ≤ 29; omega)⟩
  have := h1 q hq
  rw [Int.one_mul, Nat.one_mul] at this
  exact this.mono (Nat.le_trans (Nat.pow_le_pow_right (by decide) hl) (by decide))
theorem bnd_sm {D : Int} {qs : List Rat} (h : ∀ q ∈ qs, SM D (2 ^ 110) q) (h0 : D ≠ 0) (h1 : D.natAbs ≤ 2 ^ 642) : Bnd D (2 ^ 110 * D.natAbs) qs := by
  have e : (2 : Nat) ^ 110 * 2 ^ 642 = 2 ^ 752 := by decide +kernel
  have := Nat.mul_le_mul_left (2 ^ 110) h1
  exact ⟨h0, Nat.lt_of_le_of_lt h1 (by decide +kernel), Nat.lt_of_le_of_lt (by rw [e] at this; exact this) (by decide +kernel), h⟩
theorem DD_640 {ss : List (List Rat)} (hs : ∀ s ∈ ss, Sect s) (hl : ss.length ≤ 4) : (DD ss).natAbs ≤ 2 ^ 640 :=
  Nat.le_trans (DD_le ss hs) (Nat.pow_le_pow_right (by decide) (by omega))
theorem tog_bnd {ss : List (List Rat)} (hs : ∀ s ∈ ss, Sect s) (hl : ss.length ≤ 4) : Bnd (DD ss) (2 ^ 110 * (DD ss).natAbs) (tog ss) :=
  bnd_sm (fun q hq => ((tog_sm hs hl).1 q hq).mono (by decide +kernel)) (by have := DD_pos ss; omega) (Nat.le_trans (DD_640 hs hl) (by decide +kernel))

end E1

namespace E1
open PySem PySem.Spec PyProof.Rows L2

theorem iteC {c d : Bool} {A B : Prop} (e : c = d) (h : if d = true then A else B) : if c = true then A else B := e ▸ h
/-! ### lists of rows of fractions -/
def SeL (H : Hp) (vs : List V) (ss : List (List Rat)) : Prop := vs.length = ss.length ∧ ∀ (i : Nat) (s : List Rat), ss[i]? = some s → ∃ b, vs[i]? = some (.ref b) ∧ FrL H b s
theorem SeL.same {H H' : Hp} {vs : List V} {ss : List (List Rat)} (h : SeL H vs ss) (s : Same H H') : SeL H' vs ss := ⟨h.1, fun i x e => let ⟨b, e1, f⟩ := h.2 i x e; ⟨b, e1, f.same s⟩⟩
theorem SeL.get {H : Hp} {vs : List V} {ss : List (List Rat)} (h : SeL H vs ss) {i : Nat} {v : V} (e : vs[i]? = some v) : ∃ b s, v = .ref b ∧ ss[i]? = some s ∧ FrL H b s := by
  have hi := (List.getElem?_eq_some_iff.mp e).1
  have e2 : ss[i]? = some (ss[i]'(by rw [← h.1]; exact hi)) := List.getElem?_eq_getElem _
  obtain ⟨b, e3, f⟩ := h.2 i _ e2
  rw [e] at e3
  cases e3
  exact ⟨b, _, rfl, e2, f⟩
theorem SeL.app {H : Hp} {vs us : List V} {ss ts : List (List Rat)} (h : SeL H vs ss) (g : SeL H us ts) : SeL H (vs ++ us) (ss ++ ts) := by
  refine ⟨by rw [List.length_append, List.length_append, h.1, g.1], fun i s e => ?_⟩
  by_cases c : i < ss.length
  · rw [List.getElem?_append_left c] at e
    rw [List.getElem?_append_left (by rw [h.1]; exact c)]
    exact h.2 i s e
  · rw [List.getElem?_append_right (by omega)] at e
    rw [List.getElem?_append_right (by rw [h.1]; omega), h.1]
    exact g.2 _ s e
theorem SeL.one {H : Hp} {b : Addr} {s : List Rat} (h : FrL H b s) : SeL H [.ref b] [s] := by
  refine ⟨rfl, fun i t e => ?_⟩
  match i with
  | 0 => cases e; exact ⟨b, rfl, h⟩
  | i + 1 => cases e
theorem SeL.drop {H : Hp} {vs : List V} {ss : List (List Rat)} (h : SeL H vs ss) (n : Nat) : SeL H (vs.drop n) (ss.drop n) := by
  refine ⟨by rw [List.length_drop, List.length_drop, h.1], fun i s e => ?_⟩
  rw [List.getElem?_drop] at e ⊢
  exact h.2 _ s e
theorem SeL.take {H : Hp} {vs : List V} {ss : List (List Rat)} (h : SeL H vs ss) (n : Nat) : SeL H (vs.take n) (ss.take n) := by
  refine ⟨by rw [List.length_take, List.length_take, h.1], fun i s e => ?_⟩
  rw [List.getElem?_take] at e ⊢
  split at e
  · rw [if_pos (by assumption)]
    exact h.2 _ s e
  · cases e
theorem SeL.rev {H : Hp} {vs : List V} {ss : List (List Rat)} (h : SeL H vs ss) : SeL H vs.reverse ss.reverse := by
  refine ⟨by rw [List.length_reverse, List.length_reverse, h.1], fun i s e => ?_⟩
  have hi := (List.getElem?_eq_some_iff.mp e).1
  rw [List.length_reverse] at hi
  rw [List.getElem?_reverse hi] at e
  rw [List.getElem?_reverse (by rw [h.1]; exact hi), h.1]
  exact h.2 _ s e
/-- a list of rows is no row -/
theorem SeL.apart {H : Hp} {vs us : List V} {ss : List (List Rat)} {D b : Addr} {s : List Rat} (h : SeL H us ss) (hD : H D = some (.lst us)) (hb : FrL H b s) (s0 : s ≠ []) : b ≠ D := fun e => by
  obtain ⟨ws, h1, h2⟩ := hb
  rw [e, hD] at h1
  cases h1
  have l := FrsAt.len h2
  have p0 : 0 < ss.length := by
    rw [← h.1, l]
    exact pos_len s0
  obtain ⟨c, e1, vs', e2, _⟩ := h.2 0 _ (List.getElem?_eq_getElem p0)
  obtain ⟨p, q, e3, _, e4⟩ := FrsAt.get h2 e1
  cases e3
  rw [show H c = some (.tup [.int q.num, .int (q.den : Int)]) from e4] at e2
  cases e2
theorem FrL.but {H H' : Hp} {D b : Addr} {us : List V} {s : List Rat} (h : FrL H b s) (n : b ≠ D) (t : SameBut D H H') (hD : H D = some (.lst us)) : FrL H' b s := by
  obtain ⟨vs, e, r⟩ := h
  exact ⟨vs, t _ _ n e, PrsAt.but r t hD⟩
theorem SeL.but {H H' : Hp} {D : Addr} {us vs : List V} {ss ts : List (List Rat)} (h : SeL H vs ts) (g : SeL H us ss) (hD : H D = some (.lst us)) (t0 : ∀ t ∈ ts, t ≠ []) (t : SameBut D H H') : SeL H' vs ts :=
  ⟨h.1, fun i s e => let ⟨b, e1, f⟩ := h.2 i s e; ⟨b, e1, f.but (g.apart (vs := vs) hD f (t0 _ (List.mem_of_getElem? e))) t hD⟩⟩
/-! ### the sums of the sizes -/
def aR (q : Rat) : Rat := if q.num < 0 then -q else q
theorem aR_pr (q : Rat) : pr (aR q) = ((if q.num < 0 then -q.num else q.num), (q.den : Int)) := by
  unfold aR pr
  split
  · rw [Rat.neg_num, Rat.neg_den]
  · rfl
def absS (qs : List Rat) : Rat := sumR (qs.map aR)
theorem aR_sm {D : Int} {M : Nat} {q : Rat} (h : SM D M q) : SM D M (aR q) := by
  unfold aR
  split
  · exact h.neg
  · exact h
theorem absS_sm {D : Int} {M : Nat} {qs : List Rat} (h : ∀ q ∈ qs, SM D M q) : SM D (qs.length * M) (absS qs) := by
  have := sum_sm (D := D) (M := M) (qs.map aR) fun q hq => by
    obtain ⟨r, hr, rfl⟩ := List.mem_map.mp hq
    exact aR_sm (h r hr)
  rw [List.length_map] at this
  exact this
theorem num_div (q : Rat) : Rat.divInt (pr q).1 (pr q).2 = q := Rat.num_divInt_den q
theorem sum_clear {c : Int} {qs : List Rat} (hc : c ≠ 0) (h : ∀ q ∈ qs, (q.den : Int) ∣ c) : Rat.divInt (tops c (qs.map pr)).sum c = sumR qs := by
  have := clear_q c hc (qs.map pr) fun p hp => by
    obtain ⟨q, hq, rfl⟩ := List.mem_map.mp hp
    exact ⟨den_ge q, h q hq⟩
  rw [List.map_map, show ((fun p : Int × Int => Rat.divInt p.1 p.2) ∘ pr) = id from funext num_div, List.map_id] at this
  exact div_is hc this
/-- the tops of the sizes -/
theorem tops_abs {c : Int} (hc : 0 < c) : ∀ qs : List Rat, (∀ q ∈ qs, (q.den : Int) ∣ c) → (tops c (qs.map pr)).map (fun t => if t < 0 then -t else t) = tops c ((qs.map aR).map pr)
  | [], _ => rfl
  | q :: qs, h => by
    have i := tops_abs hc qs fun x hx => h x (List.mem_cons_of_mem _ hx)
    have d0 := den_ge q
    have k0 : 0 < c / (q.den : Int) := Int.ediv_pos_of_pos_of_dvd hc (Int.le_of_lt d0) (h q List.mem_cons_self)
    unfold tops at i ⊢
    rw [List.map_cons, List.map_cons, List.map_cons, List.map_cons, List.map_cons, List.map_cons, i, aR_pr]
    congr 1
    show (if q.num * (c / (q.den : Int)) < 0 then -(q.num * (c / (q.den : Int))) else q.num * (c / (q.den : Int))) = (if q.num < 0 then -q.num else q.num) * (c / (q.den : Int))
    generalize c / (q.den : Int) = k at *
    by_cases n : q.num < 0
    · rw [if_pos n, if_pos (Int.mul_neg_of_neg_of_pos n k0), Int.neg_mul]
    · rw [if_neg n, if_neg (Int.not_lt.mpr (Int.mul_nonneg (by omega) (by omega)))]
/-! ### shifts -/
def fitB (m l : Int) (S : Rat) (t : Nat) : Bool := decide (m * S.num ≤ l * (S.den : Int) * 2 ^ t)
def Least (p : Nat → Bool) (s t : Nat) : Prop := s ≤ t ∧ p t = true ∧ ∀ j, s ≤ j → j < t → p j = false
theorem Least.uniq {p : Nat → Bool} {s t u : Nat} (h : Least p s t) (g : Least p s u) : t = u := by
  rcases Nat.lt_trichotomy t u with z | z | z
  · have := g.2.2 t h.1 z
    rw [h.2.1] at this
    cases this
  · exact z
  · have := h.2.2 u g.1 z
    rw [g.2.1] at this
    cases this
def lsh (p : Nat → Bool) : Nat → Nat → Nat
  | 0, t => t
  | f + 1, t => if p t = true then t else lsh p f (t + 1)
theorem lsh_ok {p : Nat → Bool} {T : Nat} (hT : p T = true) : ∀ f s, s ≤ T → T ≤ s + f → Least p s (lsh p f s) ∧ lsh p f s ≤ T
  | 0, s, h, g => by
    have : s = T := by omega
    subst this
    exact ⟨⟨Nat.le_refl _, hT, fun j a b => absurd (Nat.lt_of_le_of_lt a b) (Nat.lt_irrefl _)⟩, Nat.le_refl _⟩
  | f + 1, s, h, g => by
    unfold lsh
    by_cases c : p s = true
    · rw [if_pos c]
      exact ⟨⟨Nat.le_refl _, c, fun j a b => absurd (Nat.lt_of_le_of_lt a b) (Nat.lt_irrefl _)⟩, h⟩
    · rw [if_neg c]
      have : s ≠ T := fun z => c (z ▸ hT)
      obtain ⟨⟨a1, a2, a3⟩, a4⟩ := lsh_ok hT f (s + 1) (by omega) (by omega)
      refine ⟨⟨by omega, a2, fun j h1 h2 => ?_⟩, a4⟩
      by_cases e : j = s
      · rw [e]
        exact Bool.not_eq_true _ ▸ c
      · exact a3 j (by omega) h2
def tot (m l : Int) (S : Nat → Rat) : Nat → Nat
  | 0 => 0
  | i + 1 => lsh (fitB m l (S i)) 160 (tot m l S i)
theorem fit_160 {m l : Int} {S : Rat} (hm : m ≤ 1000000000000) (hm0 : 0 < m) (hl : 1 ≤ l) (hS : S.num.natAbs ≤ 2 ^ 110 * S.den) : fitB m l S 160 = true := by
  have d0 := den_ge S
  have e1 : m * S.num ≤ 1000000000000 * (2 ^ 110 * (S.den : Int)) := by
    refine Int.le_trans (Int.mul_le_mul_of_nonneg_left (show S.num ≤ 2 ^ 110 * (S.den : Int) by omega) (by omega)) (Int.mul_le_mul_of_nonneg_right hm (Int.mul_nonneg (by decide) (by omega)))
  have e2 : 1 * (S.den : Int) * 2 ^ 160 ≤ l * (S.den : Int) * 2 ^ 160 := Int.mul_le_mul_of_nonneg_right (Int.mul_le_mul_of_nonneg_right hl (by omega)) (by decide)
  refine decide_eq_true (Int.le_trans e1 (Int.le_trans ?_ e2))
  generalize (S.den : Int) = d at *
  have e3 : (1000000000000 : Int) * 2 ^ 110 ≤ 2 ^ 160 := by decide +kernel
  rw [← Int.mul_assoc, Int.one_mul, Int.mul_comm d]
  exact Int.mul_le_mul_of_nonneg_right e3 (by omega)
theorem tot_ok {m l : Int} {S : Nat → Rat} {n : Nat} (hS : ∀ i, i < n → fitB m l (S i) 160 = true) : ∀ i, i ≤ n → tot m l S i ≤ 160 ∧ ∀ j, j < i → Least (fitB m l (S j)) (tot m l S j) (tot m l S (j + 1))
  | 0, _ => ⟨by show 0 ≤ 160; decide, fun j h => absurd h (Nat.not_lt_zero _)⟩
  | i + 1, hi => by
    obtain ⟨a, b⟩ := tot_ok hS i (by omega)
    obtain ⟨c, d⟩ := lsh_ok (hS i (by omega)) 160 (tot m l S i) a (by omega)
    refine ⟨d, fun j hj => ?_⟩
    by_cases e : j = i
    · rw [e]
      exact c
    · exact b j (by omega)

end E1

namespace E1
open PySem PySem.Spec PyProof.Rows L2

def spSec : Sp := fun vs H Q _ => ∃ (a : Addr) (qs : List Rat), vs = [.ref a] ∧ FrL H a qs ∧ Sect qs ∧ ∀ H', Same H H' → Q (.bl true) H'
def spSz : Sp := fun vs H Q _ => ∃ n : Int, vs = [.int n] ∧ 1 ≤ n ∧ n ≤ 1000000000000 ∧ Q (.bl true) H
def spChkC : Sp := fun vs H Q _ => ∃ (a : Addr) (ws : List V) (ss : List (List Rat)) (m l : Int), vs = [.ref a, .int m, .int l] ∧ H a = some (.lst ws) ∧ SeL H ws ss ∧ (∀ s ∈ ss, Sect s) ∧ 0 < ss.length ∧ ss.length ≤ 4 ∧ (1 ≤ m ∧ m ≤ 1000000000000) ∧ (1 ≤ l ∧ l ≤ 1000000000000) ∧ ∀ H', Same H H' → Q .non H'
section
variable {P : Program} {w : World} {K : PySem.W.Frag} {mg : Str → Option Value} {base : Heap}
theorem sc_is_section : FnScope ["thing", "top", "bottom"] ["thing"] (defScope s_is_section) := ⟨rfl, rfl, rfl, by decide +kernel, rfl, by decide +kernel, by decide +kernel⟩
theorem ok_is_section {f : Addr} {fd : FuncData} (F : Fun K "is_section" "is_section" s_is_section f fd) (z : Zs mg) (tP : Tok) (g_MOST_PLACES : mg "MOST_PLACES" = some (.int 8 tP)) (tG : Tok) (g_GREATEST_PART : mg "GREATEST_PART" = some (.int 1000000 tG)) (c_is_fractions : Cal P w K mg base 3 "is_fractions" ["thing"] spIsFrs) : FnOk P w K mg base CX0 4 f fd ["thing"] spSec := by
  refine F.ok sc_is_section (fun vs H Q E h => ?_) (fun cdv A outer s H vs Q E hr h => ?_)
  · obtain ⟨a, qs, rfl, _⟩ := h
    rfl
  · obtain ⟨a, qs, rfl, hq, hS, k⟩ := h
    refine ⟨_, (pss_cons (ps_if (PW.pt (pw_or (pt_not (pt_val (pe_cal c_is_fractions hr (pa_cons (pv 0) pa_nil)))) (pw_or1 (pt_not (pt_chain op_le op_le pe_int (pe_callB call_len_seq (by rfl) z.len PySem.boot_len (pa_cons (pv 0) pa_nil)) (pe_glob (v := .int 8) (by rfl) g_MOST_PLACES ⟨_, rfl⟩)))))) (pss_one (ps_ret pe_bl)) pss_nil)
      (pss_one (ps_ret (pe_callB (cr_all rfl) (by rfl) z.all (by decide +kernel) (pa_cons (pe_lc (own := [("top", 1), ("bottom", 2)]) (g := gTup K 2 (gCons (gName 1) (gCons (gName 2) gNil))) (tt := tYes) (te := (tAndV (tOp (rI0 fun i j => V.bl (decide (i ≤ j))) (tCB (fun xs H Q => ∃ i, xs = [V.int i] ∧ Q (.int (if i < 0 then -i else i)) H) (tCons (tVar 1) tNil)) (tC (.int 1000000))) (tOp (rI0 fun i j => V.bl (decide (i ≤ j))) (tVar 2) (tC (.int 1000000))))) (by rfl) sc_is_section.nd (pi_list (pv 0)) (blkOk_by (own := [("top", 1), ("bottom", 2)]) (N := ["thing", "top", "bottom"]) (sc := defScope s_is_section) (by decide +kernel)) (fun _ _ _ _ _ => by exact (pg_tup (by rfl) (pgs_cons (pg_name (i := 1) sc_is_section.nd rfl (.inl rfl)) (pgs_cons (pg_name (i := 2) sc_is_section.nd rfl (.inl rfl)) pgs_nil)))) (fun _ _ _ _ _ => by exact pts_nil) (fun _ _ _ _ _ => by exact (pe_and (pe_cmpR op_le (pe_callB call_abs (by rfl) z.abs (by decide +kernel) (pa_cons (pv 1) pa_nil)) (pe_glob (v := .int 1000000) (by rfl) g_GREATEST_PART ⟨_, rfl⟩) (nomark _)) (pe_one (pe_cmpR op_le (pv 2) (pe_glob (v := .int 1000000) (by rfl) g_GREATEST_PART ⟨_, rfl⟩) (nomark _)))))) pa_nil))))), ?_⟩
    refine ⟨_, rfl, a, qs, rfl, hq, by have := hS.2.1; omega, fun H1 s1 => ⟨_, rfl, iteF ?_⟩⟩
    obtain ⟨vs, ha, lv, hv⟩ := (hq.same s1).len
    obtain ⟨e1, e2, e3⟩ := hS
    refine ⟨_, rfl, a, vs, rfl, .inl (SqL.of ha), _, _, rfl, rfl, _, rfl, iteC (d := true) (decide_eq_true (by omega)) (iteT ⟨_, _, rfl, rfl, _, rfl, iteC (d := false) (congrArg not (decide_eq_true (by omega))) (iteF ?_)⟩)⟩
    refine ⟨_, rfl, a, rfl, ⟨_, SqL.of ha⟩, fun D hD => lc_list (K := K) (a := a) (xs := vs) (fun i G => Same H1 G ∧ G D = some (.lst ((List.replicate i true).map V.bl))) ⟨same_new hD, upd_same⟩ (fun i G _ hP => SqL.of (hP.1 _ _ ha)) (fun i x G hx hP => ?_) (fun G hP => ?_)⟩
    · obtain ⟨sG, hacc⟩ := hP
      obtain ⟨p, q, rfl, hqx, hp⟩ := FrsAt.get hv hx
      have li := (List.getElem?_eq_some_iff.mp hqx).1
      obtain ⟨f1, f2⟩ := e3 q (List.mem_of_getElem? hqx)
      refine ⟨p, _, rfl, SqT.of (sG _ _ hp), rfl, _, _, rfl, _, _, rfl, rfl, rfl, ?_⟩
      refine ⟨_, rfl, _, rfl, _, _, rfl, rfl, _, rfl, iteC (d := true) (decide_eq_true (by split <;> omega)) (iteT ⟨_, rfl, _, _, rfl, rfl, ?_⟩)⟩
      have e9 : decide ((q.den : Int) ≤ 1000000) = true := decide_eq_true (by omega)
      refine ⟨_, hacc, ?_, fun b o e => ?_, ?_⟩
      · rw [List.length_map, List.length_replicate]
        exact small1000 (by omega)
      · rw [upd_ne (ne_of_none e hD)]
        exact sG _ _ e
      · rw [upd_same, List.replicate_succ', List.map_append]
        show some (HO.lst (_ ++ [V.bl (decide ((q.den : Int) ≤ 1000000))])) = _
        rw [e9]
        rfl
    · obtain ⟨sG, hacc⟩ := hP
      exact ⟨D, List.replicate _ true, rfl, SqL.of hacc, by rw [rep_all]; exact k _ (s1.trans sG)⟩
theorem sc_is_size : FnScope ["thing"] ["thing"] (defScope s_is_size) := ⟨rfl, rfl, rfl, by decide +kernel, rfl, by decide +kernel, by decide +kernel⟩
theorem ok_is_size {f : Addr} {fd : FuncData} (F : Fun K "is_size" "is_size" s_is_size f fd) (tS : Tok) (g_GREATEST_SIZE : mg "GREATEST_SIZE" = some (.int 1000000000000 tS)) (c_is_whole : Cal P w K mg base 1 "is_whole" ["thing"] (spWhole K)) : FnOk P w K mg base CX0 2 f fd ["thing"] spSz := by
  refine F.ok sc_is_size (fun vs H Q E h => ?_) (fun cdv A outer s H vs Q E hr h => ?_)
  · obtain ⟨n, rfl, _⟩ := h
    rfl
  · obtain ⟨n, rfl, h1, h2, k⟩ := h
    refine ⟨_, (pss_one (ps_ret (pe_and (pe_cal c_is_whole hr (pa_cons (pv 0) pa_nil)) (pe_one (pe_chain op_le op_le pe_int (pv 0) (pe_glob (v := .int 1000000000000) (by rfl) g_GREATEST_SIZE ⟨_, rfl⟩)))))), ?_⟩
    refine ⟨_, rfl, _, true, rfl, .int _, _, rfl, iteT ?_⟩
    refine ⟨_, rfl, _, _, rfl, rfl, _, rfl, iteC (d := true) (decide_eq_true h1) (iteT ⟨_, _, rfl, rfl, ?_⟩)⟩
    show Q (.bl (decide (n ≤ 1000000000000))) H
    rw [decide_eq_true h2]
    exact k
theorem sc_check_chain : FnScope ["sections", "most", "limit", "section"] ["sections", "most", "limit"] (defScope s_check_chain) := ⟨rfl, rfl, rfl, by decide +kernel, rfl, by decide +kernel, by decide +kernel⟩
theorem ok_check_chain {f : Addr} {fd : FuncData} (F : Fun K "check_chain" "check_chain" s_check_chain f fd) (z : Zs mg) (tN : Tok) (g_MOST_SECTIONS : mg "MOST_SECTIONS" = some (.int 4 tN)) (c_is_section : Cal P w K mg base 4 "is_section" ["thing"] spSec) (c_is_size : Cal P w K mg base 2 "is_size" ["thing"] spSz) : FnOk P w K mg base CX0 5 f fd ["sections", "most", "limit"] spChkC := by
  refine F.ok sc_check_chain (fun vs H Q E h => ?_) (fun cdv A outer s H vs Q E hr h => ?_)
  · obtain ⟨a, ws, ss, m, l, rfl, _⟩ := h
    rfl
  · obtain ⟨a, ws, ss, m, l, rfl, ha, hs, sec, n0, n4, hm, hl, k⟩ := h
    refine ⟨_, (pss_cons (ps_if (PW.pt (pw_or (pt_not (pt_val (pe_callB call_isi (by rfl) z.isinstance (by decide +kernel) (pa_cons (pv 0) (pa_cons (pe_bltn (v := .ty "list") (by rfl) z.list (by decide +kernel) rfl) pa_nil))))) (pw_or1 (pt_not (pt_chain op_le op_le pe_int (pe_callB call_len_seq (by rfl) z.len PySem.boot_len (pa_cons (pv 0) pa_nil)) (pe_glob (v := .int 4) (by rfl) g_MOST_SECTIONS ⟨_, rfl⟩)))))) (pss_one ps_never) pss_nil)
      (pss_cons (ps_if (pt_not (pt_val (pe_callB (cr_all rfl) (by rfl) z.all (by decide +kernel) (pa_cons (pe_lc (own := [("section", 3)]) (g := gName 3) (tt := tYes) (te := (tCall spSec [] E0 (tCons (tVar 3) tNil))) (by rfl) sc_check_chain.nd (pi_list (pv 0)) (blkOk_by (own := [("section", 3)]) (N := ["sections", "most", "limit", "section"]) (sc := defScope s_check_chain) (by decide +kernel)) (fun _ _ _ _ _ => by exact (pg_name (i := 3) sc_check_chain.nd rfl (.inl rfl))) (fun _ _ _ _ _ => by exact pts_nil) (fun _ _ _ _ _ => by exact (pe_cal c_is_section hr (pa_cons (pv 3) pa_nil)))) pa_nil)))) (pss_one ps_never) pss_nil)
      (pss_one (ps_if (PW.pt (pw_or (pt_not (pt_val (pe_cal c_is_size hr (pa_cons (pv 1) pa_nil)))) (pw_or1 (pt_not (pt_val (pe_cal c_is_size hr (pa_cons (pv 2) pa_nil))))))) (pss_one ps_never) pss_nil)))), ?_⟩
    refine ⟨_, rfl, _, .ty "list", _, _, true, rfl, .ty _, .base (.lst ha), kit_ty (by decide +kernel), _, rfl, iteF ?_⟩
    have lw := hs.1
    refine ⟨_, rfl, a, ws, rfl, .inl (SqL.of ha), _, _, rfl, rfl, _, rfl, iteC (d := true) (decide_eq_true (by omega)) (iteT ⟨_, _, rfl, rfl, _, rfl, iteC (d := false) (congrArg not (decide_eq_true (by omega))) (iteF ?_)⟩)⟩
    refine ⟨_, rfl, a, rfl, ⟨_, SqL.of ha⟩, fun D hD => lc_list (K := K) (a := a) (xs := ws) (fun i G => Same H G ∧ G D = some (.lst ((List.replicate i true).map V.bl))) ⟨same_new hD, upd_same⟩ (fun i G _ hP => SqL.of (hP.1 _ _ ha)) (fun i x G hx hP => ?_) (fun G hP => ?_)⟩
    · obtain ⟨sG, hacc⟩ := hP
      obtain ⟨b, s', rfl, hqx, hp⟩ := hs.get hx
      have li := (List.getElem?_eq_some_iff.mp hqx).1
      refine ⟨rfl, _, rfl, b, s', rfl, hp.same sG, sec _ (List.mem_of_getElem? hqx), fun G2 s2 => ?_⟩
      refine ⟨_, s2 _ _ hacc, ?_, fun b o e => ?_, ?_⟩
      · rw [List.length_map, List.length_replicate]
        exact small1000 (by omega)
      · rw [upd_ne (ne_of_none e hD)]
        exact s2 _ _ (sG _ _ e)
      · rw [upd_same, List.replicate_succ', List.map_append]
        rfl
    · obtain ⟨sG, hacc⟩ := hP
      refine ⟨D, List.replicate _ true, rfl, SqL.of hacc, ?_⟩
      rw [rep_all]
      refine ⟨_, rfl, iteF ?_⟩
      refine ⟨_, rfl, m, rfl, hm.1, hm.2, _, rfl, iteF ⟨_, rfl, l, rfl, hl.1, hl.2, _, rfl, iteF (k _ sG)⟩⟩
end
end E1

namespace E1
open PySem PySem.Spec PyProof.Rows L2

/-- a row with its bounds -/
def Sm (qs : List Rat) : Prop := ∃ D : Int, D ≠ 0 ∧ D.natAbs ≤ 2 ^ 642 ∧ qs.length ≤ 40 ∧ ∀ q ∈ qs, SM D (2 ^ 100) q
theorem Sm.tog {ss : List (List Rat)} (hs : ∀ s ∈ ss, Sect s) (hl : ss.length ≤ 4) : Sm (tog ss) := by
  obtain ⟨a, b, c⟩ := tog_sm hs hl
  exact ⟨DD ss, by have := DD_pos ss; omega, Nat.le_trans (DD_640 hs hl) (by decide +kernel), by omega, a⟩
theorem Sm.btm {qs : List Rat} (h : Sm qs) : ∃ D, Btm D (qs.map pr) := by
  obtain ⟨D, h0, h1, _, h3⟩ := h
  refine ⟨D, h0, Nat.lt_of_le_of_lt h1 (by decide +kernel), fun p hp => ?_⟩
  obtain ⟨q, hq, rfl⟩ := List.mem_map.mp hp
  refine ⟨den_ge q, Sc.den (h3 q hq), ?_⟩
  have := Sc.num (h3 q hq) h0
  have e : (2 : Nat) ^ 100 * 2 ^ 642 = 2 ^ 742 := by decide +kernel
  have := Nat.mul_le_mul_left (2 ^ 100) h1
  rw [e] at this
  exact Nat.lt_of_le_of_lt (Nat.le_trans (by assumption) this) (by decide +kernel)
theorem Sm.abs {qs : List Rat} (h : Sm qs) : ∃ D : Int, D ≠ 0 ∧ D.natAbs ≤ 2 ^ 642 ∧ SM D (2 ^ 110) (absS qs) := by
  obtain ⟨D, h0, h1, h2, h3⟩ := h
  refine ⟨D, h0, h1, (absS_sm h3).mono (Nat.le_trans (Nat.mul_le_mul_right _ h2) (by decide +kernel))⟩
def spSzs : Sp := fun vs H Q _ => ∃ (a : Addr) (qs : List Rat), vs = [.ref a] ∧ FrL H a qs ∧ Sm qs ∧ ∀ p H', H p = none → Same H H' → Fr H' p (absS qs) → Q (.ref p) H'
theorem take_one {α : Type} {xs : List α} (h : 0 < xs.length) : xs.take (0 + 1) = [xs[0]] := by
  cases xs with
  | nil => cases h
  | cons x xs => rfl
theorem atI_end {α : Type} {xs : List α} {n : Nat} {v : α} (h : xs[n]? = some v) (hn : xs.length = n + 1) : atI xs (-1) = some v := by
  obtain ⟨lt, e⟩ := List.getElem?_eq_some_iff.mp h
  have d : xs.drop n = [v] := by
    rw [List.drop_eq_getElem_cons lt, e, List.drop_of_length_le (by omega)]
  rw [← List.take_append_drop n xs, d]
  exact atI_last _ _
theorem cut_from {vs : List V} {n : Nat} (h : n ≤ vs.length) : cutV vs (some (n : Int)) none = vs.drop n := by
  unfold cutV
  rw [HT.sIx_none, HT.sIx_nat, Nat.min_eq_left h, List.take_of_length_le (by rw [List.length_drop]; exact Nat.le_refl _)]
theorem take_more {α : Type} {xs : List α} {n : Nat} {x : α} (h : xs[n]? = some x) : xs.take (n + 1) = xs.take n ++ [x] := by
  rw [List.take_succ, h]
  rfl
/-- the products of the first one, the first two, and so on -/
def pre (ss : List (List Rat)) (n : Nat) : List (List Rat) := (List.range n).map fun i => tog (ss.take (i + 1))
theorem pre_len (ss : List (List Rat)) (n : Nat) : (pre ss n).length = n := by
  unfold pre
  rw [List.length_map, List.length_range]
theorem pre_succ (ss : List (List Rat)) (n : Nat) : pre ss (n + 1) = pre ss n ++ [tog (ss.take (n + 1))] := by
  unfold pre
  rw [List.range_succ, List.map_append]
  rfl
theorem pre_at {ss : List (List Rat)} {n i : Nat} (h : i < n) : (pre ss n)[i]? = some (tog (ss.take (i + 1))) := by
  unfold pre
  rw [List.getElem?_map, List.getElem?_range h]
  rfl
theorem pre_mem {ss : List (List Rat)} {n : Nat} {s : List Rat} (h : s ∈ pre ss n) : ∃ i, i < n ∧ s = tog (ss.take (i + 1)) := by
  obtain ⟨i, hi, rfl⟩ := List.mem_map.mp h
  exact ⟨i, List.mem_range.mp hi, rfl⟩
theorem take_sect {ss : List (List Rat)} (h : ∀ s ∈ ss, Sect s) (n : Nat) : ∀ s ∈ ss.take n, Sect s := fun s hs => h s (List.mem_of_mem_take hs)
theorem pre_ne {ss : List (List Rat)} (hs : ∀ s ∈ ss, Sect s) {n : Nat} : ∀ s ∈ pre ss n, s ≠ [] := fun s h => by
  obtain ⟨i, _, rfl⟩ := pre_mem h
  exact tog_ne _ [1] (fun z => nomatch z) fun x hx => (take_sect hs _ x hx).ne
def spProds : Sp := fun vs H Q _ => ∃ (a : Addr) (ws : List V) (ss : List (List Rat)), vs = [.ref a] ∧ H a = some (.lst ws) ∧ SeL H ws ss ∧ (∀ s ∈ ss, Sect s) ∧ 0 < ss.length ∧ ss.length ≤ 4 ∧
  ∀ p us H', H p = none → Same H H' → H' p = some (.lst us) → SeL H' us (pre ss ss.length) → Q (.ref p) H'
section
variable {P : Program} {w : World} {K : PySem.W.Frag} {mg : Str → Option Value} {base : Heap}
theorem sc_sizes_of_all : FnScope ["series", "tops", "bottom", "top"] ["series"] (defScope s_sizes_of_all) := ⟨rfl, rfl, rfl, by decide +kernel, rfl, by decide +kernel, by decide +kernel⟩
theorem ok_sizes_of_all {f : Addr} {fd : FuncData} (F : Fun K "sizes_of_all" "sizes_of_all" s_sizes_of_all f fd) (z : Zs mg) (c_cleared : Cal P w K mg base 3 "cleared" ["pairs"] spCleared) (c_lowest : Cal P w K mg base 2 "lowest" ["top", "bottom"] spLow) : FnOk P w K mg base CX0 4 f fd ["series"] spSzs := by
  refine F.ok sc_sizes_of_all (fun vs H Q E h => ?_) (fun cdv A outer s H vs Q E hr h => ?_)
  · obtain ⟨a, qs, rfl, _⟩ := h
    rfl
  · obtain ⟨a, qs, rfl, hq, hS, k⟩ := h
    refine ⟨_, (pss_cons (ps_asg (pe_cal c_cleared hr (pa_cons (pv 0) pa_nil)) (pg_tup (by rfl) (pgs_cons (pg_name (i := 1) sc_sizes_of_all.nd rfl (.inl rfl)) (pgs_cons (pg_name (i := 2) sc_sizes_of_all.nd rfl (.inl rfl)) pgs_nil))))
      (pss_one (ps_ret (pe_cal c_lowest hr (pa_cons (pe_callB (cr_sum rfl) (by rfl) z.sum (by decide +kernel) (pa_cons (pe_lc (own := [("top", 3)]) (g := gName 3) (tt := tYes) (te := (tCB (fun xs H Q => ∃ i, xs = [V.int i] ∧ Q (.int (if i < 0 then -i else i)) H) (tCons (tVar 3) tNil))) (by rfl) sc_sizes_of_all.nd (pi_list (pv 1)) (blkOk_by (own := [("top", 3)]) (N := ["series", "tops", "bottom", "top"]) (sc := defScope s_sizes_of_all) (by decide +kernel)) (fun _ _ _ _ _ => by exact (pg_name (i := 3) sc_sizes_of_all.nd rfl (.inl rfl))) (fun _ _ _ _ _ => by exact pts_nil) (fun _ _ _ _ _ => by exact (pe_callB call_abs (by rfl) z.abs (by decide +kernel) (pa_cons (pv 3) pa_nil)))) pa_nil)) (pa_cons (pv 2) pa_nil)))))), ?_⟩
    obtain ⟨vs, ha, lv, hv⟩ := hq.len
    obtain ⟨Dm, bt⟩ := hS.btm
    obtain ⟨_, _, _, l40, _⟩ := hS
    obtain ⟨c0, cd, cp⟩ := bt.com
    refine ⟨_, rfl, a, vs, qs.map pr, Dm, rfl, ha, hv, bt, by rw [List.length_map]; omega, fun Tp l H2 S2 hTp hl2 => ?_⟩
    have cl := bt.lt c0 cd
    generalize com ((qs.map pr).map (·.2)) = cm at *
    have dvd : ∀ q ∈ qs, (q.den : Int) ∣ cm := fun q hq => cp _ (List.mem_map_of_mem hq)
    refine ⟨Tp, _, rfl, SqT.of hTp, rfl, _, _, rfl, _, _, rfl, rfl, ?_⟩
    refine ⟨_, rfl, l, rfl, ⟨_, SqL.of hl2⟩, fun R hR => lc_list (K := K) (a := l) (xs := (tops cm (qs.map pr)).map V.int) (fun i G => Same H2 G ∧ G R = some (.lst ((((tops cm (qs.map pr)).take i).map (fun t => if t < 0 then -t else t)).map V.int))) ⟨same_new hR, upd_same⟩ (fun i G _ hP => SqL.of (hP.1 _ _ hl2)) (fun i x G hx hP => ?_) (fun G hP => ?_)⟩
    · obtain ⟨sG, hacc⟩ := hP
      rw [List.getElem?_map] at hx
      obtain ⟨t, hxt, rfl⟩ := Option.map_eq_some_iff.mp hx
      have lt := (List.getElem?_eq_some_iff.mp hxt).1
      have ll : (tops cm (qs.map pr)).length = qs.length := by
        unfold tops
        rw [List.length_map, List.length_map]
      refine ⟨rfl, _, rfl, _, rfl, _, hacc, ?_, fun b o e => ?_, ?_⟩
      · rw [List.length_map, List.length_map, List.length_take]
        exact small1000 (by omega)
      · rw [upd_ne (ne_of_none e hR)]
        exact sG _ _ e
      · rw [upd_same, List.take_succ, hxt, Option.toList_some, List.map_append, List.map_append]
        rfl
    · obtain ⟨sG, hacc⟩ := hP
      rw [List.length_map, List.take_length, tops_abs c0 qs dvd] at hacc
      refine ⟨R, tops cm ((qs.map aR).map pr), rfl, SqL.of hacc, _, rfl, _, _, rfl, by omega, up cl (by decide), fun p hp => ?_⟩
      have SS := S2.trans sG
      refine k p _ (SS.free hp) (SS.trans (same_new hp)) (Fr.low (by omega) (sum_clear (qs := qs.map aR) (by omega) fun r hr => ?_) upd_same)
      obtain ⟨q, hq, rfl⟩ := List.mem_map.mp hr
      have := congrArg Prod.snd (aR_pr q)
      rw [show ((aR q).den : Int) = (q.den : Int) from this]
      exact dvd q hq
theorem sc_products_from : FnScope ["sections", "told", "section"] ["sections"] (defScope s_products_from) := ⟨rfl, rfl, rfl, by decide +kernel, rfl, by decide +kernel, by decide +kernel⟩
theorem ok_products_from {f : Addr} {fd : FuncData} (F : Fun K "products_from" "products_from" s_products_from f fd) (z : Zs mg) (c_product_of : Cal P w K mg base 7 "product_of" ["one", "other"] spProd) : FnOk P w K mg base CX0 8 f fd ["sections"] spProds := by
  refine F.ok sc_products_from (fun vs H Q E h => ?_) (fun cdv A outer s H vs Q E hr h => ?_)
  · obtain ⟨a, ws, ss, rfl, _⟩ := h
    rfl
  · obtain ⟨a, ws, ss, rfl, ha, hs, sec, n0, n4, k⟩ := h
    refine ⟨_, (pss_cons (ps_set (i := 1) sc_products_from.nd rfl (.inl rfl) (pe_lst (pa_cons (pe_ix ix_list (pv 0) pe_int (fun _ _ => rfl)) pa_nil)))
      (pss_cons (ps_for PassesOwn.never rfl (pi_list (pe_slice sl_list (pv 0) (po_some pe_int) po_none)) (pg_name (i := 2) sc_products_from.nd rfl (.inl rfl)) (pss_one (ps_expr (pe_bm PySem.F.plainAttrs_list PySem.F.slot_list_append PySem.F.type_list_append mt_append (pv 1) (pa_cons (pe_cal c_product_of hr (pa_cons (pe_ix ix_list (pv 1) (pe_un un_neg pe_int) (fun _ _ => rfl)) (pa_cons (pv 2) pa_nil))) pa_nil)))))
      (pss_one (ps_ret (pv 1))))), ?_⟩
    have lw := hs.1
    obtain ⟨b0, hb0, f0⟩ := hs.2 0 _ (List.getElem?_eq_getElem n0)
    have e1 : tog (ss.take (0 + 1)) = ss[0] := by
      rw [take_one n0]
      exact one_mul (sec _ (List.getElem_mem n0)).ne
    refine ⟨_, rfl, a, _, 0, .ref b0, rfl, rfl, SqL.of ha, atI_nat (j := 0) hb0, (by show 1 ≤ sizeLine; decide), fun l hl => ?_⟩
    have s1 := same_new (o := .lst [.ref b0]) hl
    refine ⟨_, rfl, _, rfl, a, _, rfl, SqL.of (s1 _ _ ha), fun p1 hp1 => ?_⟩
    rw [show cutV ws (some 1) none = ws.drop 1 from cut_from (n := 1) (by omega)]
    have s2 := same_new (o := .lst (ws.drop 1)) hp1
    have nl : l ≠ p1 := fun e => by
      rw [← e, upd_same] at hp1
      cases hp1
    refine ⟨p1, rfl, ⟨_, SqL.of upd_same⟩, for_list (K := K) (a := p1) (xs := ws.drop 1) (fun i σ G => Same H G ∧ G p1 = some (.lst (ws.drop 1)) ∧ ∃ us y, σ = [some (.ref a), some (.ref l), y] ∧ G l = some (.lst us) ∧ SeL G us (pre ss (i + 1))) ⟨s1.trans s2, upd_same, [.ref b0], none, rfl, s2 _ _ upd_same, ?_⟩ (fun i σ G _ hP => SqL.of hP.2.1) (fun i x σ G hx hP => ?_) (fun σ G hP => ?_)⟩
    · refine SeL.one ?_
      show FrL _ b0 (tog (ss.take (0 + 1)))
      rw [e1]
      exact (f0.same s1).same s2
    · obtain ⟨sG, hp, us, y, rfl, hus, se⟩ := hP
      rw [List.getElem?_drop] at hx
      obtain ⟨b, s', rfl, hs', fb⟩ := hs.get hx
      have li := (List.getElem?_eq_some_iff.mp hs').1
      have sc1 := sec s' (List.mem_of_getElem? hs')
      have lu := se.1
      rw [pre_len] at lu
      obtain ⟨bl, hbl, fbl⟩ := se.2 i _ (pre_at (Nat.lt_succ_self i))
      have st := take_sect sec (i + 1)
      have lt4 : (ss.take (i + 1)).length ≤ 4 := by rw [List.length_take]; omega
      obtain ⟨-, q1, q2⟩ := tog_sm st lt4
      have es : tog (ss.take (i + 1 + 1)) = mulL (tog (ss.take (i + 1))) s' := by
        rw [take_more (n := i + 1) (by rw [Nat.add_comm]; exact hs'), tog_snoc]
      have bs : Bnd (DS s') (2 ^ 110 * (DS s').natAbs) s' := bnd_sm (fun q hq => (sc1.sm q hq).mono (by decide +kernel)) (by have := DS_pos s'; omega) (Nat.le_trans sc1.ds (by decide +kernel))
      refine ⟨_, rfl, .inl ⟨rfl, _, SqL.of hus⟩, ?_⟩
      refine ⟨_, rfl, _, rfl, l, _, _, .ref bl, rfl, rfl, SqL.of hus, atI_end hbl lu, _, rfl, bl, b, _, s', _, _, _, _, rfl, fbl, fb.same sG, tog_bnd st lt4, bs, by omega, by have := sc1.2.1; omega, fun p G2 hp2 s3 f3 => ?_⟩
      have hus3 := s3 _ _ hus
      have nps : ∀ t ∈ pre ss (i + 1), t ≠ [] := pre_ne sec
      have m0 : mulL (tog (ss.take (i + 1))) s' ≠ [] := mul_ne (fun z => by rw [z] at q1; cases q1) sc1.ne
      have npl : p ≠ l := fun e => by
        rw [e, hus] at hp2
        cases hp2
      refine ⟨l, us, _, rfl, rfl, hus3, by have : us.length < 1000 := by omega
                                           exact small1000 (by omega), fun c o e => ?_, ?_, us ++ [.ref p], _, rfl, upd_same, ?_⟩
      · rw [upd_ne (ne_of_none e hl)]
        exact s3 _ _ (sG _ _ e)
      · rw [upd_ne nl.symm]
        exact s3 _ _ hp
      · rw [pre_succ, es]
        have se3 := se.same s3
        exact (se3.but se3 hus3 nps SameBut.upd).app (SeL.one (f3.but npl SameBut.upd hus3))
    · obtain ⟨sG, hp, us, y, rfl, hus, se⟩ := hP
      rw [List.length_drop, lw, show ss.length - 1 + 1 = ss.length by omega] at se
      exact ⟨_, rfl, k l us G hl sG hus se⟩
end
end E1

namespace E1
open PySem PySem.Spec PyProof.Rows L2

def beh (ss : List (List Rat)) : List Rat := (List.range ss.length).map fun i => absS (tog (ss.drop (i + 1)))
theorem absS_one : absS [1] = 1 := by decide +kernel
theorem beh_len (ss : List (List Rat)) : (beh ss).length = ss.length := by
  unfold beh
  rw [List.length_map, List.length_range]
theorem beh_rev {ss : List (List Rat)} {m : Nat} (hl : ss.length = m + 1) (hs : ∀ s ∈ ss, s ≠ []) : ((pre (ss.drop 1).reverse m).map absS).reverse ++ [1] = beh ss := by
  unfold beh
  rw [hl, List.range_succ, List.map_append]
  have e1 : [m].map (fun i => absS (tog (ss.drop (i + 1)))) = [1] := by
    rw [List.map_singleton, List.drop_of_length_le (by omega)]
    show [absS [1]] = [1]
    rw [absS_one]
  rw [e1]
  congr 1
  have lp := pre_len (ss.drop 1).reverse m
  apply List.ext_getElem?
  intro i
  by_cases h : i < m
  · rw [List.getElem?_reverse (by rw [List.length_map, lp]; exact h), List.length_map, lp, List.getElem?_map, pre_at (by omega), List.getElem?_map, List.getElem?_range h]
    show some (absS (tog ((ss.drop 1).reverse.take (m - 1 - i + 1)))) = some (absS (tog (ss.drop (i + 1))))
    rw [List.take_reverse, List.length_drop, List.drop_drop, show 1 + (ss.length - 1 - (m - 1 - i + 1)) = i + 1 by omega, tog_rev fun s h' => hs s (List.mem_of_mem_drop h')]
  · rw [List.getElem?_eq_none (by rw [List.length_reverse, List.length_map, lp]; omega), List.getElem?_eq_none (by rw [List.length_map, List.length_range]; omega)]
theorem Sm.bits {qs : List Rat} (h : Sm qs) : (absS qs).num.natAbs < 2 ^ 753 ∧ (((absS qs).den : Nat) : Int).natAbs < 2 ^ 643 ∧ (absS qs).num.natAbs ≤ 2 ^ 110 * (absS qs).den := by
  obtain ⟨Dm, d0, d1, sA⟩ := h.abs
  have vl := sA.val d0
  have nb := Sc.num sA d0
  have db := Nat.le_of_dvd (Int.natAbs_pos.mpr d0) (Int.natAbs_dvd_natAbs.mpr (Sc.den sA))
  have e9 : (2 : Nat) ^ 110 * 2 ^ 642 = 2 ^ 752 := by decide +kernel
  have m9 := Nat.mul_le_mul_left (2 ^ 110) d1
  rw [e9] at m9
  exact ⟨Nat.lt_of_le_of_lt (Nat.le_trans nb m9) (by decide +kernel), Nat.lt_of_le_of_lt (Nat.le_trans db d1) (by decide +kernel), vl⟩
theorem FrsK.rev_one {K : PySem.W.Frag} {H : Hp} {vs : List V} {qs : List Rat} {AO : Addr} (h : FrsAt H vs qs) (hO : SqT K H AO [.int 1, .int 1]) : FrsK K H (vs.reverse ++ [.ref AO]) (qs.reverse ++ [1]) := by
  have l := FrsAt.len h
  refine ⟨by rw [List.length_append, List.length_append, List.length_reverse, List.length_reverse, l]; rfl, fun i q hq => ?_⟩
  have hi := (List.getElem?_eq_some_iff.mp hq).1
  rw [List.length_append, List.length_reverse] at hi
  by_cases c : i < qs.length
  · rw [List.getElem?_append_left (by rw [List.length_reverse]; exact c), List.getElem?_reverse c] at hq
    obtain ⟨p, e1, e2⟩ := FrsAt.at h hq
    refine ⟨p, ?_, SqT.of e2⟩
    rw [List.getElem?_append_left (by rw [List.length_reverse, l]; exact c), List.getElem?_reverse (by rw [l]; exact c), l]
    exact e1
  · have e : i = qs.length := by
      have : i < qs.length + 1 := hi
      omega
    subst e
    rw [List.getElem?_append_right (by rw [List.length_reverse]; exact Nat.le_refl _), List.length_reverse, Nat.sub_self] at hq
    cases hq
    refine ⟨AO, ?_, hO⟩
    rw [List.getElem?_append_right (by rw [List.length_reverse, l]; exact Nat.le_refl _), List.length_reverse, l, Nat.sub_self]
    rfl
def spBeh (K : PySem.W.Frag) : Sp := fun vs H Q _ => ∃ (a : Addr) (ws : List V) (ss : List (List Rat)), vs = [.ref a] ∧ H a = some (.lst ws) ∧ SeL H ws ss ∧ (∀ s ∈ ss, Sect s) ∧ 0 < ss.length ∧ ss.length ≤ 4 ∧ ∀ p H', H p = none → Same H H' → FrLK K H' p (beh ss) → Q (.ref p) H'
abbrev totL (n : Nat) (f : Nat → Int) : List V := (List.range n).map fun i => V.int (f i)
theorem totL_len (n : Nat) (f : Nat → Int) : (totL n f).length = n := by
  rw [List.length_map, List.length_range]
theorem totL_succ (n : Nat) (f : Nat → Int) : totL (n + 1) f = totL n f ++ [.int (f n)] := by
  show (List.range (n + 1)).map _ = _
  rw [List.range_succ, List.map_append]
  rfl
theorem totL_at {n i : Nat} (f : Nat → Int) (h : i < n) : (totL n f)[i]? = some (.int (f i)) := by
  rw [List.getElem?_map, List.getElem?_range h]
  rfl
def spShs : Sp := fun vs H Q _ => ∃ (a : Addr) (us : List V) (ps : List (List Rat)) (m l : Int) (S : Nat → Rat), vs = [.ref a, .int m, .int l] ∧ H a = some (.lst us) ∧ SeL H us ps ∧ (∀ i s, ps[i]? = some s → Sm s ∧ S i = absS s) ∧ ps.length ≤ 4 ∧ (1 ≤ m ∧ m ≤ 1000000000000) ∧ (1 ≤ l ∧ l ≤ 1000000000000) ∧
  ∀ p H', H p = none → Same H H' → H' p = some (.lst (totL ps.length fun i => (tot m l S (i + 1) : Int))) → Q (.ref p) H'
def spBy : Sp := fun vs H Q _ => ∃ (a : Addr) (n : Nat) (T : Nat → Nat), vs = [.ref a] ∧ H a = some (.lst (totL n fun i => (T (i + 1) : Int))) ∧ T 0 = 0 ∧ n ≤ 4 ∧ ∀ p H', H p = none → Same H H' → H' p = some (.lst (totL n fun i => (T (i + 1) : Int) - (T i : Int))) → Q (.ref p) H'
section
variable {P : Program} {w : World} {K : PySem.W.Frag} {mg : Str → Option Value} {base : Heap}
theorem sc_sizes_behind : FnScope ["sections", "behind", "series"] ["sections"] (defScope s_sizes_behind) := ⟨rfl, rfl, rfl, by decide +kernel, rfl, by decide +kernel, by decide +kernel⟩
theorem ok_sizes_behind {f : Addr} {fd : FuncData} (F : Fun K "sizes_behind" "sizes_behind" s_sizes_behind f fd) (z : Zs mg) {AO : Addr} (g_ONE : mg "ONE" = some (.ref AO)) (tO : ∀ H, SqT K H AO [.int 1, .int 1]) (c_products_from : Cal P w K mg base 8 "products_from" ["sections"] spProds) (c_sizes_of_all : Cal P w K mg base 4 "sizes_of_all" ["series"] spSzs) : FnOk P w K mg base CX0 9 f fd ["sections"] (spBeh K) := by
  refine F.ok sc_sizes_behind (fun vs H Q E h => ?_) (fun cdv A outer s H vs Q E hr h => ?_)
  · obtain ⟨a, ws, ss, rfl, _⟩ := h
    rfl
  · obtain ⟨a, ws, ss, rfl, ha, hs, sec, n0, n4, k⟩ := h
    refine ⟨_, (pss_cons (ps_if (pt_cmpR op_eq (pe_callB call_len_seq (by rfl) z.len PySem.boot_len (pa_cons (pv 0) pa_nil)) pe_int (nomark _)) (pss_one (ps_ret (pe_lst (pa_cons (pe_glob (v := .ref AO) (by rfl) g_ONE rfl) pa_nil)))) pss_nil)
      (pss_cons (ps_setLc (i := 1) (own := [("series", 2)]) (g := gName 2) (tt := tYes) (te := (tCall spSzs [] E0 (tCons (tVar 2) tNil))) (by rfl) sc_sizes_behind.nd rfl rfl (sw_true rfl rfl rfl (by decide +kernel)) (pi_list (pe_cal c_products_from hr (pa_cons (pe_rev1 (pv 0)) pa_nil))) (blkOk_by (own := [("series", 2)]) (N := ["sections", "behind", "series"]) (sc := defScope s_sizes_behind) (by decide +kernel)) (fun _ _ _ _ _ => by exact (pg_name (i := 2) sc_sizes_behind.nd rfl (.inl rfl))) (fun _ _ _ _ _ => by exact pts_nil) (fun _ _ _ _ _ => by exact (pe_cal c_sizes_of_all hr (pa_cons (pv 2) pa_nil))))
      (pss_one (ps_ret (pe_lst (StX.pa_star (pe_revL (pv 1)) (pa_cons (pe_glob (v := .ref AO) (by rfl) g_ONE rfl) pa_nil))))))), ?_⟩
    have lw := hs.1
    have neS : ∀ s ∈ ss, s ≠ [] := fun s h => (sec s h).ne
    refine ⟨_, rfl, a, ws, rfl, .inl (SqL.of ha), rfl, _, rfl, ite2 (fun c => ?_) (fun c => ?_)⟩
    · have l1 : ss.length = 0 + 1 := by
        have := V.int.inj (of_decide_eq_true c)
        omega
      refine ⟨(by show 1 ≤ sizeLine; decide), fun p hp => k p _ hp (same_new hp) ⟨_, upd_same, ?_⟩⟩
      rw [← beh_rev l1 neS]
      refine ⟨rfl, fun i q hq => ?_⟩
      match i with
      | 0 => cases hq; exact ⟨AO, rfl, tO _⟩
      | i + 1 => cases hq
    · have l1 : 1 < ss.length := by
        have : ws.length ≠ 1 := fun e => c (decide_eq_true (by rw [e]; rfl))
        omega
      refine ⟨_, rfl, a, ws, rfl, SqL.of ha, fun q hq => ?_⟩
      have s1 := same_new (o := .lst (ws.drop 1).reverse) hq
      obtain ⟨m, em⟩ : ∃ m, ss.length = m + 1 := ⟨ss.length - 1, by omega⟩
      have lr : (ss.drop 1).reverse.length = m := by
        rw [List.length_reverse, List.length_drop]
        omega
      have sec2 : ∀ s ∈ (ss.drop 1).reverse, Sect s := fun s h => sec s (List.mem_of_mem_drop (List.mem_reverse.mp h))
      refine ⟨q, _, (ss.drop 1).reverse, rfl, upd_same, (hs.same s1).drop 1 |>.rev, sec2, by omega, by omega, fun p us H2 hp2 s2 eus seu => ?_⟩
      rw [lr] at seu
      have S2 := s1.trans s2
      have lu := seu.1
      rw [pre_len] at lu
      refine ⟨p, rfl, ⟨_, SqL.of eus⟩, fun D hD => lc_list (K := K) (a := p) (xs := us) (fun i G => Same H2 G ∧ FrL G D (((pre (ss.drop 1).reverse m).take i).map absS)) ⟨same_new hD, [], upd_same, .nil⟩ (fun i G _ hP => SqL.of (hP.1 _ _ eus)) (fun i x G hx hP => ?_) (fun G hP => ?_)⟩
      · obtain ⟨sG, vs2, hacc, fv⟩ := hP
        obtain ⟨b, s', rfl, hs', fb⟩ := seu.get hx
        have li := (List.getElem?_eq_some_iff.mp hs').1
        rw [pre_len] at li
        have e9 := hs'
        rw [pre_at li] at e9
        have sm : Sm s' := by
          rw [← Option.some.inj e9]
          exact Sm.tog (take_sect sec2 _) (by rw [List.length_take]; omega)
        refine ⟨rfl, _, rfl, b, s', rfl, fb.same sG, sm, fun r G2 hr2 s3 f3 => ?_⟩
        have lv := FrsAt.len fv
        rw [List.length_map, List.length_take, pre_len] at lv
        have nD : r ≠ D := fun e => by
          rw [e, hacc] at hr2
          cases hr2
        refine ⟨_, s3 _ _ hacc, small1000 (by omega), fun b o e => ?_, vs2 ++ [.ref r], upd_same, ?_⟩
        · rw [upd_ne (ne_of_none e hD)]
          exact s3 _ _ (sG _ _ e)
        · rw [take_more hs', List.map_append]
          refine FrsAt.app (PrsAt.but (PrsAt.same fv s3) SameBut.upd (s3 _ _ hacc)) (FrsAt.one ?_)
          show (upd G2 D _) r = _
          rw [upd_ne nD]
          exact f3
      · obtain ⟨sG, vs2, hacc, fv⟩ := hP
        rw [lu, List.take_of_length_le (by rw [pre_len]; exact Nat.le_refl _)] at fv
        have lv := FrsAt.len fv
        rw [List.length_map, pre_len] at lv
        refine ⟨_, rfl, D, vs2, rfl, SqL.of hacc, fun r hr => ?_⟩
        have s4 := same_new (o := .lst vs2.reverse) hr
        refine ⟨r, _, rfl, .inr (SqL.of upd_same), by rw [List.length_append, List.length_reverse]; exact Nat.le_of_lt (small1000 (show vs2.length + 1 ≤ 1000 by omega)), fun p9 hp9 => ?_⟩
        have s5 := same_new (o := .lst (vs2.reverse ++ [.ref AO])) hp9
        have SS := S2.trans (sG.trans (s4.trans s5))
        refine k p9 _ ((S2.trans (sG.trans s4)).free hp9) SS ⟨_, upd_same, ?_⟩
        rw [← beh_rev em neS]
        exact FrsK.rev_one (PrsAt.same fv (s4.trans s5)) (tO _)
theorem sc_shift_sums : FnScope ["products", "most", "limit", "total", "told", "series", "top", "bottom"] ["products", "most", "limit"] (defScope s_shift_sums) := ⟨rfl, rfl, rfl, by decide +kernel, rfl, by decide +kernel, by decide +kernel⟩
theorem ok_shift_sums {f : Addr} {fd : FuncData} (F : Fun K "shift_sums" "shift_sums" s_shift_sums f fd) (z : Zs mg) (c_sizes_of_all : Cal P w K mg base 4 "sizes_of_all" ["series"] spSzs) : FnOk P w K mg base CX0 5 f fd ["products", "most", "limit"] spShs := by
  refine F.ok sc_shift_sums (fun vs H Q E h => ?_) (fun cdv A outer s H vs Q E hr h => ?_)
  · obtain ⟨a, us, ps, m, l, S, rfl, _⟩ := h
    rfl
  · obtain ⟨a, us, ps, m, l, S, rfl, ha, hs, hS, n4, hm, hl, k⟩ := h
    refine ⟨_, (pss_cons (ps_set (i := 3) sc_shift_sums.nd rfl (.inl rfl) pe_int)
      (pss_cons (ps_set (i := 4) sc_shift_sums.nd rfl (.inl rfl) (pe_lst pa_nil))
      (pss_cons (ps_for PassesOwn.never rfl (pi_list (pv 0)) (pg_name (i := 5) sc_shift_sums.nd rfl (.inl rfl)) (pss_cons (ps_asg (pe_cal c_sizes_of_all hr (pa_cons (pv 5) pa_nil)) (pg_tup (by rfl) (pgs_cons (pg_name (i := 6) sc_shift_sums.nd rfl (.inl rfl)) (pgs_cons (pg_name (i := 7) sc_shift_sums.nd rfl (.inl rfl)) pgs_nil))))
      (pss_cons (ps_while PassesOwn.never (pt_cmpR op_gt (pe_op op_mulW (pv 1) (pv 6)) (pe_op op_shlW (pe_op op_mulW (pv 2) (pv 7)) (pv 3)) (nomark _)) (pss_one (ps_aug (i := 3) sc_shift_sums.nd rfl (.inl rfl) pe_int ip_add)))
      (pss_one (ps_expr (pe_bm PySem.F.plainAttrs_list PySem.F.slot_list_append PySem.F.type_list_append mt_append (pv 4) (pa_cons (pv 3) pa_nil)))))))
      (pss_one (ps_ret (pv 4)))))), ?_⟩
    have lw := hs.1
    have F160 : ∀ i qs, ps[i]? = some qs → fitB m l (S i) 160 = true := fun i qs hq => by
      obtain ⟨sm, eS⟩ := hS i qs hq
      rw [eS]
      exact fit_160 hm.2 (by omega) hl.1 sm.bits.2.2
    have TO := tot_ok (m := m) (l := l) (S := S) (n := ps.length) fun i hi => F160 i _ (List.getElem?_eq_getElem hi)
    refine ⟨(by show 0 ≤ sizeLine; decide), fun l0 hl0 => ?_⟩
    have s1 := same_new (o := .lst []) hl0
    refine ⟨_, rfl, a, rfl, ⟨_, SqL.of (s1 _ _ ha)⟩, for_list (K := K) (a := a) (xs := us) (fun i σ G => Same H G ∧ ∃ y5 y6 y7, σ = [some (.ref a), some (.int m), some (.int l), some (.int (tot m l S i : Nat)), some (.ref l0), y5, y6, y7] ∧ G l0 = some (.lst (totL i fun i => (tot m l S (i + 1) : Int)))) ⟨s1, none, none, none, rfl, upd_same⟩ (fun i σ G _ hP => SqL.of (hP.1 _ _ ha)) (fun i x σ G hx hP => ?_) (fun σ G hP => ?_)⟩
    · obtain ⟨sG, y5, y6, y7, rfl, hacc⟩ := hP
      obtain ⟨b, qs, rfl, hq, fb⟩ := hs.get hx
      have li := (List.getElem?_eq_some_iff.mp hq).1
      obtain ⟨sm, eS⟩ := hS i qs hq
      refine ⟨_, rfl, b, qs, rfl, fb.same sG, sm, fun p G2 hp2 s2 f2 => ?_⟩
      refine ⟨p, _, rfl, SqT.of f2, rfl, _, _, rfl, _, _, rfl, rfl, ?_⟩
      have S2 := sG.trans s2
      obtain ⟨n9, b9, vl⟩ := sm.bits
      have f160 := F160 i qs hq
      have l4 : us.length ≤ 4 := by rw [hs.1]; exact n4
      refine ⟨fun k σ' G' => G' = G2 ∧ ∃ t : Nat, σ' = [some (.ref a), some (.int m), some (.int l), some (.int (t : Nat)), some (.ref l0), some (.ref b), some (.int (absS qs).num), some (.int ((absS qs).den : Nat))] ∧ tot m l S i ≤ t ∧ (∀ j, tot m l S i ≤ j → j < t → fitB m l (S i) j = false) ∧ t ≤ 160 ∧ k = 160 - t, ⟨_, rfl, _, rfl, Nat.le_refl _, fun j h1 h2 => absurd (Nat.lt_of_le_of_lt h1 h2) (Nat.lt_irrefl _), (TO i (by omega)).1, rfl⟩, fun k9 σ9 G9 hW => ?_⟩
      obtain ⟨rfl, t, rfl, h1, h2, h3, rfl⟩ := hW
      refine ⟨_, rfl, _, rfl, _, _, rfl, rfl, wide_mul (a := 41) (b := 753) (by omega) n9 (by decide) (by decide) (by decide), _, rfl, _, rfl, _, _, rfl, rfl, wide_mul (a := 41) (b := 643) (by omega) b9 (by decide) (by decide) (by decide), _, rfl, _, _, rfl, rfl, shl_ok (n := 684) ?_ (by omega), _, _, rfl, rfl, _, rfl, ite2 (fun c => ?_) (fun c => ?_)⟩
      · rw [Int.natAbs_mul]
        have := Nat.mul_lt_mul'' (show l.natAbs < 2 ^ 41 by omega) b9
        exact Nat.lt_of_lt_of_le this (by decide +kernel)
      · have c1 := toB c
        rw [Int.toNat_natCast] at c1
        have nf : fitB m l (S i) t = false := by
          rw [eS]
          exact decide_eq_false (Int.not_le.mpr c1)
        have t1 : t ≠ 160 := fun e => by
          rw [e, f160] at nf
          cases nf
        refine ⟨fun σ' H' => H' = G9 ∧ σ' = [some (.ref a), some (.int m), some (.int l), some (.int ((t + 1 : Nat) : Int)), some (.ref l0), some (.ref b), some (.int (absS qs).num), some (.int ((absS qs).den : Nat))], fun σ' H' h => ?_, _, rfl, _, _, rfl, rfl, rfl, rfl⟩
        obtain ⟨rfl, rfl⟩ := h
        refine ⟨160 - (t + 1), by omega, rfl, t + 1, rfl, by omega, fun j j1 j2 => ?_, by omega, rfl⟩
        by_cases e : j = t
        · rw [e]
          exact nf
        · exact h2 j j1 (by omega)
      · have c1 := toNB c
        rw [Int.toNat_natCast] at c1
        have ft : fitB m l (S i) t = true := by
          rw [eS]
          exact decide_eq_true (Int.not_lt.mp c1)
        have et : tot m l S (i + 1) = t := Least.uniq ((TO (i + 1) (by omega)).2 i (Nat.lt_succ_self i)) ⟨h1, ft, h2⟩
        have hacc2 := s2 _ _ hacc
        refine ⟨_, rfl, .inl ⟨rfl, _, SqL.of hacc2⟩, _, rfl, l0, _, _, rfl, rfl, hacc2, ?_, fun c o e => ?_, some (.ref b), some (.int (absS qs).num), some (.int ((absS qs).den : Nat)), ?_, ?_⟩
        · rw [totL_len]
          exact small1000 (by omega)
        · rw [upd_ne (ne_of_none e hl0)]
          exact S2 _ _ e
        · rw [et]
        · rw [upd_same, totL_succ, et]
    · obtain ⟨sG, y5, y6, y7, rfl, hacc⟩ := hP
      rw [lw] at hacc
      exact ⟨_, rfl, k l0 G hl0 sG hacc⟩
theorem sc_shifts_by : FnScope ["sums", "total", "ahead"] ["sums"] (defScope s_shifts_by) := ⟨rfl, rfl, rfl, by decide +kernel, rfl, by decide +kernel, by decide +kernel⟩
theorem ok_shifts_by {f : Addr} {fd : FuncData} {k : Nat} (F : Fun K "shifts_by" "shifts_by" s_shifts_by f fd) (z : Zs mg) : FnOk P w K mg base CX0 (k + 1) f fd ["sums"] spBy := by
  refine F.ok sc_shifts_by (fun vs H Q E h => ?_) (fun cdv A outer s H vs Q E hr h => ?_)
  · obtain ⟨a, n, T, rfl, _⟩ := h
    rfl
  · obtain ⟨a, n, T, rfl, ha, t0, n4, k⟩ := h
    refine ⟨_, (pss_one (ps_ret (pe_lc (own := [("total", 1), ("ahead", 2)]) (g := gTup K 2 (gCons (gName 1) (gCons (gName 2) gNil))) (tt := tYes) (te := (tOp (rI0 fun i j => V.int (i - j)) (tVar 1) (tVar 2))) (by rfl) sc_shifts_by.nd (RZ.pi_zipA (by rfl) z.zip (pa_cons (pv 0) (pa_cons (pe_lst (pa_cons pe_int (StX.pa_star (pv 0) pa_nil))) pa_nil))) (blkOk_by (own := [("total", 1), ("ahead", 2)]) (N := ["sums", "total", "ahead"]) (sc := defScope s_shifts_by) (by decide +kernel)) (fun _ _ _ _ _ => by exact (pg_tup (by rfl) (pgs_cons (pg_name (i := 1) sc_shifts_by.nd rfl (.inl rfl)) (pgs_cons (pg_name (i := 2) sc_shifts_by.nd rfl (.inl rfl)) pgs_nil)))) (fun _ _ _ _ _ => by exact pts_nil) (fun _ _ _ _ _ => by exact (pe_op op_sub (pv 1) (pv 2)))))), ?_⟩
    refine ⟨_, rfl, _, rfl, a, _, rfl, .inr (SqL.of ha), ?_⟩
    refine ⟨by rw [List.append_nil, List.length_cons, totL_len]; exact Nat.le_of_lt (small1000 (by omega)), fun p hp => ?_⟩
    have s1 := same_new (o := .lst (.int 0 :: (totL n (fun i => (T (i + 1) : Int)) ++ []))) hp
    have e1 := s1 _ _ ha
    refine ⟨a, p, _, _, rfl, .inl ⟨SqL.of e1, SqL.of upd_same, fun D hD => ?_⟩⟩
    refine lc_it (walk_zip (K := K) (a := a) (b := p) (n := n) (by rw [List.length_cons, List.append_nil, totL_len]; omega)) (fun i G => Same (upd H p (.lst (.int 0 :: (totL n (fun i => (T (i + 1) : Int)) ++ [])))) G ∧ G D = some (.lst (totL i fun i => (T (i + 1) : Int) - (T i : Int)))) ⟨same_new hD, upd_same⟩ (fun i G _ hP => ⟨SqL.of (hP.1 _ _ e1), SqL.of (hP.1 _ _ upd_same)⟩) (fun i x G G2 hi hP hY => ?_) (fun G hP => ?_)
    · obtain ⟨sG, hacc⟩ := hP
      obtain ⟨Tp, u, v, rfl, nT, rfl, e2, e3⟩ := hY
      dsimp only at e2 e3
      rw [totL_at _ hi] at e2
      have ev : v = .int (T i : Int) := by
        rw [List.append_nil] at e3
        match i, hi, e3 with
        | 0, _, e3 => rw [t0]; exact (Option.some.inj e3).symm
        | i + 1, hi, e3 =>
          rw [List.getElem?_cons_succ, totL_at _ (by omega)] at e3
          exact (Option.some.inj e3).symm
      cases e2
      subst ev
      have sN := same_new (o := .tup [.int (T (i + 1) : Int), .int (T i : Int)]) nT
      refine ⟨Tp, _, rfl, SqT.of upd_same, rfl, _, _, rfl, _, _, rfl, rfl, rfl, ?_⟩
      refine ⟨_, rfl, _, rfl, _, _, rfl, rfl, _, sN _ _ hacc, ?_, fun c o e => ?_, ?_⟩
      · rw [totL_len]
        exact small1000 (by omega)
      · rw [upd_ne (ne_of_none e hD)]
        exact sN _ _ (sG _ _ e)
      · rw [upd_same, totL_succ]
    · obtain ⟨sG, hacc⟩ := hP
      have SS := s1.trans sG
      exact k D G (s1.free hD) SS hacc
end
end E1

namespace E1
open PySem PySem.Spec PyProof.Rows L2
/-! ### the law's own product -/
def tF (xs ys : List Rat) (k i : Nat) : Rat := if i ≤ k then fn xs i * fn ys (k - i) else 0
/-- what stands at a place behind i whole rows and j places of the next -/
def cellR (xs ys : List Rat) (i j k : Nat) : Rat := sg (tF xs ys k) (if i ≤ k ∧ k < i + j then i + 1 else i)
theorem cell_zero (xs ys : List Rat) (k : Nat) : cellR xs ys 0 0 k = 0 := by
  unfold cellR
  rw [if_neg (by omega)]
  rfl
theorem cell_step (xs ys : List Rat) (i j : Nat) : cellR xs ys i (j + 1) (i + j) = cellR xs ys i j (i + j) + fn xs i * fn ys j := by
  unfold cellR
  rw [if_pos (by omega), if_neg (by omega)]
  show sg _ i + tF xs ys (i + j) i = _
  unfold tF
  rw [if_pos (by omega), show i + j - i = j by omega]
theorem cell_else (xs ys : List Rat) {i j k : Nat} (h : k ≠ i + j) : cellR xs ys i (j + 1) k = cellR xs ys i j k := by
  unfold cellR
  by_cases c : i ≤ k ∧ k < i + j
  · rw [if_pos (by omega), if_pos c]
  · rw [if_neg (by omega), if_neg c]
theorem cell_row (xs ys : List Rat) (i k : Nat) : cellR xs ys (i + 1) 0 k = cellR xs ys i ys.length k := by
  unfold cellR
  rw [if_neg (by omega)]
  by_cases c : i ≤ k ∧ k < i + ys.length
  · rw [if_pos c]
  · rw [if_neg c]
    show sg _ i + tF xs ys k i = sg _ i
    have : tF xs ys k i = 0 := by
      unfold tF
      by_cases d : i ≤ k
      · rw [if_pos d, fn_ge (qs := ys) (by omega)]
        grind
      · rw [if_neg d]
    rw [this]
    grind
theorem cell_all (xs ys : List Rat) (k : Nat) : cellR xs ys xs.length 0 k = cv (fn xs) (fn ys) k := by
  unfold cellR cv
  rw [if_neg (by omega)]
  have e : sg (tF xs ys k) xs.length = sg (tF xs ys k) (k + 1) := sg_upto _ fun i h => by
    unfold tF
    by_cases d : i ≤ k
    · rw [if_pos d]
      rcases h with h | h
      · rw [fn_ge h]
        grind
      · omega
    · rw [if_neg d]
  rw [e]
  exact sg_congr _ fun i hi => by
    unfold tF
    rw [if_pos (by omega)]
def cells (xs ys : List Rat) (i j : Nat) : List Rat := (List.range (xs.length + ys.length - 1)).map (cellR xs ys i j)
theorem cells_len (xs ys : List Rat) (i j : Nat) : (cells xs ys i j).length = xs.length + ys.length - 1 := by
  unfold cells
  rw [List.length_map, List.length_range]
theorem cells_at (xs ys : List Rat) (i j : Nat) {k : Nat} (h : k < xs.length + ys.length - 1) : (cells xs ys i j)[k]? = some (cellR xs ys i j k) := by
  unfold cells
  rw [List.getElem?_map, List.getElem?_range h]
  rfl
theorem cells_zero (xs ys : List Rat) : cells xs ys 0 0 = List.replicate (xs.length + ys.length - 1) 0 := by
  apply List.ext_getElem?
  intro k
  by_cases h : k < xs.length + ys.length - 1
  · rw [cells_at _ _ _ _ h, cell_zero, List.getElem?_replicate, if_pos h]
  · rw [List.getElem?_eq_none (by rw [cells_len]; omega), List.getElem?_eq_none (by rw [List.length_replicate]; omega)]
theorem cells_step (xs ys : List Rat) {i j : Nat} (h : i + j < xs.length + ys.length - 1) : cells xs ys i (j + 1) = (cells xs ys i j).set (i + j) (cellR xs ys i j (i + j) + fn xs i * fn ys j) := by
  apply List.ext_getElem?
  intro k
  by_cases hk : k < xs.length + ys.length - 1
  · rw [cells_at _ _ _ _ hk]
    by_cases e : k = i + j
    · subst e
      rw [List.getElem?_set_self (by rw [cells_len]; exact h), cell_step]
    · rw [List.getElem?_set_ne (fun z => e z.symm), cells_at _ _ _ _ hk, cell_else _ _ e]
  · rw [List.getElem?_eq_none (by rw [cells_len]; omega), List.getElem?_eq_none (by rw [List.length_set, cells_len]; omega)]
theorem cells_row (xs ys : List Rat) (i : Nat) : cells xs ys (i + 1) 0 = cells xs ys i ys.length := by
  unfold cells
  exact List.map_congr_left fun k _ => cell_row xs ys i k
theorem cells_all {xs ys : List Rat} (hx : xs ≠ []) (hy : ys ≠ []) : cells xs ys xs.length 0 = mulL xs ys := by
  refine fn_cut (by rw [cells_len, mul_len hx hy]) fun k hk => ?_
  rw [cells_len] at hk
  rw [fn_lt (cells_at _ _ _ _ hk), cell_all, mul_fn hx hy]
theorem cell_sm {D E : Int} {M N : Nat} {xs ys : List Rat} (hx : ∀ q ∈ xs, SM D M q) (hy : ∀ q ∈ ys, SM E N q) (i j k : Nat) (hi : i < 32) : SM (D * E) (32 * (M * N)) (cellR xs ys i j k) := by
  unfold cellR
  refine (sg_sm _ fun a _ => ?_).mono (Nat.mul_le_mul_right (M * N) (show (if i ≤ k ∧ k < i + j then i + 1 else i) ≤ 32 by split <;> omega))
  unfold tF
  split
  · exact (fn_sm hx a).mul (fn_sm hy _)
  · exact .zero
theorem SM.bits {D : Int} {M : Nat} {q : Rat} (h : SM D M q) (hD : D ≠ 0) (b : M * D.natAbs < 2 ^ 1000) (b2 : D.natAbs < 2 ^ 1000) : q.num.natAbs < 2 ^ 1000 ∧ q.den < 2 ^ 1000 := by
  have n := Sc.num h hD
  have d := Nat.le_of_dvd (Int.natAbs_pos.mpr hD) (Int.natAbs_dvd_natAbs.mpr (Sc.den h))
  rw [Int.natAbs_natCast] at d
  exact ⟨Nat.lt_of_le_of_lt n b, Nat.lt_of_le_of_lt d b2⟩
/-! ### the law's own sizes -/
theorem sumR_snoc (xs : List Rat) (x : Rat) : sumR (xs ++ [x]) = sumR xs + x := by
  rw [sumR_append]
  show sumR xs + (x + 0) = _
  grind
theorem fit_mul {m l : Int} {S : Rat} {t : Nat} : fitB 1 l ((m : Rat) * S) t = fitB m l S t := by
  unfold fitB
  have e : (((m : Rat) * S).num * (S.den : Int) : Int) = m * S.num * (((m : Rat) * S).den : Int) := by
    have h1 := q_eq ((m : Rat) * S)
    have h2 := q_eq S
    have h3 : (((((m : Rat) * S).num * (S.den : Int) : Int)) : Rat) = ((m * S.num * (((m : Rat) * S).den : Int) : Int) : Rat) := by
      rw [Rat.intCast_mul, Rat.intCast_mul, Rat.intCast_mul, ← h1, ← h2]
      grind
    exact_mod_cast h3
  have d1 := den_ge ((m : Rat) * S)
  have d2 := den_ge S
  generalize ((m : Rat) * S).num = rn at *
  generalize (((m : Rat) * S).den : Int) = rd at *
  generalize (S.den : Int) = d at *
  generalize S.num = n at *
  generalize (2 : Int) ^ t = w at *
  rw [Int.one_mul]
  congr 1
  apply propext
  constructor
  · intro h
    refine Int.le_of_mul_le_mul_right (a := rd) ?_ d1
    rw [← e]
    have := Int.mul_le_mul_of_nonneg_right h (show 0 ≤ d by omega)
    rw [show l * d * w * rd = l * rd * w * d by grind]
    exact this
  · intro h
    refine Int.le_of_mul_le_mul_right (a := d) ?_ d2
    rw [e]
    have := Int.mul_le_mul_of_nonneg_right h (show 0 ≤ rd by omega)
    rw [show l * rd * w * d = l * d * w * rd by grind]
    exact this
theorem absS_snoc (xs : List Rat) (x : Rat) : absS (xs ++ [x]) = absS xs + aR x := by
  unfold absS
  rw [List.map_append, List.map_singleton, sumR_snoc]
theorem absS_nil : absS [] = 0 := rfl
theorem sumR_rev : ∀ xs : List Rat, sumR xs.reverse = sumR xs
  | [] => rfl
  | x :: xs => by
    rw [List.reverse_cons, sumR_snoc, sumR_rev xs]
    show sumR xs + x = x + sumR xs
    grind
theorem absS_rev (xs : List Rat) : absS xs.reverse = absS xs := by
  unfold absS
  rw [List.map_reverse, sumR_rev]
theorem aR_word (q : Rat) (m : Int) : q * (((if q.num < 0 then -m else m) : Int) : Rat) = (m : Rat) * aR q := by
  unfold aR
  split
  · push_cast
    grind
  · grind
theorem SM.int_mul {D : Int} {M : Nat} {q : Rat} (h : SM D M q) (m : Int) : SM D (m.natAbs * M) ((m : Rat) * q) := by
  obtain ⟨n, e, b⟩ := h
  refine ⟨m * n, ?_, ?_⟩
  · push_cast
    rw [← e]
    grind
  · rw [Int.natAbs_mul, Nat.mul_assoc]
    exact Nat.mul_le_mul_left _ b
theorem divInt_sm {t : Int} {M : Nat} (h : t.natAbs ≤ M * 2) : SM 2 M (Rat.divInt t 2) := ⟨t, div_q (by decide), h⟩
/-! ### half of what the roundings add up to -/
def errT (T : Nat → Nat) (ss : List (List Rat)) (i : Nat) : Rat := Rat.divInt (2 ^ T (i + 1)) 2 * absS (tog (ss.drop (i + 1)))
def errP (T : Nat → Nat) (ss : List (List Rat)) (n : Nat) : Rat := sg (errT T ss) n
def halvesL (T : Nat → Nat) (n : Nat) : List Rat := (List.range n).map fun i => Rat.divInt (2 ^ T (i + 1)) 2
theorem dot_range (f g : Nat → Rat) (n : Nat) : dotR ((List.range n).map f) ((List.range n).map g) = sg (fun i => f i * g i) n := by
  rw [List.range_eq_range', dot_map]
  exact sg_congr _ fun i _ => by rw [Nat.zero_add]
theorem err_dot (T : Nat → Nat) (ss : List (List Rat)) : dotR (halvesL T ss.length) (beh ss) = errP T ss ss.length := dot_range _ _ _
theorem DD_drop : ∀ (ss : List (List Rat)) (i : Nat), ∃ k : Int, DD ss = DD (ss.drop i) * k
  | ss, 0 => ⟨1, by rw [List.drop_zero, Int.mul_one]⟩
  | [], i + 1 => ⟨1, by rw [Int.mul_one]; rfl⟩
  | s :: ss, i + 1 => by
    obtain ⟨k, e⟩ := DD_drop ss i
    refine ⟨DS s * k, ?_⟩
    show DS s * DD ss = DD (ss.drop i) * (DS s * k)
    rw [e]
    grind
theorem beh_sm {ss : List (List Rat)} (hs : ∀ s ∈ ss, Sect s) (hl : ss.length ≤ 4) (i : Nat) : SM (DD ss) (2 ^ 110) (absS (tog (ss.drop i))) := by
  obtain ⟨k, e⟩ := DD_drop ss i
  obtain ⟨h1, _, h3⟩ := tog_sm (ss := ss.drop i) (fun s h => hs s (List.mem_of_mem_drop h)) (by rw [List.length_drop]; omega)
  rw [e]
  exact ((absS_sm h1).mono (Nat.le_trans (Nat.mul_le_mul_right _ h3) (by decide +kernel))).grow k
theorem beh_bnd {ss : List (List Rat)} (hs : ∀ s ∈ ss, Sect s) (hl : ss.length ≤ 4) : Bnd (DD ss) (2 ^ 110 * (DD ss).natAbs) (beh ss) :=
  bnd_sm (fun q hq => by
    obtain ⟨i, _, rfl⟩ := List.mem_map.mp hq
    exact beh_sm hs hl _) (by have := DD_pos ss; omega) (Nat.le_trans (DD_640 hs hl) (by decide +kernel))
theorem two_le {t : Nat} (h : t ≤ 160) : ((2 : Int) ^ t).natAbs ≤ 2 ^ 160 := by
  rw [Int.natAbs_pow]
  exact Nat.pow_le_pow_right (by decide) h
theorem half_sm {t : Nat} (h : t ≤ 160) : SM 2 (2 ^ 160) (Rat.divInt (2 ^ t) 2) := divInt_sm (Nat.le_trans (two_le h) (by decide))
theorem halves_bnd {T : Nat → Nat} {n : Nat} (h : ∀ i, i ≤ n → T i ≤ 160) : Bnd 2 (2 ^ 160 * 2) (halvesL T n) :=
  ⟨by decide, Nat.lt_of_lt_of_le (show 2 < 2 ^ 2 by decide) (Nat.pow_le_pow_right (by decide) (by decide)), Nat.lt_of_le_of_lt (show 2 ^ 160 * 2 ≤ 2 ^ 161 by decide) (Nat.pow_lt_pow_right (a := 2) (by decide) (by decide)), fun q hq => by
    obtain ⟨i, hi, rfl⟩ := List.mem_map.mp hq
    exact half_sm (h _ (by have := List.mem_range.mp hi; omega))⟩
theorem errT_sm {T : Nat → Nat} {ss : List (List Rat)} (hs : ∀ s ∈ ss, Sect s) (hl : ss.length ≤ 4) (hT : ∀ i, i ≤ ss.length → T i ≤ 160) {i : Nat} (hi : i < ss.length) : SM (2 * DD ss) (2 ^ 270) (errT T ss i) :=
  ((half_sm (hT (i + 1) (by omega))).mul (beh_sm hs hl (i + 1))).mono (by decide +kernel)
theorem errP_sm {T : Nat → Nat} {ss : List (List Rat)} (hs : ∀ s ∈ ss, Sect s) (hl : ss.length ≤ 4) (hT : ∀ i, i ≤ ss.length → T i ≤ 160) {n : Nat} (hn : n ≤ ss.length) : SM (2 * DD ss) (2 ^ 272) (errP T ss n) :=
  (sg_sm n fun i hi => errT_sm hs hl hT (by omega)).mono (Nat.le_trans (Nat.mul_le_mul_right _ (show n ≤ 4 by omega)) (by decide +kernel))
theorem DD2 {ss : List (List Rat)} (hs : ∀ s ∈ ss, Sect s) (hl : ss.length ≤ 4) : (2 * DD ss) ≠ 0 ∧ (2 * DD ss).natAbs ≤ 2 ^ 641 := by
  have := DD_pos ss
  refine ⟨by omega, ?_⟩
  rw [Int.natAbs_mul]
  exact Nat.le_trans (Nat.mul_le_mul_left 2 (DD_640 hs hl)) (by decide +kernel)
theorem SM.b9 {D : Int} {M a b : Nat} {q : Rat} (h : SM D M q) (hD : D ≠ 0) (hb : D.natAbs ≤ 2 ^ b) (hM : M ≤ 2 ^ a) (hab : a + b < 1000) : q.num.natAbs < 2 ^ 1000 ∧ q.den < 2 ^ 1000 := by
  refine h.bits hD ?_ (Nat.lt_of_le_of_lt hb (Nat.pow_lt_pow_right (by decide) (by omega)))
  refine Nat.lt_of_le_of_lt (Nat.mul_le_mul hM hb) ?_
  rw [← Nat.pow_add]
  exact Nat.pow_lt_pow_right (by decide) hab

end E1

namespace E1
open PySem PySem.Spec PyProof.Rows L2

def spErr (K : PySem.W.Frag) : Sp := fun vs H Q _ => ∃ (a c : Addr) (ws : List V) (ss : List (List Rat)) (T : Nat → Nat), vs = [.ref a, .ref c] ∧ H a = some (.lst (totL ss.length fun i => (T (i + 1) : Int))) ∧ H c = some (.lst ws) ∧ SeL H ws ss ∧ (∀ s ∈ ss, Sect s) ∧ 0 < ss.length ∧ ss.length ≤ 4 ∧ (∀ i, i ≤ ss.length → T i ≤ 160) ∧
  ∀ p H', H p = none → Same H H' → Fr H' p (errP T ss ss.length) → Q (.ref p) H'
def rowI (m : Int) (q : Rat) : Int := if q.num < 0 then -m else m
def rowM (m : Int) (qs : List Rat) : List V := qs.reverse.map fun q => V.int (rowI m q)
def spRow : Sp := fun vs H Q _ => ∃ (a : Addr) (qs : List Rat) (m : Int), vs = [.ref a, .int m] ∧ FrL H a qs ∧ qs.length ≤ 40 ∧ ∀ p H', H p = none → Same H H' → H' p = some (.lst (rowM m qs)) → Q (.ref p) H'
/-- how far all is moved behind each section -/
abbrev moved (m l : Int) (ss : List (List Rat)) : Nat → Nat := tot m l fun i => absS (tog (ss.take (i + 1)))
def WhyAt (H : Hp) (m l : Int) (ss : List (List Rat)) (n : Nat) (us : List V) : Prop := us.length = n ∧ ∀ i, i < n → (moved m l ss (i + 1) = moved m l ss i → us[i]? = some .non) ∧ (moved m l ss (i + 1) ≠ moved m l ss i → ∃ b, us[i]? = some (.ref b) ∧ H b = some (.lst (rowM m (tog (ss.take (i + 1))))))
theorem WhyAt.same {H H' : Hp} {m l : Int} {ss : List (List Rat)} {n : Nat} {us : List V} (h : WhyAt H m l ss n us) (s : Same H H') : WhyAt H' m l ss n us :=
  ⟨h.1, fun i hi => ⟨(h.2 i hi).1, fun e => let ⟨b, e1, e2⟩ := (h.2 i hi).2 e; ⟨b, e1, s _ _ e2⟩⟩⟩
/-- the same, while the list D is being written -/
def WhyI (H : Hp) (D : Addr) (m l : Int) (ss : List (List Rat)) (n : Nat) (us : List V) : Prop := us.length = n ∧ ∀ i, i < n → (moved m l ss (i + 1) = moved m l ss i → us[i]? = some .non) ∧ (moved m l ss (i + 1) ≠ moved m l ss i → ∃ b, us[i]? = some (.ref b) ∧ b ≠ D ∧ H b = some (.lst (rowM m (tog (ss.take (i + 1))))))
theorem WhyI.at {H : Hp} {D : Addr} {m l : Int} {ss : List (List Rat)} {n : Nat} {us : List V} (h : WhyI H D m l ss n us) : WhyAt H m l ss n us :=
  ⟨h.1, fun i hi => ⟨(h.2 i hi).1, fun e => let ⟨b, e1, _, e2⟩ := (h.2 i hi).2 e; ⟨b, e1, e2⟩⟩⟩
theorem WhyI.same {H H' : Hp} {D : Addr} {m l : Int} {ss : List (List Rat)} {n : Nat} {us : List V} (h : WhyI H D m l ss n us) (s : Same H H') : WhyI H' D m l ss n us :=
  ⟨h.1, fun i hi => ⟨(h.2 i hi).1, fun e => let ⟨b, e1, n, e2⟩ := (h.2 i hi).2 e; ⟨b, e1, n, s _ _ e2⟩⟩⟩
theorem WhyI.more {H : Hp} {D : Addr} {m l : Int} {ss : List (List Rat)} {n : Nat} {us : List V} {x : V} {o : HO} (h : WhyI H D m l ss n us) (h1 : moved m l ss (n + 1) = moved m l ss n → x = .non)
    (h2 : moved m l ss (n + 1) ≠ moved m l ss n → ∃ b, x = .ref b ∧ b ≠ D ∧ H b = some (.lst (rowM m (tog (ss.take (n + 1)))))) : WhyI (upd H D o) D m l ss (n + 1) (us ++ [x]) := by
  refine ⟨by rw [List.length_append, h.1]; rfl, fun i hi => ?_⟩
  by_cases c : i < n
  · rw [List.getElem?_append_left (by rw [h.1]; exact c)]
    refine ⟨(h.2 i c).1, fun e => ?_⟩
    obtain ⟨b, e1, n, e2⟩ := (h.2 i c).2 e
    exact ⟨b, e1, n, by rw [upd_ne n]; exact e2⟩
  · have : i = n := by omega
    subst this
    rw [List.getElem?_append_right (by rw [h.1]; exact Nat.le_refl _), h.1, Nat.sub_self]
    refine ⟨fun e => by rw [h1 e]; rfl, fun e => ?_⟩
    obtain ⟨b, rfl, n, e2⟩ := h2 e
    exact ⟨b, rfl, n, by rw [upd_ne n]; exact e2⟩
def spChosen : Sp := fun vs H Q _ => ∃ (a : Addr) (ws : List V) (ss : List (List Rat)) (m l : Int), vs = [.ref a, .int m, .int l] ∧ H a = some (.lst ws) ∧ SeL H ws ss ∧ (∀ s ∈ ss, Sect s) ∧ 0 < ss.length ∧ ss.length ≤ 4 ∧ (1 ≤ m ∧ m ≤ 1000000000000) ∧ (1 ≤ l ∧ l ≤ 1000000000000) ∧
  ∀ p pS pE pW us H', H p = none → Same H H' → H' p = some (.tup [.ref pS, .ref pE, .ref pW]) → H' pS = some (.lst (totL ss.length fun i => (moved m l ss (i + 1) : Int) - (moved m l ss i : Int))) → Fr H' pE (errP (moved m l ss) ss ss.length) → H' pW = some (.lst us) → WhyAt H' m l ss ss.length us → Q (.ref p) H'
section
variable {P : Program} {w : World} {K : PySem.W.Frag} {mg : Str → Option Value} {base : Heap}
theorem sc_error_by : FnScope ["sums", "sections", "halves", "total"] ["sums", "sections"] (defScope s_error_by) := ⟨rfl, rfl, rfl, by decide +kernel, rfl, by decide +kernel, by decide +kernel⟩
theorem ok_error_by {f : Addr} {fd : FuncData} (F : Fun K "error_by" "error_by" s_error_by f fd) (z : Zs mg) (c_lowest : Cal P w K mg base 2 "lowest" ["top", "bottom"] spLow) (c_sum_of_products : Cal P w K mg base 4 "sum_of_products" ["xs", "ys"] (spSop K)) (c_sizes_behind : Cal P w K mg base 9 "sizes_behind" ["sections"] (spBeh K)) : FnOk P w K mg base CX0 10 f fd ["sums", "sections"] (spErr K) := by
  refine F.ok sc_error_by (fun vs H Q E h => ?_) (fun cdv A outer s H vs Q E hr h => ?_)
  · obtain ⟨a, c, ws, ss, Tm, rfl, _⟩ := h
    rfl
  · obtain ⟨a, c, ws, ss, Tm, rfl, ha, hc, hs, sec, n0, n4, hT, k⟩ := h
    refine ⟨_, (pss_cons (ps_setLc (i := 2) (own := [("total", 3)]) (g := gName 3) (tt := tYes) (te := (tCall spLow [] E0 (tCons (tOp (rI CShl fun i j => V.int (i * 2 ^ j.toNat)) (tC (.int 1)) (tVar 3)) (tCons (tC (.int 2)) tNil)))) (by rfl) sc_error_by.nd rfl rfl (sw_true rfl rfl rfl (by decide +kernel)) (pi_list (pv 0)) (blkOk_by (own := [("total", 3)]) (N := ["sums", "sections", "halves", "total"]) (sc := defScope s_error_by) (by decide +kernel)) (fun _ _ _ _ _ => by exact (pg_name (i := 3) sc_error_by.nd rfl (.inl rfl))) (fun _ _ _ _ _ => by exact pts_nil) (fun _ _ _ _ _ => by exact (pe_cal c_lowest hr (pa_cons (pe_op op_shlW pe_int (pv 3)) (pa_cons pe_int pa_nil)))))
      (pss_one (ps_ret (pe_cal c_sum_of_products hr (pa_cons (pv 2) (pa_cons (pe_cal c_sizes_behind hr (pa_cons (pv 1) pa_nil)) pa_nil)))))), ?_⟩
    refine ⟨_, rfl, a, rfl, ⟨_, SqL.of ha⟩, fun D hD => lc_list (K := K) (a := a) (xs := totL ss.length fun i => (Tm (i + 1) : Int)) (fun i G => Same H G ∧ FrL G D (halvesL Tm i)) ⟨same_new hD, [], upd_same, .nil⟩ (fun i G _ hP => SqL.of (hP.1 _ _ ha)) (fun i x G hx hP => ?_) (fun G hP => ?_)⟩
    · obtain ⟨sG, vs, hacc, fv⟩ := hP
      have li := (List.getElem?_eq_some_iff.mp hx).1
      rw [totL_len] at li
      rw [totL_at _ li] at hx
      cases hx
      have t160 := hT (i + 1) (by omega)
      refine ⟨rfl, _, rfl, _, _, rfl, rfl, shl_ok (n := 1) (by decide) (by omega), _, _, rfl, by decide, by exact Nat.lt_of_lt_of_le (show (2 : Int).natAbs < 2 ^ 2 by decide) (Nat.pow_le_pow_right (by decide) (by decide)), fun p hp => ?_⟩
      have sN := same_new (o := .tup [.int (lowT (1 * 2 ^ ((Tm (i + 1) : Nat) : Int).toNat) 2), .int (lowB (1 * 2 ^ ((Tm (i + 1) : Nat) : Int).toNat) 2)]) hp
      have nD : p ≠ D := fun e => by
        rw [e, hacc] at hp
        cases hp
      have lv := FrsAt.len fv
      unfold halvesL at lv
      rw [List.length_map, List.length_range] at lv
      have fp := Fr.low (q := Rat.divInt (2 ^ Tm (i + 1)) 2) (by decide) (by rw [Int.one_mul, Int.toNat_natCast]) (upd_same (H := G) (a := p) (o := .tup [.int (lowT (1 * 2 ^ ((Tm (i + 1) : Nat) : Int).toNat) 2), .int (lowB (1 * 2 ^ ((Tm (i + 1) : Nat) : Int).toNat) 2)]))
      refine ⟨_, sN _ _ hacc, small1000 (by omega), fun b o e => ?_, vs ++ [.ref p], upd_same, ?_⟩
      · rw [upd_ne (ne_of_none e hD)]
        exact sN _ _ (sG _ _ e)
      · unfold halvesL
        rw [List.range_succ, List.map_append]
        refine FrsAt.app (PrsAt.but (PrsAt.same fv sN) SameBut.upd (sN _ _ hacc)) (FrsAt.one ?_)
        show (upd (upd G p _) D _) p = _
        rw [upd_ne nD]
        exact fp
    · obtain ⟨sG, fD⟩ := hP
      rw [totL_len] at fD
      refine ⟨_, rfl, _, rfl, c, ws, ss, rfl, sG _ _ hc, hs.same sG, sec, n0, n4, fun b G2 hb s2 f2 => ?_⟩
      refine ⟨D, b, _, _, _, _, _, _, rfl, fD.same s2, f2, halves_bnd hT, beh_bnd sec n4, ?_, fun p G3 hp s3 f3 => ?_⟩
      · unfold halvesL
        rw [List.length_map, List.length_range]
        omega
      · rw [err_dot] at f3
        have SS := sG.trans s2
        exact k p G3 (SS.free hp) (SS.trans s3) f3
end
end E1

namespace E1
open PySem PySem.Spec PyProof.Rows L2
/-! ### orders -/
def nI (n : Nat) : V := .int (n : Int)
def more (o : List Nat) (k : Nat) : List (List Nat) := ((List.range k).filter fun x => !o.contains x).map fun x => o ++ [x]
theorem more_succ (o : List Nat) (k : Nat) : more o (k + 1) = more o k ++ (if (!o.contains k) = true then [o ++ [k]] else []) := by
  unfold more
  rw [List.range_succ, List.filter_append, List.map_append]
  congr 1
  by_cases h : (!o.contains k) = true
  · rw [if_pos h]
    simp only [List.filter, h]
    rfl
  · have h2 : (!o.contains k) = false := Bool.not_eq_true _ ▸ h
    rw [if_neg h]
    simp only [List.filter, h2]
    rfl
theorem more_len (o : List Nat) (k : Nat) : (more o k).length ≤ k := by
  unfold more
  rw [List.length_map]
  exact Nat.le_trans (List.length_filter_le _ _) (by rw [List.length_range]; exact Nat.le_refl _)
def grown (n : Nat) (os : List (List Nat)) : List (List Nat) := os.flatMap fun o => more o n
theorem grown_snoc (n : Nat) (os : List (List Nat)) (o : List Nat) : grown n (os ++ [o]) = grown n os ++ more o n := by
  unfold grown
  rw [List.flatMap_append]
  simp
theorem grown_len (n : Nat) : ∀ os : List (List Nat), (grown n os).length ≤ os.length * n
  | [] => by simp [grown]
  | o :: os => by
    have i := grown_len n os
    have := more_len o n
    unfold grown at i ⊢
    rw [List.flatMap_cons, List.length_append, List.length_cons, Nat.succ_mul]
    omega
def ords (n : Nat) : Nat → List (List Nat)
  | 0 => [[]]
  | k + 1 => grown n (ords n k)
theorem ords_len (n : Nat) (hn : n ≤ 4) : ∀ k, (ords n k).length ≤ 4 ^ k
  | 0 => by simp [ords]
  | k + 1 => by
    have i := ords_len n hn k
    have := grown_len n (ords n k)
    show (grown n (ords n k)).length ≤ _
    refine Nat.le_trans this ?_
    rw [Nat.pow_succ]
    exact Nat.mul_le_mul i hn
theorem ords_mem (n : Nat) : ∀ k, ∀ o ∈ ords n k, o.length = k ∧ ∀ x ∈ o, x < n
  | 0, o, h => by
    rw [List.mem_singleton.mp h]
    exact ⟨rfl, fun x h => absurd h List.not_mem_nil⟩
  | k + 1, o, h => by
    obtain ⟨p, hp, ho⟩ := List.mem_flatMap.mp h
    obtain ⟨i1, i2⟩ := ords_mem n k p hp
    obtain ⟨x, hx, rfl⟩ := List.mem_map.mp ho
    have hx2 := List.mem_range.mp (List.mem_filter.mp hx).1
    refine ⟨by rw [List.length_append, i1]; rfl, fun y hy => ?_⟩
    rcases List.mem_append.mp hy with hy | hy
    · exact i2 y hy
    · rw [List.mem_singleton.mp hy]
      exact hx2
theorem ords_ne {n : Nat} (h1 : 1 ≤ n) (h4 : n ≤ 4) : 0 < (ords n n).length := by
  rcases (by omega : n = 1 ∨ n = 2 ∨ n = 3 ∨ n = 4) with rfl | rfl | rfl | rfl <;> decide
theorem ords_24 {n : Nat} (h4 : n ≤ 4) : (ords n n).length ≤ 256 :=
  Nat.le_trans (ords_len n h4 n) (Nat.pow_le_pow_right (by decide) h4)
theorem in_has (o : List Nat) (k : Nat) : inV (nI k) (o.map nI) = o.contains k := by
  induction o with
  | nil => rfl
  | cons x o ih =>
    rw [List.map_cons, List.contains_cons, ← ih]
    show (eqV (nI x) (nI k) || inV (nI k) (o.map nI)) = _
    congr 1
    show ((x : Int) == (k : Int)) = (k == x)
    rw [Bool.eq_iff_iff, beq_iff_eq, beq_iff_eq]
    omega
theorem flat_nI (o : List Nat) : (o.map nI).all flatV = true := by
  rw [List.all_eq_true]
  intro x h
  obtain ⟨y, _, rfl⟩ := List.mem_map.mp h
  rfl
/-- a list of lists of numbers, at addresses of a kind -/
def OsL (N : Addr → Prop) (H : Hp) (vs : List V) (os : List (List Nat)) : Prop := vs.length = os.length ∧ ∀ (i : Nat) (o : List Nat), os[i]? = some o → ∃ b, vs[i]? = some (.ref b) ∧ N b ∧ H b = some (.lst (o.map nI))
section
variable {N N' : Addr → Prop} {H H' : Hp} {vs us : List V} {os ps : List (List Nat)}
theorem OsL.same (h : OsL N H vs os) (s : Same H H') : OsL N H' vs os := ⟨h.1, fun i o e => let ⟨b, e1, n, f⟩ := h.2 i o e; ⟨b, e1, n, s _ _ f⟩⟩
theorem OsL.mono (h : OsL N H vs os) (m : ∀ b l, N b → H b = some (.lst l) → N' b) : OsL N' H vs os := ⟨h.1, fun i o e => let ⟨b, e1, n, f⟩ := h.2 i o e; ⟨b, e1, m b _ n f, f⟩⟩
theorem OsL.nil : OsL N H [] [] := ⟨rfl, fun i o e => nomatch e⟩
theorem OsL.get (h : OsL N H vs os) {i : Nat} {v : V} (e : vs[i]? = some v) : ∃ b o, v = .ref b ∧ os[i]? = some o ∧ N b ∧ H b = some (.lst (o.map nI)) := by
  have hi := (List.getElem?_eq_some_iff.mp e).1
  have e2 : os[i]? = some (os[i]'(by rw [← h.1]; exact hi)) := List.getElem?_eq_getElem _
  obtain ⟨b, e3, n, f⟩ := h.2 i _ e2
  rw [e] at e3
  cases e3
  exact ⟨b, _, rfl, e2, n, f⟩
theorem OsL.app (h : OsL N H vs os) (g : OsL N H us ps) : OsL N H (vs ++ us) (os ++ ps) := by
  refine ⟨by rw [List.length_append, List.length_append, h.1, g.1], fun i s e => ?_⟩
  by_cases c : i < os.length
  · rw [List.getElem?_append_left c] at e
    rw [List.getElem?_append_left (by rw [h.1]; exact c)]
    exact h.2 i s e
  · rw [List.getElem?_append_right (by omega)] at e
    rw [List.getElem?_append_right (by rw [h.1]; omega), h.1]
    exact g.2 _ s e
theorem OsL.one {b : Addr} {o : List Nat} (n : N b) (h : H b = some (.lst (o.map nI))) : OsL N H [.ref b] [o] := by
  refine ⟨rfl, fun i t e => ?_⟩
  match i with
  | 0 => cases e; exact ⟨b, rfl, n, h⟩
  | i + 1 => cases e
theorem OsL.but {D : Addr} (h : OsL N H vs os) (s : SameBut D H H') (n : ∀ b, N b → b ≠ D) : OsL N H' vs os := ⟨h.1, fun i o e => let ⟨b, e1, m, f⟩ := h.2 i o e; ⟨b, e1, m, s _ _ (n b m) f⟩⟩
end
/-! ### a chain in an order -/
def sel (ss : List (List Rat)) (o : List Nat) : List (List Rat) := o.map fun x => ss.getD x []
theorem sel_len (ss : List (List Rat)) (o : List Nat) : (sel ss o).length = o.length := List.length_map _
theorem sel_sect {ss : List (List Rat)} {o : List Nat} (h : ∀ s ∈ ss, Sect s) (ho : ∀ x ∈ o, x < ss.length) : ∀ s ∈ sel ss o, Sect s := fun s hs => by
  obtain ⟨x, hx, rfl⟩ := List.mem_map.mp hs
  have := ho x hx
  rw [List.getD_eq_getElem?_getD, List.getElem?_eq_getElem this]
  exact h _ (List.getElem_mem this)
/-- the first of the least -/
def lq (a b : Rat) : Bool := decide (a.num * (b.den : Int) < b.num * (a.den : Int))
def bst (f : Nat → Rat) : Nat → Nat
  | 0 => 0
  | i + 1 => if lq (f i) (f (bst f i)) = true then i else bst f i
theorem bst_lt (f : Nat → Rat) : ∀ n, 0 < n → bst f n < n
  | 1, _ => by
    show (if _ then 0 else 0) < 1
    split <;> decide
  | n + 2, _ => by
    have := bst_lt f (n + 1) (by omega)
    show (if lq (f (n + 1)) (f (bst f (n + 1))) = true then n + 1 else bst f (n + 1)) < n + 2
    split
    · exact Nat.lt_succ_self _
    · exact Nat.lt_succ_of_lt this
/-! ### other shifts -/
theorem tot_le {m l : Int} {S : Nat → Rat} {n : Nat} (hS : ∀ i, i < n → fitB m l (S i) 160 = true) {d : Nat → Nat} (d0 : ∀ i, i < n → d i ≤ d (i + 1)) (hd : ∀ i, i < n → fitB m l (S i) (d (i + 1)) = true) : ∀ i, i ≤ n → tot m l S i ≤ d i
  | 0, _ => Nat.zero_le _
  | i + 1, hi => by
    have a := tot_le hS d0 hd i (by omega)
    have b := d0 i (by omega)
    obtain ⟨c1, c2, c3⟩ := (tot_ok hS (i + 1) hi).2 i (Nat.lt_succ_self i)
    apply Nat.le_of_not_lt
    intro z
    have := c3 (d (i + 1)) (by omega) z
    rw [hd i (by omega)] at this
    cases this
theorem half_eq (t : Nat) : Rat.divInt (2 ^ t) 2 = ((2 ^ t : Nat) : Rat) * (1 / 2) := by
  rw [Rat.divInt_eq_div]
  push_cast
  grind
theorem half_le {t u : Nat} (h : t ≤ u) : Rat.divInt (2 ^ t) 2 ≤ Rat.divInt (2 ^ u) 2 := by
  rw [half_eq, half_eq]
  have : ((2 ^ t : Nat) : Rat) ≤ ((2 ^ u : Nat) : Rat) := by exact_mod_cast Nat.pow_le_pow_right (by decide) h
  grind
theorem aR_nn (q : Rat) : 0 ≤ aR q := by
  rw [← Rat.num_nonneg]
  have e := congrArg Prod.fst (aR_pr q)
  show 0 ≤ (pr (aR q)).1
  rw [e]
  show 0 ≤ (if q.num < 0 then -q.num else q.num)
  split <;> omega
theorem absS_nn : ∀ qs : List Rat, 0 ≤ absS qs
  | [] => by decide +kernel
  | q :: qs => by
    have a := aR_nn q
    have b := absS_nn qs
    show 0 ≤ aR q + absS qs
    grind
theorem mul_le_r {a b c : Rat} (h : a ≤ b) (hc : 0 ≤ c) : a * c ≤ b * c := Rat.mul_le_mul_of_nonneg_right h hc
theorem errP_le {T U : Nat → Nat} {ss : List (List Rat)} : ∀ n, (∀ i, i ≤ n → T i ≤ U i) → errP T ss n ≤ errP U ss n
  | 0, _ => by
    show (0 : Rat) ≤ 0
    decide +kernel
  | n + 1, h => by
    have a := errP_le (T := T) (U := U) (ss := ss) n fun i hi => h i (by omega)
    have b : errT T ss n ≤ errT U ss n := mul_le_r (half_le (h (n + 1) (Nat.le_refl _))) (absS_nn _)
    show errP T ss n + errT T ss n ≤ errP U ss n + errT U ss n
    grind
theorem walk_w {J : It} {n : Nat} {G : Hp → Prop} {Y : Nat → Hp → V → Hp → Prop} (wk : Walk J n G Y) {T : V → Hp → (Hp → Prop) → Prop} {H0 : Hp} {Qd : Hp → Prop} (Pv : Nat → Hp → Prop) (h0 : Pv 0 H0) (hG : ∀ i H, i ≤ n → Pv i H → G H)
    (hs : ∀ i x H H', i < n → Pv i H → Y i H x H' → T x H' (Pv (i + 1))) (hd : ∀ H, Pv n H → Qd H) :
    ∃ W : Nat → Nat → Hp → Prop, (∃ m, W 0 m H0) ∧ ∀ i m H, W i m H → (J.stop i H ∧ Qd H) ∨ (J.go i H ∧ ∃ Nx : Hp → Prop, (∀ H', Nx H' → ∃ m', m' < m ∧ W (i + 1) m' H') ∧ ∀ x H', J.yld i H x H' → T x H' Nx) := by
  refine ⟨fun i m G' => i + m = n ∧ Pv i G', ⟨n, Nat.zero_add n, h0⟩, fun i m G' ⟨e, p⟩ => ?_⟩
  have good := hG i G' (by omega) p
  cases m with
  | zero =>
    have e' : i = n := by omega
    subst e'
    exact .inl ⟨wk.stops G' good, hd G' p⟩
  | succ m =>
    have hi : i < n := by omega
    exact .inr ⟨wk.goes i G' hi good, Pv (i + 1), fun G2 p2 => ⟨m, by omega, by omega, p2⟩, fun x G2 y => hs i x G' G2 hi p (wk.yields i G' x G2 hi good y)⟩
def spOrds : Sp := fun vs H Q _ => ∃ n : Nat, vs = [.int (n : Nat)] ∧ n ≤ 4 ∧ ∀ p us H', H p = none → Same H H' → H' p = some (.lst us) → OsL (fun b => H b = none) H' us (ords n n) → Q (.ref p) H'
/-- what is told of an order -/
def RwAt (N : Addr → Prop) (H : Hp) (m l : Int) (ss : List (List Rat)) (p : Addr) (o : List Nat) : Prop := ∃ a1 a2 a3, H p = some (.tup [.ref a1, .ref a2, .ref a3]) ∧ N a1 ∧ H a1 = some (.lst (o.map nI)) ∧ N a2 ∧ H a2 = some (.lst (totL o.length fun i => (moved m l (sel ss o) (i + 1) : Int) - (moved m l (sel ss o) i : Int))) ∧ Fr H a3 (errP (moved m l (sel ss o)) (sel ss o) o.length)
def RwL (N : Addr → Prop) (H : Hp) (m l : Int) (ss : List (List Rat)) (vs : List V) (os : List (List Nat)) : Prop := vs.length = os.length ∧ ∀ (i : Nat) (o : List Nat), os[i]? = some o → ∃ p, vs[i]? = some (.ref p) ∧ RwAt N H m l ss p o
section
variable {N N' : Addr → Prop} {H H' : Hp} {m l : Int} {ss : List (List Rat)} {vs us : List V} {os ps : List (List Nat)} {p : Addr} {o : List Nat}
theorem RwAt.same (h : RwAt N H m l ss p o) (s : Same H H') : RwAt N H' m l ss p o := by
  obtain ⟨a1, a2, a3, e, n1, e1, n2, e2, e3⟩ := h
  exact ⟨a1, a2, a3, s _ _ e, n1, s _ _ e1, n2, s _ _ e2, s _ _ e3⟩
theorem RwAt.mono (h : RwAt N H m l ss p o) (g : ∀ b ws, N b → H b = some (.lst ws) → N' b) : RwAt N' H m l ss p o := by
  obtain ⟨a1, a2, a3, e, n1, e1, n2, e2, e3⟩ := h
  exact ⟨a1, a2, a3, e, g _ _ n1 e1, e1, g _ _ n2 e2, e2, e3⟩
theorem RwAt.but {D : Addr} {xs : List V} (h : RwAt N H m l ss p o) (s : SameBut D H H') (hD : H D = some (.lst xs)) (n : ∀ b, N b → b ≠ D) : RwAt N H' m l ss p o := by
  obtain ⟨a1, a2, a3, e, n1, e1, n2, e2, e3⟩ := h
  have x1 : p ≠ D := fun z => by
    rw [z, hD] at e
    cases e
  have x3 : a3 ≠ D := fun z => by
    rw [z] at e3
    have e4 := hD.symm.trans e3
    cases e4
  exact ⟨a1, a2, a3, s _ _ x1 e, n1, s _ _ (n _ n1) e1, n2, s _ _ (n _ n2) e2, s _ _ x3 e3⟩
theorem RwL.same (h : RwL N H m l ss vs os) (s : Same H H') : RwL N H' m l ss vs os := ⟨h.1, fun i o e => let ⟨p, e1, f⟩ := h.2 i o e; ⟨p, e1, f.same s⟩⟩
theorem RwL.mono (h : RwL N H m l ss vs os) (g : ∀ b ws, N b → H b = some (.lst ws) → N' b) : RwL N' H m l ss vs os := ⟨h.1, fun i o e => let ⟨p, e1, f⟩ := h.2 i o e; ⟨p, e1, f.mono g⟩⟩
theorem RwL.but {D : Addr} {xs : List V} (h : RwL N H m l ss vs os) (s : SameBut D H H') (hD : H D = some (.lst xs)) (n : ∀ b, N b → b ≠ D) : RwL N H' m l ss vs os := ⟨h.1, fun i o e => let ⟨p, e1, f⟩ := h.2 i o e; ⟨p, e1, f.but s hD n⟩⟩
theorem RwL.nil : RwL N H m l ss [] [] := ⟨rfl, fun i o e => nomatch e⟩
theorem RwL.snoc (h : RwL N H m l ss vs os) (g : RwAt N H m l ss p o) : RwL N H m l ss (vs ++ [.ref p]) (os ++ [o]) := by
  refine ⟨by rw [List.length_append, List.length_append, h.1]; rfl, fun i s e => ?_⟩
  by_cases c : i < os.length
  · rw [List.getElem?_append_left c] at e
    rw [List.getElem?_append_left (by rw [h.1]; exact c)]
    exact h.2 i s e
  · rw [List.getElem?_append_right (by omega)] at e
    have e0 : i - os.length = 0 := by
      have := (List.getElem?_eq_some_iff.mp e).1
      simp at this
      omega
    rw [e0] at e
    cases e
    rw [List.getElem?_append_right (by rw [h.1]; omega), h.1, e0]
    exact ⟨p, rfl, g⟩
theorem RwL.get (h : RwL N H m l ss vs os) {i : Nat} (hi : i < os.length) : ∃ p, vs[i]? = some (.ref p) ∧ RwAt N H m l ss p os[i] := h.2 i _ (List.getElem?_eq_getElem hi)
end
/-- the error of an order -/
def errO (m l : Int) (ss : List (List Rat)) (os : List (List Nat)) (i : Nat) : Rat := errP (moved m l (sel ss (os.getD i []))) (sel ss (os.getD i [])) (os.getD i []).length
theorem errO_at {m l : Int} {ss : List (List Rat)} {os : List (List Nat)} {i : Nat} {o : List Nat} (h : os[i]? = some o) : errO m l ss os i = errP (moved m l (sel ss o)) (sel ss o) o.length := by
  unfold errO
  rw [List.getD_eq_getElem?_getD, h]
  rfl
def spBest : Sp := fun vs H Q _ => ∃ (a : Addr) (ws : List V) (ss : List (List Rat)) (m l : Int), vs = [.ref a, .int m, .int l] ∧ H a = some (.lst ws) ∧ SeL H ws ss ∧ (∀ s ∈ ss, Sect s) ∧ 0 < ss.length ∧ ss.length ≤ 4 ∧ (1 ≤ m ∧ m ≤ 1000000000000) ∧ (1 ≤ l ∧ l ≤ 1000000000000) ∧
  ∀ p pO pS pE pR us o H', H p = none → Same H H' → H pO = none → H pR = none → (ords ss.length ss.length)[bst (errO m l ss (ords ss.length ss.length)) (ords ss.length ss.length).length]? = some o →
    H' p = some (.tup [.ref pO, .ref pS, .ref pE, .ref pR]) → H' pO = some (.lst (o.map nI)) → H' pS = some (.lst (totL o.length fun i => (moved m l (sel ss o) (i + 1) : Int) - (moved m l (sel ss o) i : Int))) → Fr H' pE (errP (moved m l (sel ss o)) (sel ss o) o.length) → H' pR = some (.lst us) → RwL (fun b => H b = none ∧ b ≠ pO ∧ b ≠ pR) H' m l ss us (ords ss.length ss.length) → Q (.ref p) H'
theorem bits_1900 {q : Rat} (h : q.num.natAbs < 2 ^ 1000 ∧ q.den < 2 ^ 1000) : q.num.natAbs < 2 ^ 1900 ∧ ((q.den : Int)).natAbs < 2 ^ 1900 :=
  ⟨Nat.lt_of_lt_of_le h.1 (Nat.pow_le_pow_right (by decide) (by decide)), by rw [Int.natAbs_natCast]; exact Nat.lt_of_lt_of_le h.2 (Nat.pow_le_pow_right (by decide) (by decide))⟩
section
variable {P : Program} {w : World} {K : PySem.W.Frag} {mg : Str → Option Value} {base : Heap}
theorem sc_orders_of : FnScope ["many", "orders", "place", "ahead", "number"] ["many"] (defScope s_orders_of) := ⟨rfl, rfl, rfl, by decide +kernel, rfl, by decide +kernel, by decide +kernel⟩
theorem ok_orders_of {f : Addr} {fd : FuncData} {k : Nat} (F : Fun K "orders_of" "orders_of" s_orders_of f fd) (z : Zs mg) : FnOk P w K mg base CX0 (k + 1) f fd ["many"] spOrds := by
  refine F.ok sc_orders_of (fun vs H Q E h => ?_) (fun cdv A outer s H vs Q E hr h => ?_)
  · obtain ⟨n, rfl, _⟩ := h
    rfl
  · obtain ⟨n, rfl, n4, k⟩ := h
    refine ⟨_, (pss_cons (ps_set (i := 1) sc_orders_of.nd rfl (.inl rfl) (pe_lst (pa_cons (pe_lst pa_nil) pa_nil)))
      (pss_cons (ps_for PassesOwn.never rfl (pi_range1 (by rfl) z.range (pa_cons (pv 0) pa_nil)) (pg_name (i := 2) sc_orders_of.nd rfl (.inl rfl)) (pss_one (ps_setLc2 (i := 1) (own := [("ahead", 3), ("number", 4)]) (vs1 := [4]) (g := gName 3) (g1 := gName 4) (tt := tYes) (tt1 := (tTest (tOp (rIn K true) (tVar 4) (tVar 3)))) (wi1 := iRng1 (tCons (tVar 0) tNil)) (te := tLst (StX.tStar K (tVar 3) (tCons (tVar 4) tNil))) (by rfl) sc_orders_of.nd rfl rfl (sw_true rfl rfl rfl (by decide +kernel)) (pi_list (pv 1)) (blkOk_by (own := [("ahead", 3), ("number", 4)]) (N := ["many", "orders", "place", "ahead", "number"]) (sc := defScope s_orders_of) (by decide +kernel)) (by decide) (fun _ _ _ _ _ => by exact (pg_name (i := 3) sc_orders_of.nd rfl (.inl rfl))) (fun _ _ _ _ _ => by exact pts_nil) (fun _ _ _ _ _ => by exact (pi_range1 (by rfl) z.range (pa_cons (pv 0) pa_nil))) (fun _ _ _ _ _ => by exact (pg_name (i := 4) sc_orders_of.nd rfl (.inl rfl))) (fun _ _ _ _ _ => by exact (pts_one (pt_cmpR op_notIn_seq (pv 4) (pv 3) (by rfl)))) (fun _ _ _ _ _ => by exact (pe_lst (StX.pa_star (pv 3) (pa_cons (pv 4) pa_nil)))))))
      (pss_one (ps_ret (pv 1))))), ?_⟩
    refine ⟨(by show 0 ≤ sizeLine; decide), fun e0 he0 => ⟨(by show 1 ≤ sizeLine; decide), fun l0 hl0 => ?_⟩⟩
    have s0 := same_new (o := .lst []) he0
    have s1 := same_new (o := .lst [.ref e0]) hl0
    have f0 : (upd (upd H e0 (.lst [])) l0 (.lst [.ref e0])) e0 = some (.lst (([] : List Nat).map nI)) := s1 _ _ upd_same
    refine ⟨_, rfl, _, rfl, by omega, by omega, ?_⟩
    rw [Int.toNat_natCast]
    refine for_range (lo := 0) (n := n) (fun i σ G => Same H G ∧ ∃ (l : Addr) (vs : List V) (y2 y3 y4 : Option V), σ = [some (.int (n : Nat)), some (.ref l), y2, y3, y4] ∧ H l = none ∧ G l = some (.lst vs) ∧ OsL (fun b => H b = none) G vs (ords n i)) ⟨s0.trans s1, l0, _, none, none, none, rfl, s0.free hl0, upd_same, OsL.one (N := fun b => H b = none) he0 f0⟩ (fun i σ G hi hP => ?_) (fun σ G hP => ?_)
    · obtain ⟨sG, l, vs, y2, y3, y4, rfl, hl, hvs, ho⟩ := hP
      have ol : (ords n i).length ≤ 64 := Nat.le_trans (ords_len n n4 i) (Nat.pow_le_pow_right (j := 3) (by decide) (by omega))
      refine ⟨_, rfl, l, rfl, ⟨_, SqL.of hvs⟩, fun D hD => ?_⟩
      have hDH := sG.free hD
      refine walk_w (walk_list (K := K) (a := l) (xs := vs)) (fun j X => Same G X ∧ ∃ us, X D = some (.lst us) ∧ OsL (fun b => H b = none ∧ b ≠ D) X us (grown n ((ords n i).take j))) ⟨same_new hD, [], upd_same, OsL.nil⟩ (fun j X _ hP => SqL.of (hP.1 _ _ hvs)) (fun j x X X2 hj hP hY => ?_) (fun X hP => ?_)
      · obtain ⟨sX, us, hus, hu⟩ := hP
        obtain ⟨rfl, hY⟩ := hY
        obtain ⟨b, o, rfl, hoj, nb, hb⟩ := ho.get hY
        have lj := (List.getElem?_eq_some_iff.mp hoj).1
        have lo := (ords_mem n i o (List.mem_of_getElem? hoj)).1
        refine ⟨rfl, _, rfl, _, rfl, by omega, by omega, ?_⟩
        rw [Int.toNat_natCast]
        refine walk_w (walk_range (lo := 0) (n := n)) (fun q X => Same G X ∧ ∃ us, X D = some (.lst us) ∧ OsL (fun b => H b = none ∧ b ≠ D) X us (grown n ((ords n i).take j) ++ more o q)) ⟨sX, us, hus, by rw [show more o 0 = [] from rfl, List.append_nil]; exact hu⟩ (fun q X _ _ => trivial) (fun q x X X2 hq hP hY => ?_) (fun X hP => ?_)
        · obtain ⟨sX, us, hus, hu⟩ := hP
          obtain ⟨rfl, rfl⟩ := hY
          dsimp only
          rw [show (0 : Int) + (q : Nat) = (q : Nat) from Int.zero_add _]
          have gl := grown_len n ((ords n i).take j)
          have ml := more_len o q
          have tl : ((ords n i).take j).length ≤ 64 := by
            rw [List.length_take]
            omega
          have tn : ((ords n i).take j).length * n ≤ 64 * 4 := Nat.mul_le_mul tl n4
          have lu : us.length ≤ 260 := by
            rw [hu.1, List.length_append]
            omega
          refine ⟨rfl, _, rfl, _, rfl, b, _, rfl, .inl (SqL.of (sX _ _ hb)), rfl, flat_nI o, _, rfl, ?_⟩
          have ei : (!inV (V.int (q : Nat)) (o.map nI)) = (!o.contains q) := congrArg not (in_has o q)
          refine iteC ei ?_
          refine ite2 (fun c => ?_) (fun c => ?_)
          · refine ⟨_, rfl, b, _, rfl, .inr (SqL.of (sX _ _ hb)), _, rfl, Nat.le_trans (show (o.map nI ++ [V.int (q : Nat)]).length ≤ 1000 by rw [List.length_append, List.length_map]; show o.length + 1 ≤ 1000; omega) (by decide), fun t ht => ?_⟩
            have sN := same_new (o := .lst (o.map nI ++ [V.int (q : Nat)])) ht
            have ntD : t ≠ D := fun e => by
              rw [e, hus] at ht
              cases ht
            have hus2 := sN _ _ hus
            have ct : (upd (upd X2 t (.lst (o.map nI ++ [V.int (q : Nat)]))) D (.lst (us ++ [.ref t]))) t = some (.lst ((o ++ [q]).map nI)) := by
              rw [upd_ne ntD, upd_same, List.map_append]
              rfl
            refine ⟨_, hus2, small1000 (by omega), fun b o e => ?_, us ++ [.ref t], upd_same, ?_⟩
            · rw [upd_ne (ne_of_none e hD)]
              exact sN _ _ (sX _ _ e)
            · rw [more_succ, if_pos c, ← List.append_assoc]
              exact ((hu.same sN).but SameBut.upd fun b nb => nb.2).app (OsL.one ⟨(sG.trans sX).free ht, ntD⟩ ct)
          · refine ⟨sX, us, hus, ?_⟩
            rw [more_succ, if_neg c, List.append_nil]
            exact hu
        · obtain ⟨sX, us, hus, hu⟩ := hP
          refine ⟨sX, us, hus, ?_⟩
          rw [take_more hoj, grown_snoc]
          exact hu
      · obtain ⟨sX, us, hus, hu⟩ := hP
        rw [ho.1, List.take_of_length_le (Nat.le_refl _)] at hu
        exact ⟨sG.trans sX, D, us, _, _, _, rfl, hDH, hus, hu.mono fun b _ nb _ => nb.1⟩
    · obtain ⟨sG, l, vs, y2, y3, y4, rfl, hl, hvs, ho⟩ := hP
      exact ⟨_, rfl, k l vs G hl sG hvs ho⟩
theorem sc_best_order : FnScope ["sections", "most", "limit", "rows", "best", "order", "ordered", "sums", "shifts", "error", "number"] ["sections", "most", "limit"] (defScope s_best_order) := ⟨rfl, rfl, rfl, by decide +kernel, rfl, by decide +kernel, by decide +kernel⟩
theorem ok_best_order {f : Addr} {fd : FuncData} (F : Fun K "best_order" "best_order" s_best_order f fd) (z : Zs mg) (c_check_chain : Cal P w K mg base 5 "check_chain" ["sections", "most", "limit"] spChkC) (c_products_from : Cal P w K mg base 8 "products_from" ["sections"] spProds) (c_shift_sums : Cal P w K mg base 5 "shift_sums" ["products", "most", "limit"] spShs) (c_shifts_by : Cal P w K mg base 1 "shifts_by" ["sums"] spBy) (c_orders_of : Cal P w K mg base 1 "orders_of" ["many"] spOrds) (c_error_by : Cal P w K mg base 10 "error_by" ["sums", "sections"] (spErr K)) (c_under : Cal P w K mg base 1 "under" ["one", "other"] (spUnder K)) : FnOk P w K mg base CX0 11 f fd ["sections", "most", "limit"] spBest := by
  refine F.ok sc_best_order (fun vs H Q E h => ?_) (fun cdv A outer s H vs Q E hr h => ?_)
  · obtain ⟨a, ws, ss, m, l, rfl, _⟩ := h
    rfl
  · obtain ⟨a, ws, ss, m, l, rfl, ha, hs, sec, n0, n4, hm, hl, k⟩ := h
    refine ⟨_, (pss_cons (ps_expr (pe_cal c_check_chain hr (pa_cons (pv 0) (pa_cons (pv 1) (pa_cons (pv 2) pa_nil)))))
      (pss_cons (ps_set (i := 3) sc_best_order.nd rfl (.inl rfl) (pe_lst pa_nil))
      (pss_cons (ps_set (i := 4) sc_best_order.nd rfl (.inl rfl) pe_int)
      (pss_cons (ps_for PassesOwn.never rfl (pi_list (pe_cal c_orders_of hr (pa_cons (pe_callB call_len_seq (by rfl) z.len PySem.boot_len (pa_cons (pv 0) pa_nil)) pa_nil))) (pg_name (i := 5) sc_best_order.nd rfl (.inl rfl)) (pss_cons (ps_setLc (i := 6) (own := [("number", 10)]) (g := gName 10) (tt := tYes) (te := (tOp (rIxL K) (tVar 0) (tVar 10))) (by rfl) sc_best_order.nd rfl rfl (sw_true rfl rfl rfl (by decide +kernel)) (pi_list (pv 5)) (blkOk_by (own := [("number", 10)]) (N := ["sections", "most", "limit", "rows", "best", "order", "ordered", "sums", "shifts", "error", "number"]) (sc := defScope s_best_order) (by decide +kernel)) (fun _ _ _ _ _ => by exact (pg_name (i := 10) sc_best_order.nd rfl (.inl rfl))) (fun _ _ _ _ _ => by exact pts_nil) (fun _ _ _ _ _ => by exact (pe_ix ix_list (pv 0) (pv 10) (fun _ _ => rfl))))
      (pss_cons (ps_set (i := 7) sc_best_order.nd rfl (.inl rfl) (pe_cal c_shift_sums hr (pa_cons (pe_cal c_products_from hr (pa_cons (pv 6) pa_nil)) (pa_cons (pv 1) (pa_cons (pv 2) pa_nil)))))
      (pss_cons (ps_expr (pe_bm PySem.F.plainAttrs_list PySem.F.slot_list_append PySem.F.type_list_append mt_append (pv 3) (pa_cons (pe_tup (pa_cons (pv 5) (pa_cons (pe_cal c_shifts_by hr (pa_cons (pv 7) pa_nil)) (pa_cons (pe_cal c_error_by hr (pa_cons (pv 7) (pa_cons (pv 6) pa_nil))) pa_nil)))) pa_nil)))
      (pss_one (ps_if (pt_val (pe_cal c_under hr (pa_cons (pe_ix ix_tup (pe_ix ix_list (pv 3) (pe_un un_neg pe_int) (fun _ _ => rfl)) pe_int (fun _ _ => rfl)) (pa_cons (pe_ix ix_tup (pe_ix ix_list (pv 3) (pv 4) (fun _ _ => rfl)) pe_int (fun _ _ => rfl)) pa_nil)))) (pss_one (ps_set (i := 4) sc_best_order.nd rfl (.inl rfl) (pe_op op_sub (pe_callB call_len_seq (by rfl) z.len PySem.boot_len (pa_cons (pv 3) pa_nil)) pe_int))) pss_nil))))))
      (pss_cons (ps_asg (pe_ix ix_list (pv 3) (pv 4) (fun _ _ => rfl)) (pg_tup (by rfl) (pgs_cons (pg_name (i := 5) sc_best_order.nd rfl (.inl rfl)) (pgs_cons (pg_name (i := 8) sc_best_order.nd rfl (.inl rfl)) (pgs_cons (pg_name (i := 9) sc_best_order.nd rfl (.inl rfl)) pgs_nil)))))
      (pss_one (ps_ret (pe_tup (pa_cons (pe_callTy call_list_of (by rfl) z.list (by decide +kernel) (pa_cons (pv 5) pa_nil)) (pa_cons (pe_callTy call_list_of (by rfl) z.list (by decide +kernel) (pa_cons (pv 8) pa_nil)) (pa_cons (pv 9) (pa_cons (pv 3) pa_nil)))))))))))), ?_⟩
    refine ⟨_, rfl, _, rfl, _, rfl, a, ws, ss, m, l, rfl, ha, hs, sec, n0, n4, hm, hl, fun H1 s1 => ?_⟩
    have lw := hs.1
    refine ⟨(by show 0 ≤ sizeLine; decide), fun R hR => ?_⟩
    have s2 := same_new (o := .lst []) hR
    have hR2 : (upd H1 R (.lst [])) R = some (.lst []) := upd_same
    have S2 := s1.trans s2
    have free1 : ∀ b, (upd H1 R (.lst [])) b = none → H1 b = none ∧ b ≠ R := fun b hb => ⟨s2.free hb, fun e => by rw [e, hR2] at hb; cases hb⟩
    generalize upd H1 R (.lst []) = H2 at s2 hR2 S2 free1 ⊢
    refine ⟨_, rfl, a, ws, rfl, .inl (SqL.of (S2 _ _ ha)), ss.length, by rw [lw]; rfl, n4, fun p us H3 hp s3 eus hos => ?_⟩
    have hR3 := s3 _ _ hR2
    have pR : p ≠ R := (free1 p hp).2
    have S3 := S2.trans s3
    generalize hO : ords ss.length ss.length = os at hos k
    have oM : ∀ o ∈ os, o.length = ss.length ∧ ∀ x ∈ o, x < ss.length := fun o ho => ords_mem _ _ o (by rw [hO]; exact ho)
    have o256 : os.length ≤ 256 := by rw [← hO]; exact ords_24 n4
    have o0 : 0 < os.length := by rw [← hO]; exact ords_ne n0 n4
    have T160 : ∀ o ∈ os, ∀ i, i ≤ (sel ss o).length → moved m l (sel ss o) i ≤ 160 := fun o ho i hi => by
      obtain ⟨lo, om⟩ := oM o ho
      have secO := sel_sect sec om
      have lso : (sel ss o).length ≤ 4 := by rw [sel_len]; omega
      exact (tot_ok (m := m) (l := l) (S := fun i => absS (tog ((sel ss o).take (i + 1)))) (n := (sel ss o).length) (fun j hj => fit_160 hm.2 (by omega) hl.1 (Sm.tog (take_sect secO _) (by rw [List.length_take]; omega)).bits.2.2) i hi).1
    have eb9 : ∀ o ∈ os, (errP (moved m l (sel ss o)) (sel ss o) o.length).num.natAbs < 2 ^ 1000 ∧ (errP (moved m l (sel ss o)) (sel ss o) o.length).den < 2 ^ 1000 := fun o ho => by
      obtain ⟨lo, om⟩ := oM o ho
      have secO := sel_sect sec om
      have lso : (sel ss o).length ≤ 4 := by rw [sel_len]; omega
      obtain ⟨d1, d2⟩ := DD2 secO lso
      exact (errP_sm secO lso (T160 o ho) (n := o.length) (by rw [sel_len]; exact Nat.le_refl _)).b9 d1 d2 (Nat.le_refl _) (by decide)
    refine ⟨p, rfl, ⟨_, SqL.of eus⟩, for_list (K := K) (a := p) (xs := us) (fun i σ G => Same H1 G ∧ SameBut R H3 G ∧ ∃ (rv : List V) (y5 y6 y7 y8 y9 y10 : Option V), σ = [some (.ref a), some (.int m), some (.int l), some (.ref R), some (.int (bst (errO m l ss os) i : Nat)), y5, y6, y7, y8, y9, y10] ∧ G R = some (.lst rv) ∧ RwL (fun b => H1 b = none ∧ b ≠ R) G m l ss rv (os.take i)) ⟨s2.trans s3, SameBut.refl _ _, [], none, none, none, none, none, none, rfl, hR3, RwL.nil⟩ (fun i σ G _ hP => SqL.of (hP.2.1 _ _ pR eus)) (fun i x σ G hx hP => ?_) (fun σ G hP => ?_)⟩
    · obtain ⟨sG, dG, rv, y5, y6, y7, y8, y9, y10, rfl, hrv, rw1⟩ := hP
      obtain ⟨b, o, rfl, hoi, nb, hb⟩ := hos.get hx
      have li := (List.getElem?_eq_some_iff.mp hoi).1
      obtain ⟨lo, om⟩ := oM o (List.mem_of_getElem? hoi)
      obtain ⟨nb1, nbR⟩ := free1 b nb
      have hbG := dG _ _ nbR hb
      have SG := s1.trans sG
      have hsG := hs.same SG
      have haG := SG _ _ ha
      have secO := sel_sect sec om
      have lso : (sel ss o).length = ss.length := by
        rw [sel_len]
        exact lo
      refine ⟨_, rfl, b, rfl, ⟨_, SqL.of hbG⟩, fun D hD => lc_list (K := K) (a := b) (xs := o.map nI) (fun j X => Same G X ∧ ∃ us2, X D = some (.lst us2) ∧ SeL X us2 (sel ss (o.take j))) ⟨same_new hD, [], upd_same, ⟨rfl, fun i s e => nomatch e⟩⟩ (fun j X _ hP => SqL.of (hP.1 _ _ hbG)) (fun j x X hx hP2 => ?_) (fun X hP2 => ?_)⟩
      · obtain ⟨sX, us2, hus, su⟩ := hP2
        rw [List.getElem?_map] at hx
        obtain ⟨y, hy, rfl⟩ := Option.map_eq_some_iff.mp hx
        have ly := om y (List.mem_of_getElem? hy)
        obtain ⟨c, hc, fc⟩ := (hsG.same sX).2 y _ (List.getElem?_eq_getElem ly)
        have fc0 : ∃ o, G c = some o := by
          obtain ⟨c', hc', vs', e', _⟩ := hsG.2 y _ (List.getElem?_eq_getElem ly)
          rw [hc] at hc'
          cases hc'
          exact ⟨_, e'⟩
        have ncD : c ≠ D := fun e => by
          obtain ⟨o', e'⟩ := fc0
          rw [e, hD] at e'
          cases e'
        have lu : us2.length ≤ 4 := by
          rw [su.1, sel_len, List.length_take]
          omega
        refine ⟨rfl, _, rfl, _, rfl, a, ws, _, .ref c, rfl, rfl, SqL.of (sX _ _ haG), atI_nat hc, ?_⟩
        refine ⟨_, hus, small1000 (by omega), fun x o e => ?_, us2 ++ [.ref c], upd_same, ?_⟩
        · rw [upd_ne (ne_of_none e hD)]
          exact sX _ _ e
        · have es : sel ss (o.take (j + 1)) = sel ss (o.take j) ++ [ss[y]] := by
            rw [take_more hy]
            unfold sel
            rw [List.map_append, List.map_singleton, List.getD_eq_getElem?_getD, List.getElem?_eq_getElem ly]
            rfl
          rw [es]
          exact (su.but su hus (fun t h => ((sel_sect sec fun x hx => om x (List.mem_of_mem_take hx)) t h).ne) SameBut.upd).app (SeL.one (fc.but ncD SameBut.upd hus))
      obtain ⟨sX, us2, hus, su⟩ := hP2
      rw [List.length_map, List.take_of_length_le (Nat.le_refl _)] at su
      refine ⟨_, rfl, D, us2, sel ss o, rfl, hus, su, secO, by omega, by omega, fun p2 us3 X2 hp2 t2 e2 se2 => ⟨_, rfl, _, rfl, p2, us3, pre (sel ss o) (sel ss o).length, m, l, (fun i => absS (tog ((sel ss o).take (i + 1)))), rfl, e2, se2, fun i s' hq => ?_, by rw [pre_len]; omega, hm, hl, fun q X3 hq t3 eq3 => ?_⟩⟩
      · have li := (List.getElem?_eq_some_iff.mp hq).1
        rw [pre_len] at li
        rw [pre_at li] at hq
        cases hq
        exact ⟨Sm.tog (take_sect secO _) (by rw [List.length_take]; omega), rfl⟩
      rw [pre_len] at eq3
      have TX := sX.trans (t2.trans t3)
      have hrX := TX _ _ hrv
      refine ⟨_, rfl, .inl ⟨rfl, _, SqL.of hrX⟩, _, rfl, _, rfl, q, (sel ss o).length, moved m l (sel ss o), rfl, eq3, rfl, by omega, fun r X4 hr t4 er => ?_⟩
      have D4 := t2.trans (t3.trans t4)
      refine ⟨_, rfl, _, rfl, q, D, us2, sel ss o, moved m l (sel ss o), rfl, t4 _ _ eq3, D4 _ _ hus, su.same D4, secO, by omega, by omega, T160 o (List.mem_of_getElem? hoi), fun e X5 he t5 fe => ⟨(by show 3 ≤ sizeLine; decide), fun t ht => ?_⟩⟩
      have t6 := same_new (o := .tup [.ref b, .ref r, .ref e]) ht
      have g6 : (upd X5 t (.tup [.ref b, .ref r, .ref e])) t = some (.tup [.ref b, .ref r, .ref e]) := upd_same
      have T6 := t5.trans t6
      have A6 := TX.trans (t4.trans T6)
      have hr6 := A6 _ _ hrv
      have htR : t ≠ R := fun z => by
        rw [z, t5 _ _ (t4 _ _ hrX)] at ht
        cases ht
      have hrR : r ≠ R := fun z => by
        rw [z, hrX] at hr
        cases hr
      have heR : e ≠ R := fun z => by
        rw [z, t4 _ _ hrX] at he
        cases he
      have hrH := (sG.trans TX).free hr
      have er6 := T6 _ _ er
      have fe6 : Fr (upd X5 t (.tup [.ref b, .ref r, .ref e])) e (errP (moved m l (sel ss o)) (sel ss o) (sel ss o).length) := t6 _ _ fe
      generalize upd X5 t _ = X6 at t6 g6 T6 A6 hr6 er6 fe6 ⊢
      have lrv : rv.length = i := by
        rw [rw1.1, List.length_take]
        omega
      have rw6 := (rw1.same A6).but (SameBut.upd (o := .lst (rv ++ [.ref t]))) hr6 fun b nb => nb.2
      have rwt : RwAt (fun b => H1 b = none ∧ b ≠ R) (upd X6 R (.lst (rv ++ [.ref t]))) m l ss t o := by
        refine ⟨b, r, e, ?_, ⟨nb1, nbR⟩, ?_, ⟨hrH, hrR⟩, ?_, ?_⟩
        · rw [upd_ne htR]
          exact g6
        · rw [upd_ne nbR]
          exact A6 _ _ hbG
        · rw [upd_ne hrR, ← sel_len ss o]
          exact er6
        · show (upd X6 R _) e = _
          rw [upd_ne heR, ← sel_len ss o]
          exact fe6
      have rw7 := rw6.snoc rwt
      rw [← take_more hoi] at rw7
      refine ⟨R, rv, _, rfl, rfl, hr6, small1000 (by omega), ?_⟩
      have hR7 : (upd X6 R (.lst (rv ++ [.ref t]))) R = some (.lst (rv ++ [.ref t])) := upd_same
      have s7 : Same H1 (upd X6 R (.lst (rv ++ [.ref t]))) := fun x o e => by
        rw [upd_ne (ne_of_none e hR)]
        exact A6 _ _ (sG _ _ e)
      have d7 : SameBut R H3 (upd X6 R (.lst (rv ++ [.ref t]))) := (dG.trans (SameBut.of A6)).trans SameBut.upd
      have ht7 : (upd X6 R (.lst (rv ++ [.ref t]))) t = some (.tup [.ref b, .ref r, .ref e]) := by
        rw [upd_ne htR]
        exact g6
      have fe7 : Fr (upd X6 R (.lst (rv ++ [.ref t]))) e (errP (moved m l (sel ss o)) (sel ss o) o.length) := by
        show (upd X6 R _) e = _
        rw [upd_ne heR, ← sel_len ss o]
        exact fe6
      generalize upd X6 R _ = X7 at rw7 hR7 s7 d7 ht7 fe7 ⊢
      have bi : bst (errO m l ss os) i < i + 1 := by
        by_cases z : i = 0
        · rw [z]
          exact Nat.lt_succ_self 0
        · exact Nat.lt_succ_of_lt (bst_lt _ i (by omega))
      obtain ⟨ob, hob⟩ : ∃ ob, os[bst (errO m l ss os) i]? = some ob := ⟨_, List.getElem?_eq_getElem (by omega)⟩
      obtain ⟨pb, epb, b1, b2, b3, hpb, _, _, _, _, f3⟩ := rw7.2 (bst (errO m l ss os) i) ob (by rw [List.getElem?_take, if_pos bi]; exact hob)
      have q1 := bits_1900 (eb9 o (List.mem_of_getElem? hoi))
      have q2 := bits_1900 (eb9 ob (List.mem_of_getElem? hob))
      refine ⟨_, rfl, _, rfl, R, _, _, .ref t, rfl, rfl, SqL.of hR7, atI_last _ _, t, _, 2, .ref e, rfl, rfl, SqT.of ht7, a2, ?_⟩
      refine ⟨_, rfl, _, rfl, R, _, _, .ref pb, rfl, rfl, SqL.of hR7, atI_nat epb, pb, _, 2, .ref b3, rfl, rfl, SqT.of hpb, a2, ?_⟩
      refine ⟨e, b3, _, _, _, _, rfl, SqT.of fe7, SqT.of f3, q1.1, q1.2, q2.1, q2.2, _, rfl, ?_⟩
      have el : lq (errP (moved m l (sel ss o)) (sel ss o) o.length) (errP (moved m l (sel ss ob)) (sel ss ob) ob.length) = lq (errO m l ss os i) (errO m l ss os (bst (errO m l ss os) i)) := by
        rw [errO_at hoi, errO_at hob]
      refine iteC (d := lq (errO m l ss os i) (errO m l ss os (bst (errO m l ss os) i))) el ?_
      refine ite2 (fun c => ?_) (fun c => ?_)
      · have eb : bst (errO m l ss os) (i + 1) = i := by
          show (if lq (errO m l ss os i) (errO m l ss os (bst (errO m l ss os) i)) = true then i else _) = i
          rw [if_pos c]
        refine ⟨_, rfl, R, _, rfl, .inl (SqL.of hR7), _, _, rfl, rfl, s7, d7, _, some (.ref b), some (.ref D), some (.ref q), y8, y9, y10, ?_, hR7, rw7⟩
        rw [eb, List.length_append, lrv]
        have ev : V.int ((((i + [V.ref t].length : Nat) : Int)) - 1) = V.int (i : Nat) := by
          show V.int (((i + 1 : Nat) : Int) - 1) = _
          rw [show ((i + 1 : Nat) : Int) - 1 = (i : Nat) by omega]
        show [some (V.ref a), some (V.int m), some (V.int l), some (V.ref R), some (V.int ((((i + [V.ref t].length : Nat) : Int)) - 1)), some (V.ref b), some (V.ref D), some (V.ref q), y8, y9, y10] = _
        rw [ev]
      · have eb : bst (errO m l ss os) (i + 1) = bst (errO m l ss os) i := by
          show (if lq (errO m l ss os i) (errO m l ss os (bst (errO m l ss os) i)) = true then i else bst (errO m l ss os) i) = _
          rw [if_neg c]
        refine ⟨s7, d7, _, some (.ref b), some (.ref D), some (.ref q), y8, y9, y10, ?_, hR7, rw7⟩
        rw [eb]
        rfl
    · obtain ⟨sG, dG, rv, y5, y6, y7, y8, y9, y10, rfl, hrv, rw1⟩ := hP
      rw [hos.1, List.take_of_length_le (Nat.le_refl _)] at rw1
      obtain ⟨ob, hob⟩ : ∃ ob, os[bst (errO m l ss os) os.length]? = some ob := ⟨_, List.getElem?_eq_getElem (bst_lt _ _ o0)⟩
      obtain ⟨pb, epb, b1, b2, b3, hpb, n1, e1, n2, e2, f3⟩ := rw1.2 _ ob hob
      rw [hos.1]
      refine ⟨_, rfl, _, rfl, R, _, _, .ref pb, rfl, rfl, SqL.of hrv, atI_nat epb, pb, _, rfl, SqT.of hpb, rfl, _, _, rfl, _, _, rfl, _, _, rfl, rfl, ?_⟩
      refine ⟨_, rfl, b1, _, rfl, .inl (SqL.of e1), fun O hO => ?_⟩
      have u1 := same_new (o := .lst (ob.map nI)) hO
      have gO : (upd G O (.lst (ob.map nI))) O = some (.lst (ob.map nI)) := upd_same
      refine ⟨_, rfl, b2, _, rfl, .inl (SqL.of (u1 _ _ e2)), fun S hS => ?_⟩
      generalize upd G O _ = G2 at u1 gO hS ⊢
      have u2 := same_new (o := .lst (totL ob.length fun i => (moved m l (sel ss ob) (i + 1) : Int) - (moved m l (sel ss ob) i : Int))) hS
      have gS : (upd G2 S (.lst (totL ob.length fun i => (moved m l (sel ss ob) (i + 1) : Int) - (moved m l (sel ss ob) i : Int)))) S = some (.lst (totL ob.length fun i => (moved m l (sel ss ob) (i + 1) : Int) - (moved m l (sel ss ob) i : Int))) := upd_same
      generalize upd G2 S _ = G3 at u2 gS ⊢
      refine ⟨_, rfl, _, rfl, (by show 4 ≤ sizeLine; decide), fun t ht => ?_⟩
      have u3 := same_new (o := .tup [.ref O, .ref S, .ref b3, .ref R]) ht
      have U := u1.trans (u2.trans u3)
      have SG := s1.trans sG
      refine k t O S b3 R rv ob _ ((SG.trans (u1.trans u2)).free ht) (SG.trans U) (SG.free hO) (s1.free hR) hob upd_same ((u2.trans u3) _ _ gO) (u3 _ _ gS) (U _ _ f3) (U _ _ hrv) ((rw1.mono fun c ws nc hc => ?_).same U)
      refine ⟨s1.free nc.1, fun z => ?_, nc.2⟩
      rw [z, hO] at hc
      cases hc
end
end E1

namespace E1
open PySem PySem.Spec PyProof.Rows L2
def spLowP : Sp := fun vs H Q _ => ∃ t b : Int, vs = [.int t, .int b] ∧ 0 < b ∧ b.natAbs < 2 ^ 4000 ∧ ∀ p, H p = none → Q (.ref p) (upd H p (.tup [.int (lowT t b), .int (lowB t b)]))
theorem lowTP {t b : Int} (hb : 0 < b) : t / gI t b = lowT t b ∧ b / gI t b = lowB t b := by
  unfold lowT lowB
  rw [if_neg (by omega), if_neg (by omega)]
  exact ⟨rfl, rfl⟩
theorem low_mul {t b : Int} (hb : 0 < b) : lowT t b * gI t b = t ∧ lowB t b * gI t b = b := by
  rw [← (lowTP hb).1, ← (lowTP hb).2]
  exact ⟨Int.ediv_mul_cancel (Int.gcd_dvd_left ..), Int.ediv_mul_cancel (Int.gcd_dvd_right ..)⟩
theorem WellAt.ne {H : Hp} {a p : Addr} {c : Int} (h : WellAt H a c) (n : H p = none) : p ≠ a := fun e => by
  obtain ⟨_, _, _, z, _⟩ := h
  rw [← e, n] at z
  cases z

theorem but_free {H H' : Hp} {w p : Addr} (s : SameBut w H H') (h : H' p = none) (n : p ≠ w) : H p = none := by
  cases e : H p with
  | none => rfl
  | some o =>
    rw [s _ _ n e] at h
    cases h
/-- a pair that is worth x -/
def Tp (H : Hp) (p : Addr) (x : Rat) : Prop := ∃ t b : Int, H p = some (.tup [.int t, .int b]) ∧ 0 < b ∧ t.natAbs < 2 ^ 1000 ∧ b.natAbs < 2 ^ 1000 ∧ Rat.divInt t b = x
theorem Fr.tp {H : Hp} {p : Addr} {q : Rat} (h : Fr H p q) (b : q.num.natAbs < 2 ^ 1000 ∧ q.den < 2 ^ 1000) : Tp H p q := ⟨q.num, q.den, h, den_ge q, b.1, by rw [Int.natAbs_natCast]; exact b.2, num_div q⟩
theorem Tp.same {H H' : Hp} {p : Addr} {q : Rat} (h : Tp H p q) (s : Same H H') : Tp H' p q := by
  obtain ⟨t, b, e, r⟩ := h
  exact ⟨t, b, s _ _ e, r⟩
def spPl : Sp := fun vs H Q _ => ∃ (p q : Addr) (x y : Rat), vs = [.ref p, .ref q] ∧ Tp H p x ∧ Tp H q y ∧ ∀ r H', H r = none → Same H H' → Fr H' r (x + y) → Q (.ref r) H'
def spTm : Sp := fun vs H Q _ => ∃ (p q : Addr) (x y : Rat), vs = [.ref p, .ref q] ∧ Tp H p x ∧ Tp H q y ∧ ∀ r H', H r = none → Same H H' → Fr H' r (x * y) → Q (.ref r) H'
def spFits : Sp := fun vs H Q _ => ∃ (p : Addr) (q : Rat) (m l : Int) (t : Nat), vs = [.ref p, .int m, .int l, .int (t : Nat)] ∧ Fr H p q ∧ (q.num.natAbs < 2 ^ 1000 ∧ q.den < 2 ^ 1000) ∧ m.natAbs < 2 ^ 41 ∧ l.natAbs < 2 ^ 41 ∧ t ≤ 160 ∧ Q (.bl (fitB m l q t)) H
theorem low4000 {b c : Int} (hb : b.natAbs < 2 ^ 1000) (hc : c.natAbs < 2 ^ 1000) : (b * c).natAbs < 2 ^ 4000 := by
  rw [Int.natAbs_mul]
  have := Nat.mul_lt_mul'' hb hc
  rw [← Nat.pow_add] at this
  exact Nat.lt_of_lt_of_le this (Nat.pow_le_pow_right (by decide) (by decide))
section
variable {P : Program} {w : World} {K : PySem.W.Frag} {mg : Str → Option Value} {base : Heap}
theorem sc__law_cell_at : FnScope ["_law_script", "_law_k"] ["_law_script", "_law_k"] (defScope s__law_cell_at) := ⟨rfl, rfl, rfl, by decide +kernel, rfl, by decide +kernel, by decide +kernel⟩
theorem sc__law_well : FnScope ["_law_cell"] ["_law_cell"] (defScope s__law_well) := ⟨rfl, rfl, rfl, by decide +kernel, rfl, by decide +kernel, by decide +kernel⟩
theorem sc__law_draw : FnScope ["_law_well_here", "_law_many", "_law_found", "_law_number"] ["_law_well_here", "_law_many"] (defScope s__law_draw) := ⟨rfl, rfl, rfl, by decide +kernel, rfl, by decide +kernel, by decide +kernel⟩
theorem ok_cell {f : Addr} {fd : FuncData} {k : Nat} (F : Fun K "_law_cell_at" "_law_cell_at" s__law_cell_at f fd) (zl : mg "len" = none) : FnOk P w K mg base CX0 (k + 1) f fd ["_law_script", "_law_k"] (spCell K) := by
  refine F.ok sc__law_cell_at (fun vs H Q E h => ?_) (fun cdv A outer s H vs Q E hr h => ?_)
  · obtain ⟨a, ns, k, rfl, _⟩ := h
    rfl
  · obtain ⟨a, ns, k, rfl, hS, q⟩ := h
    refine ⟨_, (pss_cons (ps_if (pt_cmpR op_lt (pv 1) (pe_callB call_len_seq (by rfl) zl PySem.boot_len (pa_cons (pv 0) pa_nil)) (nomark _)) (pss_one (ps_ret (pe_ix ix_list (pv 0) (pv 1) (fun _ _ => rfl)))) pss_nil)
      (pss_one (ps_ret pe_int))), ?_⟩
    refine ⟨_, rfl, _, rfl, a, _, rfl, .inl hS, _, _, rfl, rfl, _, rfl, ite2 (fun c => ?_) (fun c => ?_)⟩
    · have hk : k < ns.length := by
        have := toB c
        rw [List.length_map] at this
        omega
      refine ⟨_, rfl, _, rfl, a, _, k, .int (ns.getD k 0), rfl, rfl, hS, atI_nat ?_, q⟩
      rw [List.getElem?_map, List.getElem?_eq_getElem hk, List.getD_eq_getElem?_getD, List.getElem?_eq_getElem hk]
      rfl
    · have hk : ¬ k < ns.length := fun z => by
        have := toNB c
        rw [List.length_map] at this
        omega
      have e : ns.getD k 0 = 0 := by
        rw [List.getD_eq_getElem?_getD, List.getElem?_eq_none (by omega)]
        rfl
      rw [e] at q
      exact q
theorem ok_well {f : Addr} {fd : FuncData} {k : Nat} (F : Fun K "_law_well" "_law_well" s__law_well f fd) (zi : mg "int" = none) : FnOk P w K mg base CX0 (k + 1) f fd ["_law_cell"] spWell := by
  refine F.ok sc__law_well (fun vs H Q E h => ?_) (fun cdv A outer s H vs Q E hr h => ?_)
  · obtain ⟨c, rfl, _⟩ := h
    rfl
  · obtain ⟨c, rfl, q⟩ := h
    refine ⟨_, (pss_one (ps_ret (pe_lst (pa_cons (pe_op op_mul (pv 0) (pe_callTy call_int1 (by rfl) zi (by decide +kernel) (pa_cons (pe_cmpR op_ge (pv 0) (pe_op op_pow pe_int pe_int) (nomark _)) pa_nil))) (pa_cons (pe_op op_mod (pv 0) pe_int) (pa_cons pe_int pa_nil)))))), ?_⟩
    refine ⟨_, rfl, _, rfl, _, _, rfl, rfl, ⟨by decide, by decide, by decide⟩, _, _, rfl, rfl, .inr ⟨_, rfl, _, _, rfl, rfl, .inr ?_, ?_⟩⟩
    · split <;> decide
    · refine ⟨_, rfl, _, _, rfl, rfl, (by show (0 : Int) < 2147483647; decide), (by show 3 ≤ sizeLine; decide), fun p hp => ?_⟩
      exact q p hp _ (same_new hp) ⟨_, _, _, upd_same, Int.emod_nonneg _ (by decide), Int.emod_lt_of_pos _ (by decide), Int.le_refl _, Int.le_refl _⟩
theorem ok_draw {f : Addr} {fd : FuncData} {k : Nat} (F : Fun K "_law_draw" "_law_draw" s__law_draw f fd) : FnOk P w K mg base CX0 (k + 1) f fd ["_law_well_here", "_law_many"] spDraw := by
  refine F.ok sc__law_draw (fun vs H Q E h => ?_) (fun cdv A outer s H vs Q E hr h => ?_)
  · obtain ⟨a, c, m, rfl, _⟩ := h
    rfl
  · obtain ⟨a, c, m, rfl, ⟨x, y, z, hw, y0, y1, z0, z1⟩, hc, m0, m1, q⟩ := h
    have fr : ∀ o b, H b = none → (upd H a o) b = none := fun o b hb => by
      rw [upd_ne (fun e => by rw [e, hw] at hb; cases hb)]
      exact hb
    refine ⟨_, (pss_cons (ps_if (pt_cmpR op_gt (pe_ix ix_list (pv 0) pe_int (fun _ _ => rfl)) pe_int (nomark _)) (pss_cons (ps_set (i := 2) sc__law_draw.nd rfl (.inl rfl) (pe_op op_mod (pe_ix ix_list (pv 0) pe_int (fun _ _ => rfl)) (pv 1)))
      (pss_cons (ps_asg (pe_op op_fdivW (pe_ix ix_list (pv 0) pe_int (fun _ _ => rfl)) (pv 1)) (pg_sub (pv 0) pe_int set_list))
      (pss_one (ps_ret (pv 2))))) pss_nil)
      (pss_cons (ps_asg (pe_op op_add (pe_ix ix_list (pv 0) pe_int (fun _ _ => rfl)) pe_int) (pg_sub (pv 0) pe_int set_list))
      (pss_cons (ps_set (i := 3) sc__law_draw.nd rfl (.inl rfl) (pe_op op_mod (pe_op op_pow (pe_op op_add (pe_op op_add (pe_ix ix_list (pv 0) pe_int (fun _ _ => rfl)) (pe_op op_mul pe_int (pe_ix ix_list (pv 0) pe_int (fun _ _ => rfl)))) pe_int) pe_int) pe_int))
      (pss_cons (ps_set (i := 3) sc__law_draw.nd rfl (.inl rfl) (pe_op op_mod (pe_op op_mul (pv 3) (pe_op op_add (pe_op op_fdiv (pv 3) pe_int) pe_int)) pe_int))
      (pss_one (ps_ret (pe_op op_mod (pe_op op_mod (pe_op op_mul (pv 3) (pe_op op_add (pe_op op_fdiv (pv 3) pe_int) pe_int)) pe_int) (pv 1)))))))), ?_⟩
    refine ⟨_, rfl, a, _, 0, .int x, rfl, rfl, SqL.of hw, a0, x, 0, rfl, rfl, _, rfl, ite2 (fun c => ?_) (fun c => ?_)⟩
    · refine ⟨_, rfl, a, _, 0, .int x, rfl, rfl, SqL.of hw, a0, _, rfl, x, m, rfl, rfl, m0, ?_⟩
      refine ⟨_, rfl, a, _, 0, .int x, rfl, rfl, SqL.of hw, a0, _, rfl, x, m, rfl, rfl, wide_div m0 m1 (by decide) (Nat.le_refl _), _, rfl, a, _, 0, 0, rfl, rfl, hw, rfl, ?_⟩
      refine ⟨_, rfl, q _ _ (Int.emod_nonneg _ (by omega)) (Int.emod_lt_of_pos _ m0) SameBut.upd (fr _) ⟨_, _, _, upd_same, y0, y1, z0, by omega⟩⟩
    · refine ⟨_, rfl, a, _, 2, .int z, rfl, rfl, SqL.of hw, a2, z, 1, rfl, rfl, _, rfl, a, _, 2, 2, rfl, rfl, hw, rfl, ?_⟩
      have hw2 : (upd H a (.lst [V.int x, V.int y, V.int (z + 1)])) a = some (.lst [V.int x, V.int y, V.int (z + 1)]) := upd_same
      have n5 : 0 ≤ y + 7919 * (z + 1) + 1 ∧ y + 7919 * (z + 1) + 1 < 18446744073709551616 := by omega
      refine ⟨_, rfl, a, _, 1, .int y, rfl, rfl, SqL.of hw2, a1, _, rfl, a, _, 2, .int (z + 1), rfl, rfl, SqL.of hw2, a2, _, _, rfl, rfl, .inl ⟨by decide, by decide⟩, _, _, rfl, rfl, _, _, rfl, rfl, _, _, rfl, rfl, ⟨by decide, by decide, ?_⟩, _, _, rfl, rfl, (by show (0 : Int) < 2147483647; decide), ?_⟩
      · show (y + 7919 * (z + 1) + 1).natAbs < 18446744073709551616
        omega
      · generalize hn : (y + 7919 * (z + 1) + 1) ^ (5 : Int).toNat % 2147483647 = n
        have n0 : 0 ≤ n := by rw [← hn]; exact Int.emod_nonneg _ (by decide)
        have n1 : n < 2147483647 := by rw [← hn]; exact Int.emod_lt_of_pos _ (by decide)
        refine ⟨_, rfl, _, rfl, _, _, rfl, rfl, ⟨by decide, by decide⟩, _, _, rfl, rfl, _, _, rfl, rfl, .inl ⟨by omega, by omega⟩, _, _, rfl, rfl, (by show (0 : Int) < 2147483629; decide), ?_⟩
        generalize hm : n * (n / 1009 + 69621) % 2147483629 = u
        have u0 : 0 ≤ u := by rw [← hm]; exact Int.emod_nonneg _ (by decide)
        have u1 : u < 2147483629 := by rw [← hm]; exact Int.emod_lt_of_pos _ (by decide)
        refine ⟨_, rfl, _, rfl, _, _, rfl, rfl, ⟨by decide, by decide⟩, _, _, rfl, rfl, _, _, rfl, rfl, .inl ⟨by omega, by omega⟩, _, _, rfl, rfl, (by show (0 : Int) < 2147483587; decide), _, rfl, _, _, rfl, rfl, m0, ?_⟩
        exact q _ _ (Int.emod_nonneg _ (by omega)) (Int.emod_lt_of_pos _ m0) SameBut.upd (fr _) ⟨_, _, _, upd_same, y0, y1, by omega, by omega⟩
theorem sc__law_low : FnScope ["_law_top", "_law_bottom", "_law_one", "_law_other"] ["_law_top", "_law_bottom"] (defScope s__law_low) := ⟨rfl, rfl, rfl, by decide +kernel, rfl, by decide +kernel, by decide +kernel⟩
theorem ok__law_low {f : Addr} {fd : FuncData} {k : Nat} (F : Fun K "_law_low" "_law_low" s__law_low f fd) (z : Zs mg) : FnOk P w K mg base CX0 (k + 1) f fd ["_law_top", "_law_bottom"] spLowP := by
  refine F.ok sc__law_low (fun vs H Q E h => ?_) (fun cdv A outer s H vs Q E hr h => ?_)
  · obtain ⟨t, b, rfl, _⟩ := h
    rfl
  · obtain ⟨t, b, rfl, hb, hl, q⟩ := h
    refine ⟨_, (pss_cons (ps_set (i := 2) sc__law_low.nd rfl (.inl rfl) (pe_callB call_abs (by rfl) z.abs (by decide +kernel) (pa_cons (pv 0) pa_nil)))
      (pss_cons (ps_set (i := 3) sc__law_low.nd rfl (.inl rfl) (pv 1))
      (pss_cons (ps_while PassesOwn.never (pt_cmpR op_gt (pv 3) pe_int (nomark _)) (pss_one (ps_par (i := 2) (j := 3) (by rfl) sc__law_low.nd rfl rfl (by decide) rfl rfl (pa_cons (pv 3) (pa_cons (pe_op op_mod (pv 2) (pv 3)) pa_nil)) (by rfl))))
      (pss_one (ps_ret (pe_tup (pa_cons (pe_op op_fdivW (pv 0) (pv 2)) (pa_cons (pe_op op_fdivW (pv 1) (pv 2)) pa_nil)))))))), ?_⟩
    have g0 := gI_pos (t := t) (b := b) (by omega)
    have g1 : (gI t b).natAbs < 2 ^ 4000 := Nat.lt_of_le_of_lt (gI_le (by omega)) hl
    refine ⟨_, rfl, _, rfl, ?_⟩
    refine ⟨_, rfl, ?_⟩
    dsimp only [gName, tSeq]
    refine while_by (fun σ H' => H' = H ∧ ∃ m n : Nat, σ = [some (.int t), some (.int b), some (.int (m : Int)), some (.int (n : Int))] ∧ Nat.gcd m n = Int.gcd t b)
      (fun σ _ => match σ with | [_, _, _, some (.int r)] => r.toNat | _ => 0) ⟨rfl, t.natAbs, b.natAbs, ?_, rfl⟩ (fun σ H1 hP => ?_) (fun σ H Q Q' m hh => ?_)
    · have e1 : (if t < 0 then -t else t) = (t.natAbs : Int) := by split <;> omega
      have e2 : b = (b.natAbs : Int) := by omega
      show [some (V.int t), some (V.int b), some (V.int (if t < 0 then -t else t)), some (V.int b)] = _
      rw [e1, ← e2]
    · obtain ⟨rfl, m, n, rfl, hg⟩ := hP
      refine ⟨_, rfl, _, _, rfl, rfl, _, rfl, ite2 (fun c => ?_) (fun c => ?_)⟩
      · have hn := toB c
        refine ⟨_, rfl, _, rfl, _, rfl, _, _, rfl, rfl, (by omega), _, _, rfl, ⟨⟨rfl, n, m % n, rfl, ?_⟩, ?_⟩⟩
        · rw [← hg, Nat.gcd_comm n (m % n), ← Nat.gcd_rec n m, Nat.gcd_comm]
        · show ((m : Int) % (n : Int)).toNat < ((n : Int)).toNat
          have := Int.emod_lt_of_pos (m : Int) (show (0 : Int) < n by omega)
          have := Int.emod_nonneg (m : Int) (show (n : Int) ≠ 0 by omega)
          omega
      · have hn := toNB c
        have e0 : n = 0 := by omega
        subst e0
        rw [Nat.gcd_zero_right] at hg
        have e2 : (m : Int) = gI t b := by
          unfold gI
          rw [hg]
        rw [e2]
        refine ⟨_, rfl, _, rfl, _, _, rfl, rfl, wide_div g0 g1 (by decide) (by decide), _, rfl, _, rfl, _, _, rfl, rfl, wide_div g0 g1 (by decide) (by decide), (by show 2 ≤ sizeLine; decide), fun p hp => ?_⟩
        have := q p hp
        rw [← (lowTP hb).1, ← (lowTP hb).2] at this
        exact this
    · obtain ⟨v, e, i, j, e1, e2, kk, ek, hq⟩ := hh
      exact ⟨v, e, i, j, e1, e2, kk, ek, m _ _ hq⟩
theorem sc__law_plus : FnScope ["_law_one", "_law_other"] ["_law_one", "_law_other"] (defScope s__law_plus) := ⟨rfl, rfl, rfl, by decide +kernel, rfl, by decide +kernel, by decide +kernel⟩
theorem ok__law_plus {f : Addr} {fd : FuncData} (F : Fun K "_law_plus" "_law_plus" s__law_plus f fd) (c__law_low : Cal P w K mg base 1 "_law_low" ["_law_top", "_law_bottom"] spLowP) : FnOk P w K mg base CX0 2 f fd ["_law_one", "_law_other"] spPl := by
  refine F.ok sc__law_plus (fun vs H Q E h => ?_) (fun cdv A outer s H vs Q E hr h => ?_)
  · obtain ⟨p, q, x, y, rfl, _⟩ := h
    rfl
  · obtain ⟨p, q, x, y, rfl, ⟨t, b, hp, b0, t9, b9, rfl⟩, ⟨u, c, hq, c0, u9, c9, rfl⟩, k⟩ := h
    refine ⟨_, (pss_one (ps_ret (pe_cal c__law_low hr (pa_cons (pe_op op_add (pe_op op_mulW (pe_ix ix_tup (pv 0) pe_int (fun _ _ => rfl)) (pe_ix ix_tup (pv 1) pe_int (fun _ _ => rfl))) (pe_op op_mulW (pe_ix ix_tup (pv 1) pe_int (fun _ _ => rfl)) (pe_ix ix_tup (pv 0) pe_int (fun _ _ => rfl)))) (pa_cons (pe_op op_mulW (pe_ix ix_tup (pv 0) pe_int (fun _ _ => rfl)) (pe_ix ix_tup (pv 1) pe_int (fun _ _ => rfl))) pa_nil))))), ?_⟩
    refine ⟨_, rfl, p, _, 0, .int t, rfl, rfl, SqT.of hp, a0, _, rfl, q, _, 1, .int c, rfl, rfl, SqT.of hq, a1, _, _, rfl, rfl, wide_mul (a := 1000) (b := 1000) t9 c9 (by decide) (by decide) (by decide), _, rfl, q, _, 0, .int u, rfl, rfl, SqT.of hq, a0, _, rfl, p, _, 1, .int b, rfl, rfl, SqT.of hp, a1, _, _, rfl, rfl, wide_mul (a := 1000) (b := 1000) u9 b9 (by decide) (by decide) (by decide), _, _, rfl, rfl, _, rfl, p, _, 1, .int b, rfl, rfl, SqT.of hp, a1, _, rfl, q, _, 1, .int c, rfl, rfl, SqT.of hq, a1, _, _, rfl, rfl, wide_mul (a := 1000) (b := 1000) b9 c9 (by decide) (by decide) (by decide), _, _, rfl, Int.mul_pos b0 c0, low4000 b9 c9, fun r hr => k r _ hr (same_new hr) (Fr.low (by have := Int.mul_pos b0 c0; omega) ?_ upd_same)⟩
    exact (Rat.divInt_add_divInt _ _ (by omega) (by omega)).symm
theorem sc__law_times : FnScope ["_law_one", "_law_other"] ["_law_one", "_law_other"] (defScope s__law_times) := ⟨rfl, rfl, rfl, by decide +kernel, rfl, by decide +kernel, by decide +kernel⟩
theorem ok__law_times {f : Addr} {fd : FuncData} (F : Fun K "_law_times" "_law_times" s__law_times f fd) (c__law_low : Cal P w K mg base 1 "_law_low" ["_law_top", "_law_bottom"] spLowP) : FnOk P w K mg base CX0 2 f fd ["_law_one", "_law_other"] spTm := by
  refine F.ok sc__law_times (fun vs H Q E h => ?_) (fun cdv A outer s H vs Q E hr h => ?_)
  · obtain ⟨p, q, x, y, rfl, _⟩ := h
    rfl
  · obtain ⟨p, q, x, y, rfl, ⟨t, b, hp, b0, t9, b9, rfl⟩, ⟨u, c, hq, c0, u9, c9, rfl⟩, k⟩ := h
    refine ⟨_, (pss_one (ps_ret (pe_cal c__law_low hr (pa_cons (pe_op op_mulW (pe_ix ix_tup (pv 0) pe_int (fun _ _ => rfl)) (pe_ix ix_tup (pv 1) pe_int (fun _ _ => rfl))) (pa_cons (pe_op op_mulW (pe_ix ix_tup (pv 0) pe_int (fun _ _ => rfl)) (pe_ix ix_tup (pv 1) pe_int (fun _ _ => rfl))) pa_nil))))), ?_⟩
    refine ⟨_, rfl, p, _, 0, .int t, rfl, rfl, SqT.of hp, a0, _, rfl, q, _, 0, .int u, rfl, rfl, SqT.of hq, a0, _, _, rfl, rfl, wide_mul (a := 1000) (b := 1000) t9 u9 (by decide) (by decide) (by decide), _, rfl, p, _, 1, .int b, rfl, rfl, SqT.of hp, a1, _, rfl, q, _, 1, .int c, rfl, rfl, SqT.of hq, a1, _, _, rfl, rfl, wide_mul (a := 1000) (b := 1000) b9 c9 (by decide) (by decide) (by decide), _, _, rfl, Int.mul_pos b0 c0, low4000 b9 c9, fun r hr => k r _ hr (same_new hr) (Fr.low (by have := Int.mul_pos b0 c0; omega) ?_ upd_same)⟩
    exact (Rat.divInt_mul_divInt _ _).symm
theorem sc__law_fits : FnScope ["_law_whole", "_law_limit_of", "_law_bound", "_law_moved"] ["_law_whole", "_law_limit_of", "_law_bound", "_law_moved"] (defScope s__law_fits) := ⟨rfl, rfl, rfl, by decide +kernel, rfl, by decide +kernel, by decide +kernel⟩
theorem ok__law_fits {f : Addr} {fd : FuncData} {k : Nat} (F : Fun K "_law_fits" "_law_fits" s__law_fits f fd) (z : Zs mg) : FnOk P w K mg base CX0 (k + 1) f fd ["_law_whole", "_law_limit_of", "_law_bound", "_law_moved"] spFits := by
  refine F.ok sc__law_fits (fun vs H Q E h => ?_) (fun cdv A outer s H vs Q E hr h => ?_)
  · obtain ⟨p, q, m, l, t, rfl, _⟩ := h
    rfl
  · obtain ⟨p, q, m, l, t, rfl, hp, hb, hm, hl, ht, k⟩ := h
    refine ⟨_, (pss_one (ps_ret (pe_cmpR op_le (pe_op op_mulW (pv 1) (pe_ix ix_tup (pv 0) pe_int (fun _ _ => rfl))) (pe_op op_mulW (pe_op op_mulW (pv 2) (pe_ix ix_tup (pv 0) pe_int (fun _ _ => rfl))) (pe_op op_oneShl pe_int (pv 3))) (nomark _)))), ?_⟩
    have d9 : ((q.den : Int)).natAbs < 2 ^ 1000 := by rw [Int.natAbs_natCast]; exact hb.2
    refine ⟨_, rfl, _, rfl, p, _, 0, .int q.num, rfl, rfl, SqT.of hp, a0, _, _, rfl, rfl, wide_mul hm hb.1 (by decide) (by decide) (by decide), ?_⟩
    refine ⟨_, rfl, _, rfl, p, _, 1, .int q.den, rfl, rfl, SqT.of hp, a1, _, _, rfl, rfl, wide_mul hl d9 (by decide) (by decide) (by decide), _, rfl, t, rfl, rfl, by omega, ?_⟩
    refine ⟨_, _, rfl, rfl, wide_mul (a := 1041) (b := 161) ?_ (Nat.lt_of_le_of_lt (two_le ht) (by decide)) (by decide) (by decide) (by decide), _, _, rfl, rfl, k⟩
    rw [Int.natAbs_mul]
    have := Nat.mul_lt_mul'' hl d9
    rw [← Nat.pow_add] at this
    exact this
end
end E1

namespace E1
open PySem PySem.Spec PyProof.Rows L2

theorem FrsAt.set {H : Hp} {vs : List V} {qs : List Rat} (h : FrsAt H vs qs) {i : Nat} {p : Addr} {q : Rat} (f : Fr H p q) (hi : i < qs.length) : FrsAt H (vs.set i (.ref p)) (qs.set i q) := by
  have l := FrsAt.len h
  rw [List.set_eq_take_append_cons_drop, List.set_eq_take_append_cons_drop, if_pos hi, if_pos (by omega)]
  exact FrsAt.app (FrsAt.take h i) (FrsAt.app (FrsAt.one f) (FrsAt.drop h (i + 1)))
theorem FrsAt.rep {H : Hp} {p : Addr} {q : Rat} (f : Fr H p q) : ∀ n, FrsAt H (List.replicate n (.ref p)) (List.replicate n q)
  | 0 => .nil
  | n + 1 => FrsAt.app (FrsAt.one f) (FrsAt.rep f n)
def Sz (D : Int) (M : Nat) : Prop := D ≠ 0 ∧ D.natAbs ≤ 2 ^ 800 ∧ M ≤ 2 ^ 190
theorem Sz.b {D : Int} {M : Nat} {q : Rat} (h : Sz D M) (s : SM D M q) : q.num.natAbs < 2 ^ 1000 ∧ q.den < 2 ^ 1000 := s.b9 h.1 h.2.1 h.2.2 (by decide)
theorem Fr.tz {H : Hp} {p : Addr} {q : Rat} {D : Int} {M : Nat} (h : Fr H p q) (z : Sz D M) (s : SM D M q) : Tp H p q := h.tp (z.b s)
def Sz9 (D : Int) (M : Nat) : Prop := D ≠ 0 ∧ D.natAbs ≤ 2 ^ 641 ∧ M ≤ 2 ^ 272
theorem Fr.t9 {H : Hp} {p : Addr} {q : Rat} {D : Int} {M : Nat} (h : Fr H p q) (z : Sz9 D M) (s : SM D M q) : Tp H p q := h.tp (s.b9 z.1 z.2.1 z.2.2 (by decide))
def spLProd : Sp := fun vs H Q _ => ∃ (a c : Addr) (xs ys : List Rat) (D E : Int) (M N : Nat), vs = [.ref a, .ref c] ∧ FrL H a xs ∧ FrL H c ys ∧ xs ≠ [] ∧ ys ≠ [] ∧ xs.length ≤ 31 ∧ ys.length ≤ 31 ∧ (∀ q ∈ xs, SM D M q) ∧ (∀ q ∈ ys, SM E N q) ∧ Sz D M ∧ Sz E N ∧ Sz (D * E) (32 * (M * N)) ∧
  ∀ p H', H p = none → Same H H' → FrL H' p (mulL xs ys) → Q (.ref p) H'
def spLTog : Sp := fun vs H Q _ => ∃ (a : Addr) (ws : List V) (ss : List (List Rat)), vs = [.ref a] ∧ H a = some (.lst ws) ∧ SeL H ws ss ∧ (∀ s ∈ ss, Sect s) ∧ ss.length ≤ 4 ∧ ∀ p H', H p = none → Same H H' → FrL H' p (tog ss) → Q (.ref p) H'
def spLSizes : Sp := fun vs H Q _ => ∃ (a : Addr) (qs : List Rat), vs = [.ref a] ∧ FrL H a qs ∧ Sm qs ∧ ∀ p H', H p = none → Same H H' → Fr H' p (absS qs) → Q (.ref p) H'
def spLErr : Sp := fun vs H Q _ => ∃ (a c : Addr) (ws : List V) (ss : List (List Rat)) (T : Nat → Nat), vs = [.ref a, .ref c] ∧ H a = some (.lst ws) ∧ H c = some (.lst (totL ss.length fun i => (T (i + 1) : Int))) ∧ SeL H ws ss ∧ (∀ s ∈ ss, Sect s) ∧ 0 < ss.length ∧ ss.length ≤ 4 ∧ (∀ i, i ≤ ss.length → T i ≤ 160) ∧
  ∀ p H', H p = none → Same H H' → Fr H' p (errP T ss ss.length) → Q (.ref p) H'
theorem sect_sz {s : List Rat} (h : Sect s) : Sz (DS s) 1000000 := ⟨by have := DS_pos s; omega, Nat.le_trans h.ds (Nat.pow_le_pow_right (by decide) (by decide)), by decide⟩
theorem tog_sz {ss : List (List Rat)} (hs : ∀ s ∈ ss, Sect s) (hl : ss.length ≤ 4) : Sz (DD ss) (2 ^ 100) := ⟨by have := DD_pos ss; omega, Nat.le_trans (DD_640 hs hl) (Nat.pow_le_pow_right (by decide) (by decide)), Nat.pow_le_pow_right (by decide) (by decide)⟩
theorem step_sz {ss : List (List Rat)} {s : List Rat} (hs : ∀ s ∈ ss, Sect s) (hl : ss.length ≤ 4) (h : Sect s) : Sz (DD ss * DS s) (32 * (2 ^ 100 * 1000000)) := by
  have a := DD_pos ss
  have b := DS_pos s
  refine ⟨Int.mul_ne_zero (by omega) (by omega), ?_, by decide⟩
  rw [Int.natAbs_mul]
  refine Nat.le_trans (Nat.mul_le_mul (DD_640 hs hl) h.ds) ?_
  rw [← Nat.pow_add]
  exact Nat.pow_le_pow_right (by decide) (by decide)
section
variable {P : Program} {w : World} {K : PySem.W.Frag} {mg : Str → Option Value} {base : Heap}
theorem sc__law_product : FnScope ["_law_one", "_law_other", "_law_found", "_law_at", "_law_first", "_law_to", "_law_second"] ["_law_one", "_law_other"] (defScope s__law_product) := ⟨rfl, rfl, rfl, by decide +kernel, rfl, by decide +kernel, by decide +kernel⟩
theorem ok__law_product {f : Addr} {fd : FuncData} (F : Fun K "_law_product" "_law_product" s__law_product f fd) (z : Zs mg) (c__law_plus : Cal P w K mg base 2 "_law_plus" ["_law_one", "_law_other"] spPl) (c__law_times : Cal P w K mg base 2 "_law_times" ["_law_one", "_law_other"] spTm) : FnOk P w K mg base CX0 3 f fd ["_law_one", "_law_other"] spLProd := by
  refine F.ok sc__law_product (fun vs H Q E h => ?_) (fun cdv A outer s H vs Q E hr h => ?_)
  · obtain ⟨a, c, xs, ys, D, E9, M, N, rfl, _⟩ := h
    rfl
  · obtain ⟨a, c, xs, ys, D, E9, M, N, rfl, hx, hy, x0, y0, lx31, ly31, hxs, hys, z1, z2, z3, k⟩ := h
    refine ⟨_, (pss_cons (ps_set (i := 2) sc__law_product.nd rfl (.inl rfl) (pe_op op_rep (pe_lst (pa_cons (pe_tup (pa_cons pe_int (pa_cons pe_int pa_nil))) pa_nil)) (pe_op op_sub (pe_op op_add (pe_callB call_len_seq (by rfl) z.len PySem.boot_len (pa_cons (pv 0) pa_nil)) (pe_callB call_len_seq (by rfl) z.len PySem.boot_len (pa_cons (pv 1) pa_nil))) pe_int)))
      (pss_cons (ps_for PassesOwn.never rfl (pi_enum (by rfl) z.enumerate (pa_cons (pv 0) pa_nil)) (pg_tup (by rfl) (pgs_cons (pg_name (i := 3) sc__law_product.nd rfl (.inl rfl)) (pgs_cons (pg_name (i := 4) sc__law_product.nd rfl (.inl rfl)) pgs_nil))) (pss_one (ps_for PassesOwn.never rfl (pi_enum (by rfl) z.enumerate (pa_cons (pv 1) pa_nil)) (pg_tup (by rfl) (pgs_cons (pg_name (i := 5) sc__law_product.nd rfl (.inl rfl)) (pgs_cons (pg_name (i := 6) sc__law_product.nd rfl (.inl rfl)) pgs_nil))) (pss_one (ps_asg (pe_cal c__law_plus hr (pa_cons (pe_ix ix_list (pv 2) (pe_op op_add (pv 3) (pv 5)) (fun _ _ => rfl)) (pa_cons (pe_cal c__law_times hr (pa_cons (pv 4) (pa_cons (pv 6) pa_nil))) pa_nil))) (pg_sub (pv 2) (pe_op op_add (pv 3) (pv 5)) set_list))))))
      (pss_one (ps_ret (pv 2))))), ?_⟩
    obtain ⟨vs, ha, lv, hv⟩ := hx.len
    obtain ⟨ws, hc, lw, hw⟩ := hy.len
    have px := pos_len x0
    have py := pos_len y0
    refine ⟨(by show 2 ≤ sizeLine; decide), fun p0 h0 => ⟨(by show 1 ≤ sizeLine; decide), fun l0 hl0 => ?_⟩⟩
    have s0 := same_new (o := .tup [.int 0, .int 1]) h0
    have s1 := same_new (o := .lst [.ref p0]) hl0
    have S1 := s0.trans s1
    refine ⟨_, rfl, a, _, rfl, .inl (SqL.of (S1 _ _ ha)), _, rfl, c, _, rfl, .inl (SqL.of (S1 _ _ hc)), _, _, rfl, rfl, _, _, rfl, rfl, ?_⟩
    have en : ((vs.length : Int) + (ws.length : Int) - 1) = ((xs.length + ys.length - 1 : Nat) : Int) := by omega
    refine ⟨l0, ((vs.length : Int) + (ws.length : Int) - 1), _, rfl, rfl, upd_same, by omega, by omega, Nat.le_trans (show 1 * ((vs.length : Int) + (ws.length : Int) - 1).toNat ≤ 1000 by omega) (by decide), fun l hl => ?_⟩
    have eL : (List.replicate ((vs.length : Int) + (ws.length : Int) - 1).toNat [V.ref p0]).flatten = List.replicate (xs.length + ys.length - 1) (V.ref p0) := by
      rw [en, Int.toNat_natCast]
      generalize xs.length + ys.length - 1 = n
      induction n with
      | zero => rfl
      | succ n ih => rw [List.replicate_succ, List.flatten_cons, ih]; rfl
    rw [eL]
    have s2 := same_new (o := .lst (List.replicate (xs.length + ys.length - 1) (V.ref p0))) hl
    have f0 : Fr (upd (upd (upd H p0 (.tup [.int 0, .int 1])) l0 (.lst [.ref p0])) l (.lst (List.replicate (xs.length + ys.length - 1) (V.ref p0)))) p0 0 := s2 _ _ (s1 _ _ upd_same)
    have S2 := S1.trans s2
    have hlH : H l = none := S1.free hl
    refine ⟨_, rfl, a, _, rfl, SqL.of (S2 _ _ ha), ?_⟩
    refine for_it (walk_enum (K := K) (a := a) (xs := vs)) (fun i σ G => Same H G ∧ ∃ y3 y4 y5 y6 : Option V, σ = [some (.ref a), some (.ref c), some (.ref l), y3, y4, y5, y6] ∧ FrL G l (cells xs ys i 0)) ⟨S2, none, none, none, none, rfl, _, upd_same, by rw [cells_zero]; exact FrsAt.rep f0 _⟩ (fun i σ G _ hP => SqL.of (hP.1 _ _ ha)) (fun i v σ G G' hi hP hY => ?_) (fun σ G hP => ?_)
    · obtain ⟨sG, y3, y4, y5, y6, rfl, fl⟩ := hP
      obtain ⟨Tq, u, v2, rfl, nT, rfl, e2, e3⟩ := hY
      dsimp only at e2 e3
      cases e2
      obtain ⟨px', qx, rfl, hqx, fx⟩ := FrsAt.get hv e3
      have sN := same_new (o := .tup [.int ((i : Nat) : Int), .ref px']) nT
      have sG2 := sG.trans sN
      have fl2 := fl.same sN
      have hTq : (upd G Tq (.tup [.int ((i : Nat) : Int), .ref px'])) Tq = some (.tup [.int ((i : Nat) : Int), .ref px']) := upd_same
      generalize upd G Tq _ = G1 at sN sG2 fl2 hTq ⊢
      refine ⟨Tq, _, rfl, SqT.of hTq, rfl, _, _, rfl, _, _, rfl, rfl, ?_⟩
      have ii : i < xs.length := by omega
      refine ⟨_, rfl, c, _, rfl, SqL.of (sG2 _ _ hc), ?_⟩
      refine for_it (walk_enum (K := K) (a := c) (xs := ws)) (fun j σ G => Same H G ∧ ∃ y5 y6 : Option V, σ = [some (.ref a), some (.ref c), some (.ref l), some (.int ((i : Nat) : Int)), some (.ref px'), y5, y6] ∧ FrL G l (cells xs ys i j)) ⟨sG2, _, _, rfl, fl2⟩ (fun j σ G _ hP => SqL.of (hP.1 _ _ hc)) (fun j v3 σ G2 G2' hj hP hY => ?_) (fun σ G2 hP => ?_)
      · obtain ⟨sJ, y5, y6, rfl, fj⟩ := hP
        obtain ⟨Tr, u, v2, rfl, nT2, rfl, e2, e3⟩ := hY
        dsimp only at e2 e3
        cases e2
        obtain ⟨py', qy, rfl, hqy, fy⟩ := FrsAt.get hw e3
        have sM := same_new (o := .tup [.int ((j : Nat) : Int), .ref py']) nT2
        have sJ2 := sJ.trans sM
        have fj2 := fj.same sM
        have hTr : (upd G2 Tr (.tup [.int ((j : Nat) : Int), .ref py'])) Tr = some (.tup [.int ((j : Nat) : Int), .ref py']) := upd_same
        generalize upd G2 Tr _ = G3 at sM sJ2 fj2 hTr ⊢
        refine ⟨Tr, _, rfl, SqT.of hTr, rfl, _, _, rfl, _, _, rfl, rfl, ?_⟩
        obtain ⟨cv, ecv, fcv⟩ := fj2
        have lcv := FrsAt.len fcv
        rw [cells_len] at lcv
        have ij : i + j < xs.length + ys.length - 1 := by omega
        obtain ⟨pc, hpc, fpc⟩ := FrsAt.at fcv (cells_at xs ys i j ij)
        have sx := hxs qx (List.mem_of_getElem? hqx)
        have sy := hys qy (List.mem_of_getElem? hqy)
        have scx := cell_sm hxs hys i j (i + j) (by omega)
        have smp : SM (D * E9) (32 * (M * N)) (qx * qy) := (sx.mul sy).mono (Nat.le_mul_of_pos_left _ (by decide))
        have eij : ((i : Nat) : Int) + ((j : Nat) : Int) = ((i + j : Nat) : Int) := rfl
        refine ⟨_, rfl, _, rfl, _, rfl, _, _, rfl, rfl, l, _, _, .ref pc, rfl, rfl, SqL.of ecv, atI_nat hpc, ?_⟩
        refine ⟨_, rfl, _, rfl, px', py', qx, qy, rfl, Fr.tz (sJ2 _ _ fx) z1 sx, Fr.tz (sJ2 _ _ fy) z2 sy, fun r G4 hr s4 f4 => ?_⟩
        refine ⟨pc, r, _, _, rfl, Fr.tz (s4 _ _ fpc) z3 scx, f4.tz z3 smp, fun r2 G5 hr2 s5 f5 => ?_⟩
        have S5 := s4.trans s5
        have ecv5 := S5 _ _ ecv
        refine ⟨_, rfl, _, rfl, _, rfl, _, _, rfl, rfl, l, _, _, i + j, rfl, rfl, ecv5, ?_, ?_⟩
        · rw [eij]
          unfold ixN
          rw [if_pos (by omega), if_pos (by omega), Int.toNat_natCast]
        have SJ := sJ2.trans S5
        have nr2 : r2 ≠ l := fun e => by
          rw [e, s4 _ _ ecv] at hr2
          cases hr2
        refine ⟨fun b o e => ?_, _, _, rfl, _, upd_same, ?_⟩
        · rw [upd_ne (ne_of_none e hlH)]
          exact SJ _ _ e
        · rw [cells_step xs ys ij]
          refine FrsAt.set (PrsAt.but (PrsAt.same fcv S5) SameBut.upd ecv5) ?_ (by rw [cells_len]; exact ij)
          rw [fn_lt hqx, fn_lt hqy]
          show (upd G5 l _) r2 = _
          rw [upd_ne nr2]
          exact f5
      · obtain ⟨sJ, y5, y6, rfl, fj⟩ := hP
        rw [lw, ← cells_row] at fj
        exact ⟨sJ, _, _, _, _, rfl, fj⟩
    · obtain ⟨sG, y3, y4, y5, y6, rfl, fl⟩ := hP
      rw [lv, cells_all x0 y0] at fl
      exact ⟨_, rfl, k l G hlH sG fl⟩
theorem sc__law_together : FnScope ["_law_sections", "_law_found", "_law_section"] ["_law_sections"] (defScope s__law_together) := ⟨rfl, rfl, rfl, by decide +kernel, rfl, by decide +kernel, by decide +kernel⟩
theorem ok__law_together {f : Addr} {fd : FuncData} (F : Fun K "_law_together" "_law_together" s__law_together f fd) (z : Zs mg) (c__law_product : Cal P w K mg base 3 "_law_product" ["_law_one", "_law_other"] spLProd) : FnOk P w K mg base CX0 4 f fd ["_law_sections"] spLTog := by
  refine F.ok sc__law_together (fun vs H Q E h => ?_) (fun cdv A outer s H vs Q E hr h => ?_)
  · obtain ⟨a, ws, ss, rfl, _⟩ := h
    rfl
  · obtain ⟨a, ws, ss, rfl, ha, hs, sec, n4, k⟩ := h
    refine ⟨_, (pss_cons (ps_set (i := 1) sc__law_together.nd rfl (.inl rfl) (pe_lst (pa_cons (pe_tup (pa_cons pe_int (pa_cons pe_int pa_nil))) pa_nil)))
      (pss_cons (ps_for PassesOwn.never rfl (pi_list (pv 0)) (pg_name (i := 2) sc__law_together.nd rfl (.inl rfl)) (pss_one (ps_set (i := 1) sc__law_together.nd rfl (.inl rfl) (pe_cal c__law_product hr (pa_cons (pv 1) (pa_cons (pv 2) pa_nil))))))
      (pss_one (ps_ret (pv 1))))), ?_⟩
    refine ⟨(by show 2 ≤ sizeLine; decide), fun p0 h0 => ⟨(by show 1 ≤ sizeLine; decide), fun l0 hl0 => ?_⟩⟩
    have s0 := same_new (o := .tup [.int 1, .int 1]) h0
    have s1 := same_new (o := .lst [.ref p0]) hl0
    have f0 : Fr (upd (upd H p0 (.tup [.int 1, .int 1])) l0 (.lst [.ref p0])) p0 1 := s1 _ _ upd_same
    refine ⟨_, rfl, a, rfl, ⟨_, SqL.of ((s0.trans s1) _ _ ha)⟩, ?_⟩
    refine for_it (walk_list (K := K) (a := a) (xs := ws)) (fun i σ G => Same H G ∧ ∃ (l : Addr) (y2 : Option V), σ = [some (.ref a), some (.ref l), y2] ∧ H l = none ∧ FrL G l (tog (ss.take i))) ⟨s0.trans s1, l0, none, rfl, s0.free hl0, _, upd_same, FrsAt.one f0⟩ (fun i σ G _ hP => SqL.of (hP.1 _ _ ha)) (fun i v σ G G' hi hP hY => ?_) (fun σ G hP => ?_)
    · obtain ⟨sG, l, y2, rfl, hl, fl⟩ := hP
      obtain ⟨rfl, hY⟩ := hY
      obtain ⟨b, s', rfl, hs', fb⟩ := hs.get hY
      have li := (List.getElem?_eq_some_iff.mp hs').1
      have sc1 := sec s' (List.mem_of_getElem? hs')
      have st := take_sect sec i
      have lt4 : (ss.take i).length ≤ 4 := by rw [List.length_take]; omega
      obtain ⟨q0, q1, q2⟩ := tog_sm st lt4
      refine ⟨_, rfl, _, rfl, l, b, _, s', _, _, _, _, rfl, fl, fb.same sG, (fun z => by rw [z] at q1; cases q1), sc1.ne, by omega, by have := sc1.2.1; omega, q0, sc1.sm, tog_sz st lt4, sect_sz sc1, step_sz st lt4 sc1, fun p G2 hp s2 f2 => ?_⟩
      refine ⟨sG.trans s2, p, _, rfl, sG.free hp, ?_⟩
      rw [take_more hs', tog_snoc]
      exact f2
    · obtain ⟨sG, l, y2, rfl, hl, fl⟩ := hP
      rw [hs.1, List.take_of_length_le (Nat.le_refl _)] at fl
      exact ⟨_, rfl, k l G hl sG fl⟩
theorem sc__law_sizes : FnScope ["_law_places", "_law_found", "_law_one"] ["_law_places"] (defScope s__law_sizes) := ⟨rfl, rfl, rfl, by decide +kernel, rfl, by decide +kernel, by decide +kernel⟩
theorem ok__law_sizes {f : Addr} {fd : FuncData} (F : Fun K "_law_sizes" "_law_sizes" s__law_sizes f fd) (z : Zs mg) (c__law_plus : Cal P w K mg base 2 "_law_plus" ["_law_one", "_law_other"] spPl) : FnOk P w K mg base CX0 3 f fd ["_law_places"] spLSizes := by
  refine F.ok sc__law_sizes (fun vs H Q E h => ?_) (fun cdv A outer s H vs Q E hr h => ?_)
  · obtain ⟨a, qs, rfl, _⟩ := h
    rfl
  · obtain ⟨a, qs, rfl, hq, hS, k⟩ := h
    refine ⟨_, (pss_cons (ps_set (i := 1) sc__law_sizes.nd rfl (.inl rfl) (pe_tup (pa_cons pe_int (pa_cons pe_int pa_nil))))
      (pss_cons (ps_for PassesOwn.never rfl (pi_list (pv 0)) (pg_name (i := 2) sc__law_sizes.nd rfl (.inl rfl)) (pss_one (ps_set (i := 1) sc__law_sizes.nd rfl (.inl rfl) (pe_cal c__law_plus hr (pa_cons (pv 1) (pa_cons (pe_tup (pa_cons (pe_callB call_abs (by rfl) z.abs (by decide +kernel) (pa_cons (pe_ix ix_tup (pv 2) pe_int (fun _ _ => rfl)) pa_nil)) (pa_cons (pe_ix ix_tup (pv 2) pe_int (fun _ _ => rfl)) pa_nil))) pa_nil))))))
      (pss_one (ps_ret (pv 1))))), ?_⟩
    obtain ⟨vs, ha, lv, hv⟩ := hq.len
    obtain ⟨D, d0, d1, l40, hsm⟩ := hS
    have bs : ∀ i : Nat, SM D (2 ^ 110) (absS (qs.take i)) := fun i => (absS_sm fun q hq => hsm q (List.mem_of_mem_take hq)).mono (Nat.le_trans (Nat.mul_le_mul_right _ (show (qs.take i).length ≤ 40 by rw [List.length_take]; omega)) (by decide +kernel))
    have z1 : Sz D (2 ^ 110) := ⟨d0, Nat.le_trans d1 (Nat.pow_le_pow_right (by decide) (by decide)), Nat.pow_le_pow_right (by decide) (by decide)⟩
    have z2 : Sz D (2 ^ 100) := ⟨d0, Nat.le_trans d1 (Nat.pow_le_pow_right (by decide) (by decide)), Nat.pow_le_pow_right (by decide) (by decide)⟩
    refine ⟨(by show 2 ≤ sizeLine; decide), fun p0 h0 => ?_⟩
    have s0 := same_new (o := .tup [.int 0, .int 1]) h0
    have f0 : Fr (upd H p0 (.tup [.int 0, .int 1])) p0 0 := upd_same
    refine ⟨_, rfl, a, rfl, ⟨_, SqL.of (s0 _ _ ha)⟩, ?_⟩
    refine for_it (walk_list (K := K) (a := a) (xs := vs)) (fun i σ G => Same H G ∧ ∃ (l : Addr) (y2 : Option V), σ = [some (.ref a), some (.ref l), y2] ∧ H l = none ∧ Fr G l (absS (qs.take i))) ⟨s0, p0, none, rfl, h0, f0⟩ (fun i σ G _ hP => SqL.of (hP.1 _ _ ha)) (fun i v σ G G' hi hP hY => ?_) (fun σ G hP => ?_)
    · obtain ⟨sG, l, y2, rfl, hl, fl⟩ := hP
      obtain ⟨rfl, hY⟩ := hY
      obtain ⟨p, q, rfl, hqx, hp⟩ := FrsAt.get hv hY
      have hpG := sG _ _ hp
      have sq := aR_sm (hsm q (List.mem_of_getElem? hqx))
      refine ⟨_, rfl, _, rfl, p, _, 0, .int q.num, rfl, rfl, SqT.of hpG, a0, _, rfl, _, rfl, p, _, 1, .int q.den, rfl, rfl, SqT.of hpG, a1, (by show 2 ≤ sizeLine; decide), fun r hr => ?_⟩
      have sN := same_new (o := .tup [.int (if q.num < 0 then -q.num else q.num), .int (q.den : Int)]) hr
      have fr : Fr (upd G' r (.tup [.int (if q.num < 0 then -q.num else q.num), .int (q.den : Int)])) r (aR q) := by
        have e := aR_pr q
        show (upd G' r _) r = some (.tup [.int (pr (aR q)).1, .int (pr (aR q)).2])
        rw [e, upd_same]
      have fl2 : Fr (upd G' r (.tup [.int (if q.num < 0 then -q.num else q.num), .int (q.den : Int)])) l (absS (qs.take i)) := sN _ _ fl
      refine ⟨l, r, _, _, rfl, fl2.tz z1 (bs i), fr.tz z2 sq, fun p2 G2 hp2 s2 f2 => ?_⟩
      have SS := sG.trans (sN.trans s2)
      refine ⟨SS, p2, _, rfl, (sG.trans sN).free hp2, ?_⟩
      rw [take_more hqx, absS_snoc]
      exact f2
    · obtain ⟨sG, l, y2, rfl, hl, fl⟩ := hP
      rw [lv, List.take_of_length_le (Nat.le_refl _)] at fl
      exact ⟨_, rfl, k l G hl sG fl⟩
theorem sc__law_error : FnScope ["_law_sections", "_law_sums_here", "_law_found", "_law_at", "_law_moved"] ["_law_sections", "_law_sums_here"] (defScope s__law_error) := ⟨rfl, rfl, rfl, by decide +kernel, rfl, by decide +kernel, by decide +kernel⟩
theorem ok__law_error {f : Addr} {fd : FuncData} (F : Fun K "_law_error" "_law_error" s__law_error f fd) (z : Zs mg) (c__law_plus : Cal P w K mg base 2 "_law_plus" ["_law_one", "_law_other"] spPl) (c__law_times : Cal P w K mg base 2 "_law_times" ["_law_one", "_law_other"] spTm) (c__law_together : Cal P w K mg base 4 "_law_together" ["_law_sections"] spLTog) (c__law_sizes : Cal P w K mg base 3 "_law_sizes" ["_law_places"] spLSizes) : FnOk P w K mg base CX0 5 f fd ["_law_sections", "_law_sums_here"] spLErr := by
  refine F.ok sc__law_error (fun vs H Q E h => ?_) (fun cdv A outer s H vs Q E hr h => ?_)
  · obtain ⟨a, c, ws, ss, Tm, rfl, _⟩ := h
    rfl
  · obtain ⟨a, c, ws, ss, Tm, rfl, ha, hc, hs, sec, n0, n4, hT, k⟩ := h
    refine ⟨_, (pss_cons (ps_set (i := 2) sc__law_error.nd rfl (.inl rfl) (pe_tup (pa_cons pe_int (pa_cons pe_int pa_nil))))
      (pss_cons (ps_for PassesOwn.never rfl (pi_enum (by rfl) z.enumerate (pa_cons (pv 1) pa_nil)) (pg_tup (by rfl) (pgs_cons (pg_name (i := 3) sc__law_error.nd rfl (.inl rfl)) (pgs_cons (pg_name (i := 4) sc__law_error.nd rfl (.inl rfl)) pgs_nil))) (pss_one (ps_set (i := 2) sc__law_error.nd rfl (.inl rfl) (pe_cal c__law_plus hr (pa_cons (pv 2) (pa_cons (pe_cal c__law_times hr (pa_cons (pe_tup (pa_cons (pe_op op_oneShl pe_int (pv 4)) (pa_cons pe_int pa_nil))) (pa_cons (pe_cal c__law_sizes hr (pa_cons (pe_cal c__law_together hr (pa_cons (pe_slice sl_list (pv 0) (po_some (pe_op op_add (pv 3) pe_int)) po_none) pa_nil)) pa_nil)) pa_nil))) pa_nil))))))
      (pss_one (ps_ret (pv 2))))), ?_⟩
    have bT := fun i (h : i ≤ ss.length) => errP_sm (T := Tm) sec n4 hT h
    obtain ⟨d2a, d2b⟩ := DD2 sec n4
    have z1 : ∀ M, M ≤ 272 → Sz9 (2 * DD ss) (2 ^ M) := fun M h => ⟨d2a, d2b, Nat.pow_le_pow_right (by decide) h⟩
    refine ⟨(by show 2 ≤ sizeLine; decide), fun p0 h0 => ?_⟩
    have s0 := same_new (o := .tup [.int 0, .int 1]) h0
    have f0 : Fr (upd H p0 (.tup [.int 0, .int 1])) p0 0 := upd_same
    refine ⟨_, rfl, c, _, rfl, SqL.of (s0 _ _ hc), ?_⟩
    refine for_it (walk_enum (K := K) (a := c) (xs := totL ss.length fun i => (Tm (i + 1) : Int))) (fun i σ G => Same H G ∧ ∃ (l : Addr) (y3 y4 : Option V), σ = [some (.ref a), some (.ref c), some (.ref l), y3, y4] ∧ H l = none ∧ Fr G l (errP Tm ss i)) ⟨s0, p0, none, none, rfl, h0, f0⟩ (fun i σ G _ hP => SqL.of (hP.1 _ _ hc)) (fun i v σ G G' hi hP hY => ?_) (fun σ G hP => ?_)
    · obtain ⟨sG, l, y3, y4, rfl, hl, fl⟩ := hP
      obtain ⟨Tq, u, v2, rfl, nT, rfl, e2, e3⟩ := hY
      dsimp only at e2 e3
      cases e2
      rw [totL_len] at hi
      rw [totL_at _ hi] at e3
      cases e3
      have sN := same_new (o := .tup [.int ((i : Nat) : Int), .int (Tm (i + 1) : Int)]) nT
      refine ⟨Tq, _, rfl, SqT.of upd_same, rfl, _, _, rfl, _, _, rfl, rfl, ?_⟩
      have fl2 : Fr (upd G Tq (.tup [.int ((i : Nat) : Int), .int (Tm (i + 1) : Int)])) l (errP Tm ss i) := sN _ _ fl
      have sG2 := sG.trans sN
      generalize upd G Tq _ = G1 at sN sG2 fl2 ⊢
      have t160 := hT (i + 1) (by omega)
      refine ⟨_, rfl, _, rfl, Tm (i + 1), rfl, rfl, by omega, (by show 2 ≤ sizeLine; decide), fun u hu => ?_⟩
      have s2 := same_new (o := .tup [.int (2 ^ Tm (i + 1)), .int 2]) hu
      have hu2 : (upd G1 u (.tup [.int (2 ^ Tm (i + 1)), .int 2])) u = some (.tup [.int (2 ^ Tm (i + 1)), .int 2]) := upd_same
      have sG3 := sG2.trans s2
      generalize upd G1 u _ = G2 at s2 hu2 sG3 ⊢
      refine ⟨_, rfl, _, rfl, _, _, rfl, rfl, _, rfl, a, ws, rfl, SqL.of (sG3 _ _ ha), fun q hq => ?_⟩
      have ec : cutV ws (some (((i : Nat) : Int) + 1)) none = ws.drop (i + 1) := cut_from (n := i + 1) (by rw [hs.1]; omega)
      rw [ec]
      have s3 := same_new (o := .lst (ws.drop (i + 1))) hq
      have eq2 : (upd G2 q (.lst (ws.drop (i + 1)))) q = some (.lst (ws.drop (i + 1))) := upd_same
      have sG4 := sG3.trans s3
      generalize upd G2 q _ = G3 at s3 eq2 sG4 ⊢
      have sec2 : ∀ s ∈ ss.drop (i + 1), Sect s := fun s h => sec s (List.mem_of_mem_drop h)
      have l4 : (ss.drop (i + 1)).length ≤ 4 := by rw [List.length_drop]; omega
      refine ⟨q, _, ss.drop (i + 1), rfl, eq2, (hs.same sG4).drop (i + 1), sec2, l4, fun t G4 ht s4 ft => ?_⟩
      refine ⟨t, _, rfl, ft, Sm.tog sec2 l4, fun y G5 hy s5 fy => ?_⟩
      have S5 := s3.trans (s4.trans s5)
      have eb := beh_sm sec n4 (i + 1)
      have hu5 : Tp G5 u (Rat.divInt (2 ^ Tm (i + 1)) 2) := ⟨_, _, S5 _ _ hu2, by decide, Nat.lt_of_le_of_lt (two_le t160) (Nat.pow_lt_pow_right (by decide) (by decide)), Nat.lt_of_lt_of_le (show (2 : Int).natAbs < 2 ^ 2 by decide) (Nat.pow_le_pow_right (by decide) (by decide)), rfl⟩
      have d1 : Sz9 (DD ss) (2 ^ 110) := ⟨by have := DD_pos ss; omega, Nat.le_trans (DD_640 sec n4) (Nat.pow_le_pow_right (by decide) (by decide)), Nat.pow_le_pow_right (by decide) (by decide)⟩
      refine ⟨u, y, _, _, rfl, hu5, fy.t9 d1 eb, fun r G6 hr s6 f6 => ?_⟩
      have S6 := s2.trans (S5.trans s6)
      have eT := errT_sm (T := Tm) sec n4 hT hi
      have fl6 : Fr G6 l (errP Tm ss i) := S6 _ _ fl2
      refine ⟨l, r, _, _, rfl, fl6.t9 (z1 272 (Nat.le_refl _)) (bT i (by omega)), f6.t9 (z1 270 (by decide)) eT, fun p G7 hp s7 f7 => ?_⟩
      have S7 := (sG2.trans S6)
      exact ⟨S7.trans s7, p, _, _, rfl, S7.free hp, f7⟩
    · obtain ⟨sG, l, y3, y4, rfl, hl, fl⟩ := hP
      rw [totL_len] at fl
      exact ⟨_, rfl, k l G hl sG fl⟩
end
end E1

namespace E1
open PySem PySem.Spec PyProof.Rows L2

theorem kit2 {K : PySem.W.Frag} {t a b : String} {r1 r2 : Bool} (h1 : kitB t a = some r1) (h2 : kitB t b = some r2) : PySem.W.kitAny K (.type t) [.type a, .type b] = some (r1 || r2) := by
  refine kitAny_cons (kit_ty h1) (fun e => ?_) (fun e => ?_)
  · subst e
    refine kitAny_cons (kit_ty h2) (fun e => ?_) (fun e => ?_)
    · subst e
      rfl
    · subst e
      rfl
  · subst e
    rfl
/-- a thing that is no list and no tuple -/
inductive Flat : V → Prop where
  | int (i : Int) : Flat (.int i)
  | bl (b : Bool) : Flat (.bl b)
  | str (s : Str) : Flat (.str s)
  | non : Flat .non
/-- alike at a depth below n -/
def Al (H : Hp) : Nat → V → V → Prop
  | 0, _, _ => False
  | n + 1, x, y => (x = y ∧ Flat x) ∨ ∃ a c xs ys, x = .ref a ∧ y = .ref c ∧ xs.length = ys.length ∧ xs.length ≤ 1000 ∧ (∀ (i : Nat) u v, xs[i]? = some u → ys[i]? = some v → Al H n u v) ∧
      ((H a = some (.tup xs) ∧ H c = some (.tup ys)) ∨ (H a = some (.lst xs) ∧ H c = some (.lst ys)))
theorem Al.same {H H' : Hp} (s : Same H H') : ∀ (n : Nat) (x y : V), Al H n x y → Al H' n x y
  | 0, _, _, h => h
  | n + 1, x, y, h => by
    rcases h with h | ⟨a, c, xs, ys, e1, e2, l1, l2, al, hk⟩
    · exact .inl h
    · refine .inr ⟨a, c, xs, ys, e1, e2, l1, l2, fun i u v h1 h2 => Al.same s n u v (al i u v h1 h2), ?_⟩
      rcases hk with ⟨h1, h2⟩ | ⟨h1, h2⟩
      · exact .inl ⟨s _ _ h1, s _ _ h2⟩
      · exact .inr ⟨s _ _ h1, s _ _ h2⟩
theorem Al.more {H : Hp} : ∀ (n : Nat) (x y : V), Al H n x y → Al H (n + 1) x y
  | 0, _, _, h => False.elim h
  | n + 1, x, y, h => by
    rcases h with h | ⟨a, c, xs, ys, e1, e2, l1, l2, al, hk⟩
    · exact .inl h
    · exact .inr ⟨a, c, xs, ys, e1, e2, l1, l2, fun i u v h1 h2 => Al.more n u v (al i u v h1 h2), hk⟩
theorem Al.int {H : Hp} {n : Nat} (i : Int) : Al H (n + 1) (.int i) (.int i) := .inl ⟨rfl, .int i⟩
theorem Al.ints {H : Hp} {n : Nat} {a c : Addr} {ns : List Int} (hl : ns.length ≤ 1000) (h1 : H a = some (.lst (ns.map V.int))) (h2 : H c = some (.lst (ns.map V.int))) : Al H (n + 2) (.ref a) (.ref c) := by
  refine .inr ⟨a, c, _, _, rfl, rfl, rfl, by rw [List.length_map]; exact hl, fun i u v e1 e2 => ?_, .inr ⟨h1, h2⟩⟩
  have e := Option.some.inj (e1.symm.trans e2)
  subst e
  rw [List.getElem?_map] at e1
  obtain ⟨m, _, rfl⟩ := Option.map_eq_some_iff.mp e1
  exact Al.int m
def spSameN (n : Nat) : Sp := fun vs H Q _ => ∃ x y, vs = [x, y] ∧ Al H n x y ∧ ∀ H', Same H H' → Q (.bl true) H'
/-- two tuples beside each other: as many turns as the shorter one has places -/
theorem walk_zipT {K : PySem.W.Frag} {a b : Addr} {xs ys : List V} {n : Nat} (hn : n = min xs.length ys.length) : Walk (RZ.ItzT K a b) n (fun H => SqT K H a xs ∧ SqT K H b ys) (YPair (fun i => xs[i]?) (fun i => ys[i]?)) := by
  have less : ∀ i, i < n → i < xs.length ∧ i < ys.length := fun i hi => ⟨by omega, by omega⟩
  constructor
  · intro i G hi both
    obtain ⟨hx, hy⟩ := less i hi
    exact ⟨xs, ys, xs[i]'hx, ys[i]'hy, both.1, both.2, List.getElem?_eq_getElem hx, List.getElem?_eq_getElem hy⟩
  · intro G both
    exact ⟨xs, ys, both.1, both.2, by omega⟩
  · intro i G v G' hi both told
    obtain ⟨T, l, r, e1, e2, e3, gl, gr⟩ := told
    exact ⟨T, l, r, e1, e2, e3, gl _ both.1, gr _ both.2⟩
theorem rep_map (n : Nat) : (List.replicate n true).map V.bl = List.replicate n (V.bl true) := by rw [List.map_replicate]
theorem rep_more (n : Nat) : List.replicate n (V.bl true) ++ [V.bl true] = List.replicate (n + 1) (V.bl true) := by rw [List.replicate_succ']
theorem cut_to {vs : List V} {n : Nat} (h : n ≤ vs.length) : cutV vs none (some (n : Int)) = vs.take n := by
  unfold cutV
  rw [HT.sIx_none, HT.sIx_nat, Nat.min_eq_left h, List.drop_zero, Nat.sub_zero]
def Pl9 (q : Rat) : Prop := q.num.natAbs ≤ 1000000 ∧ q.den ≤ 1000000
def spPlace : Sp := fun vs H Q _ => ∃ (w : Addr) (c : Int), vs = [.ref w] ∧ WellAt H w c ∧ c ≤ 100000 ∧ ∀ p q H', H p = none → SameBut w H H' → WellAt H' w (c + 4) → Fr H' p q → Pl9 q → Q (.ref p) H'
def spLim : Sp := fun vs H Q _ => ∃ (w : Addr) (c : Int), vs = [.ref w] ∧ WellAt H w c ∧ c ≤ 100000 ∧ ∀ r H', 1 ≤ r → r ≤ 1000000000000 → SameBut w H H' → WellAt H' w (c + 4) → Q (.int r) H'
theorem pl9_div {t b : Int} (hb : 0 < b) (h1 : b ≤ 1000000) (h2 : t.natAbs ≤ 1000000) : Pl9 (Rat.divInt t b) := by
  have s : Sc b t.natAbs (Rat.divInt t b) := ⟨t, div_q (by omega), Nat.le_refl _⟩
  have d := Nat.le_of_dvd (by omega) (Int.natAbs_dvd_natAbs.mpr s.den)
  have n := s.num (by omega)
  exact ⟨by omega, by omega⟩
theorem sgn_le {s r : Int} (h : s = 1 ∨ s = -1) (hr : r.natAbs ≤ 1000000) : (s * r).natAbs ≤ 1000000 := by
  rcases h with rfl | rfl <;> omega
theorem fr_int {H : Hp} {p : Addr} {n : Int} (h : H p = some (.tup [.int n, .int 1])) : Fr H p (n : Rat) := by
  show H p = some (.tup [.int ((n : Rat).num), .int (((n : Rat).den : Nat) : Int)])
  rw [Rat.num_intCast, Rat.den_intCast]
  exact h
theorem pl9_int {n : Int} (h : n.natAbs ≤ 1000000) : Pl9 (n : Rat) := by
  unfold Pl9
  rw [Rat.num_intCast, Rat.den_intCast]
  exact ⟨h, by decide⟩
theorem pick3 {k : Int} (x0 x1 x2 : Int) (h0 : 0 ≤ k) (h1 : k < 3) : ∃ v : Int, atI [V.int x0, V.int x1, V.int x2] k = some (.int v) ∧ (v = x0 ∨ v = x1 ∨ v = x2) := by
  rcases (by omega : k = 0 ∨ k = 1 ∨ k = 2) with rfl | rfl | rfl
  · exact ⟨x0, atI_nat (j := 0) rfl, .inl rfl⟩
  · exact ⟨x1, atI_nat (j := 1) rfl, .inr (.inl rfl)⟩
  · exact ⟨x2, atI_nat (j := 2) rfl, .inr (.inr rfl)⟩

def spLSums : Sp := fun vs H Q _ => ∃ (a : Addr) (ws : List V) (ss : List (List Rat)) (m l : Int), vs = [.ref a, .int m, .int l] ∧ H a = some (.lst ws) ∧ SeL H ws ss ∧ (∀ s ∈ ss, Sect s) ∧ 0 < ss.length ∧ ss.length ≤ 4 ∧ (1 ≤ m ∧ m ≤ 1000000000000) ∧ (1 ≤ l ∧ l ≤ 1000000000000) ∧
  ∀ p H', H p = none → Same H H' → H' p = some (.lst (totL ss.length fun i => (moved m l ss (i + 1) : Int))) → Q (.ref p) H'
section
variable {P : Program} {w : World} {K : PySem.W.Frag} {mg : Str → Option Value} {base : Heap}
theorem sc__law_same : FnScope ["_law_found", "_law_due", "_law_one", "_law_other"] ["_law_found", "_law_due"] (defScope s__law_same) := ⟨rfl, rfl, rfl, by decide +kernel, rfl, by decide +kernel, by decide +kernel⟩
theorem ok_same {f : Addr} {fd : FuncData} {k n : Nat} (F : Fun K "_law_same" "_law_same" s__law_same f fd) (z : Zs mg) (c__law_same : Cal P w K mg base k "_law_same" ["_law_found", "_law_due"] (spSameN n)) : FnOk P w K mg base CX0 (k + 1) f fd ["_law_found", "_law_due"] (spSameN (n + 1)) := by
  refine F.ok sc__law_same (fun vs H Q E h => ?_) (fun cdv A outer s H vs Q E hr h => ?_)
  · obtain ⟨x, y, rfl, _⟩ := h
    rfl
  · obtain ⟨x, y, rfl, hh, q⟩ := h
    refine ⟨_, (pss_cons (ps_if (pt_val (pe_callB call_isiT (by rfl) z.isinstance (by decide +kernel) (pa_cons (pv 1) (pa_cons (pe_tup (pa_cons (pe_bltn (v := .ty "list") (by rfl) z.list (by decide +kernel) rfl) (pa_cons (pe_bltn (v := .ty "tuple") (by rfl) z.tuple (by decide +kernel) rfl) pa_nil))) pa_nil)))) (pss_cons (ps_if (PW.pt (pw_or (pt_cmpR op_ne (pe_callB call_isi (by rfl) z.isinstance (by decide +kernel) (pa_cons (pv 1) (pa_cons (pe_bltn (v := .ty "list") (by rfl) z.list (by decide +kernel) rfl) pa_nil))) (pe_callB call_isi (by rfl) z.isinstance (by decide +kernel) (pa_cons (pv 0) (pa_cons (pe_bltn (v := .ty "list") (by rfl) z.list (by decide +kernel) rfl) pa_nil))) (nomark _)) (pw_or1 (pt_cmpR op_ne (pe_callB call_isi (by rfl) z.isinstance (by decide +kernel) (pa_cons (pv 1) (pa_cons (pe_bltn (v := .ty "tuple") (by rfl) z.tuple (by decide +kernel) rfl) pa_nil))) (pe_callB call_isi (by rfl) z.isinstance (by decide +kernel) (pa_cons (pv 0) (pa_cons (pe_bltn (v := .ty "tuple") (by rfl) z.tuple (by decide +kernel) rfl) pa_nil))) (nomark _))))) (pss_one (ps_ret pe_bl)) pss_nil)
      (pss_one (ps_ret (pe_and (pe_cmpR op_eq (pe_callB call_len_seq (by rfl) z.len PySem.boot_len (pa_cons (pv 0) pa_nil)) (pe_callB call_len_seq (by rfl) z.len PySem.boot_len (pa_cons (pv 1) pa_nil)) (nomark _)) (pe_one (pe_callB (cr_all rfl) (by rfl) z.all (by decide +kernel) (pa_cons (pe_lc (own := [("_law_one", 2), ("_law_other", 3)]) (g := gTup K 2 (gCons (gName 2) (gCons (gName 3) gNil))) (tt := tYes) (te := (tCall (spSameN n) [] E0 (tCons (tVar 2) (tCons (tVar 3) tNil)))) (by rfl) sc__law_same.nd (RZ.pi_zipA (by rfl) z.zip (pa_cons (pv 0) (pa_cons (pv 1) pa_nil))) (blkOk_by (own := [("_law_one", 2), ("_law_other", 3)]) (N := ["_law_found", "_law_due", "_law_one", "_law_other"]) (sc := defScope s__law_same) (by decide +kernel)) (fun _ _ _ _ _ => by exact (pg_tup (by rfl) (pgs_cons (pg_name (i := 2) sc__law_same.nd rfl (.inl rfl)) (pgs_cons (pg_name (i := 3) sc__law_same.nd rfl (.inl rfl)) pgs_nil)))) (fun _ _ _ _ _ => by exact pts_nil) (fun _ _ _ _ _ => by exact (pe_cal (hle := Nat.le_refl _) c__law_same hr (pa_cons (pv 2) (pa_cons (pv 3) pa_nil))))) pa_nil))))))) pss_nil)
      (pss_cons (ps_if (pt_cmpR op_isN (pv 1) pe_non (nomark _)) (pss_one (ps_ret (pe_cmpR op_isN (pv 0) pe_non (nomark _)))) pss_nil)
      (pss_cons (ps_if (pt_val (pe_callB call_isiT (by rfl) z.isinstance (by decide +kernel) (pa_cons (pv 1) (pa_cons (pe_tup (pa_cons (pe_bltn (v := .ty "bool") (by rfl) z.bool (by decide +kernel) rfl) (pa_cons (pe_bltn (v := .ty "str") (by rfl) z.str (by decide +kernel) rfl) pa_nil))) pa_nil)))) (pss_one (ps_ret (pe_and (pe_cmpR op_eq (pe_callB call_isi (by rfl) z.isinstance (by decide +kernel) (pa_cons (pv 0) (pa_cons (pe_bltn (v := .ty "bool") (by rfl) z.bool (by decide +kernel) rfl) pa_nil))) (pe_callB call_isi (by rfl) z.isinstance (by decide +kernel) (pa_cons (pv 1) (pa_cons (pe_bltn (v := .ty "bool") (by rfl) z.bool (by decide +kernel) rfl) pa_nil))) (nomark _)) (pe_one (pe_cmpR op_eq (pv 0) (pv 1) (nomark _)))))) pss_nil)
      (pss_one (ps_ret (pe_and (pe_callB call_isi (by rfl) z.isinstance (by decide +kernel) (pa_cons (pv 0) (pa_cons (pe_bltn (v := .ty "int") (by rfl) z.int (by decide +kernel) rfl) pa_nil))) (pe_and (pe_not (pe_callB call_isi (by rfl) z.isinstance (by decide +kernel) (pa_cons (pv 0) (pa_cons (pe_bltn (v := .ty "bool") (by rfl) z.bool (by decide +kernel) rfl) pa_nil)))) (pe_one (pe_cmpR op_eq (pv 0) (pv 1) (nomark _)))))))))), ?_⟩
    rcases hh with ⟨rfl, hf⟩ | ⟨a, c, xs, ys, rfl, rfl, hlen, hmax, hal, hk⟩
    · cases hf with
      | int i =>
        refine ⟨_, rfl, (by show 2 ≤ sizeLine; decide), fun p hp => ⟨_, p, _, _, _, false, rfl, upd_same, .cons (.ty _) (.cons (.ty _) .nil), .base (.int i), kit2 (t := "int") (a := "list") (b := "tuple") (r1 := false) (r2 := false) (by decide +kernel) (by decide +kernel), _, rfl, iteF ?_⟩⟩
        refine ⟨_, rfl, rfl, _, rfl, ite2 (fun c => absurd (toB c) (fun e => nomatch e)) (fun _ => ?_)⟩
        refine ⟨_, rfl, (by show 2 ≤ sizeLine; decide), fun p2 hp2 => ⟨_, p2, _, _, _, false, rfl, upd_same, .cons (.ty _) (.cons (.ty _) .nil), .base (.int i), kit2 (t := "int") (a := "bool") (b := "str") (r1 := false) (r2 := false) (by decide +kernel) (by decide +kernel), _, rfl, iteF ?_⟩⟩
        refine ⟨_, rfl, _, .ty "int", _, _, true, rfl, .ty _, .base (.int i), kit_ty (by decide +kernel), _, rfl, iteT ⟨_, rfl, _, .ty "bool", _, _, false, rfl, .ty _, .base (.int i), kit_ty (by decide +kernel), _, rfl, _, rfl, iteT ⟨_, rfl, _, rfl, rfl, ?_⟩⟩⟩
        rw [decide_eq_true rfl]
        exact q _ ((same_new hp).trans (same_new hp2))
      | bl b =>
        refine ⟨_, rfl, (by show 2 ≤ sizeLine; decide), fun p hp => ⟨_, p, _, _, _, false, rfl, upd_same, .cons (.ty _) (.cons (.ty _) .nil), .base (.bl b), kit2 (t := "bool") (a := "list") (b := "tuple") (r1 := false) (r2 := false) (by decide +kernel) (by decide +kernel), _, rfl, iteF ?_⟩⟩
        refine ⟨_, rfl, rfl, _, rfl, ite2 (fun c => absurd (toB c) (fun e => nomatch e)) (fun _ => ?_)⟩
        refine ⟨_, rfl, (by show 2 ≤ sizeLine; decide), fun p2 hp2 => ⟨_, p2, _, _, _, true, rfl, upd_same, .cons (.ty _) (.cons (.ty _) .nil), .base (.bl b), kit2 (t := "bool") (a := "bool") (b := "str") (r1 := true) (r2 := false) (by decide +kernel) (by decide +kernel), _, rfl, iteT ?_⟩⟩
        refine ⟨_, rfl, _, .ty "bool", _, _, true, rfl, .ty _, .base (.bl b), kit_ty (by decide +kernel), _, rfl, _, .ty "bool", _, _, true, rfl, .ty _, .base (.bl b), kit_ty (by decide +kernel), rfl, _, rfl, ?_⟩
        rw [decide_eq_true rfl]
        refine iteT ⟨_, rfl, _, rfl, rfl, ?_⟩
        rw [decide_eq_true rfl]
        exact q _ ((same_new hp).trans (same_new hp2))
      | str t =>
        refine ⟨_, rfl, (by show 2 ≤ sizeLine; decide), fun p hp => ⟨_, p, _, _, _, false, rfl, upd_same, .cons (.ty _) (.cons (.ty _) .nil), .base (.str t), kit2 (t := "str") (a := "list") (b := "tuple") (r1 := false) (r2 := false) (by decide +kernel) (by decide +kernel), _, rfl, iteF ?_⟩⟩
        refine ⟨_, rfl, rfl, _, rfl, ite2 (fun c => absurd (toB c) (fun e => nomatch e)) (fun _ => ?_)⟩
        refine ⟨_, rfl, (by show 2 ≤ sizeLine; decide), fun p2 hp2 => ⟨_, p2, _, _, _, true, rfl, upd_same, .cons (.ty _) (.cons (.ty _) .nil), .base (.str t), kit2 (t := "str") (a := "bool") (b := "str") (r1 := false) (r2 := true) (by decide +kernel) (by decide +kernel), _, rfl, iteT ?_⟩⟩
        refine ⟨_, rfl, _, .ty "bool", _, _, false, rfl, .ty _, .base (.str t), kit_ty (by decide +kernel), _, rfl, _, .ty "bool", _, _, false, rfl, .ty _, .base (.str t), kit_ty (by decide +kernel), rfl, _, rfl, ?_⟩
        rw [decide_eq_true rfl]
        refine iteT ⟨_, rfl, _, rfl, rfl, ?_⟩
        rw [decide_eq_true rfl]
        exact q _ ((same_new hp).trans (same_new hp2))
      | non =>
        refine ⟨_, rfl, (by show 2 ≤ sizeLine; decide), fun p hp => ⟨_, p, _, _, _, false, rfl, upd_same, .cons (.ty _) (.cons (.ty _) .nil), .base .non, kit2 (t := "NoneType") (a := "list") (b := "tuple") (r1 := false) (r2 := false) (by decide +kernel) (by decide +kernel), _, rfl, iteF ?_⟩⟩
        refine ⟨_, rfl, rfl, _, rfl, ?_⟩
        rw [decide_eq_true rfl]
        refine iteT ⟨_, rfl, rfl, ?_⟩
        rw [decide_eq_true rfl]
        exact q _ (same_new hp)
    · rcases hk with ⟨h1, h2⟩ | ⟨h1, h2⟩
      · refine ⟨_, rfl, (by show 2 ≤ sizeLine; decide), fun p hp => ⟨_, p, _, _, _, true, rfl, upd_same, .cons (.ty _) (.cons (.ty _) .nil), .base (.tup (same_new hp _ _ h2)), kit2 (t := "tuple") (a := "list") (b := "tuple") (r1 := false) (r2 := true) (by decide +kernel) (by decide +kernel), _, rfl, iteT ?_⟩⟩
        have s1 : Same H (upd H p (.tup [V.ty "list", V.ty "tuple"])) := same_new hp
        have k1 := s1 _ _ h1
        have k2 := s1 _ _ h2
        refine ⟨_, rfl, _, .ty "list", _, _, false, rfl, .ty _, .base (.tup k2), kit_ty (by decide +kernel), _, rfl, _, .ty "list", _, _, false, rfl, .ty _, .base (.tup k1), kit_ty (by decide +kernel), rfl, _, rfl, iteNS rfl ?_⟩
        refine ⟨_, rfl, _, .ty "tuple", _, _, true, rfl, .ty _, .base (.tup k2), kit_ty (by decide +kernel), _, rfl, _, .ty "tuple", _, _, true, rfl, .ty _, .base (.tup k1), kit_ty (by decide +kernel), rfl, _, rfl, iteNS rfl ?_⟩
        refine ⟨_, rfl, a, xs, rfl, .inr (SqT.of k1), _, rfl, c, ys, rfl, .inr (SqT.of k2), rfl, _, rfl, ?_⟩
        rw [decide_eq_true (by rw [hlen])]
        refine iteT ⟨_, rfl, _, rfl, a, c, xs, ys, rfl, .inr ⟨SqT.of k1, SqT.of k2, fun D hD => ?_⟩⟩
        refine lc_it (walk_zipT (K := K) (a := a) (b := c) (xs := xs) (ys := ys) rfl) (fun i H2 => Same (upd H p (.tup [V.ty "list", V.ty "tuple"])) H2 ∧ H2 D = some (.lst (List.replicate i (V.bl true))))
          ⟨same_new hD, upd_same⟩ (fun i H2 _ hP => ⟨SqT.of (hP.1 _ _ k1), SqT.of (hP.1 _ _ k2)⟩) (fun i x H2 H3 hi hP hY => ?_) (fun H2 hP => ?_)
        · obtain ⟨s2, hD2⟩ := hP
          obtain ⟨Tp, u, v, rfl, nT, rfl, e1, e2⟩ := hY
          have fu := hal i u v e1 e2
          refine ⟨Tp, [u, v], rfl, SqT.of upd_same, rfl, _, _, rfl, _, _, rfl, rfl, rfl, ?_⟩
          refine ⟨_, rfl, _, rfl, u, v, rfl, Al.same ((s1.trans s2).trans (same_new nT)) n u v fu, fun H4 s4 => ?_⟩
          have s5 : Same H2 H4 := (same_new nT).trans s4
          have hil : i < 1001 := by
            rw [hlen, Nat.min_self] at hi
            omega
          refine ⟨_, s5 _ _ hD2, ?_, fun b o e => ?_, ?_⟩
          · rw [List.length_replicate]
            exact small1000 (by omega)
          · rw [upd_ne (ne_of_none e hD)]
            exact s5 _ _ (s2 _ _ e)
          · rw [upd_same, rep_more]
        · obtain ⟨s2, hD2⟩ := hP
          refine ⟨D, List.replicate _ true, rfl, SqL.of (by rw [rep_map]; exact hD2), ?_⟩
          rw [rep_all]
          exact q _ (s1.trans s2)
      · refine ⟨_, rfl, (by show 2 ≤ sizeLine; decide), fun p hp => ⟨_, p, _, _, _, true, rfl, upd_same, .cons (.ty _) (.cons (.ty _) .nil), .base (.lst (same_new hp _ _ h2)), kit2 (t := "list") (a := "list") (b := "tuple") (r1 := true) (r2 := false) (by decide +kernel) (by decide +kernel), _, rfl, iteT ?_⟩⟩
        have s1 : Same H (upd H p (.tup [V.ty "list", V.ty "tuple"])) := same_new hp
        have k1 := s1 _ _ h1
        have k2 := s1 _ _ h2
        refine ⟨_, rfl, _, .ty "list", _, _, true, rfl, .ty _, .base (.lst k2), kit_ty (by decide +kernel), _, rfl, _, .ty "list", _, _, true, rfl, .ty _, .base (.lst k1), kit_ty (by decide +kernel), rfl, _, rfl, iteNS rfl ?_⟩
        refine ⟨_, rfl, _, .ty "tuple", _, _, false, rfl, .ty _, .base (.lst k2), kit_ty (by decide +kernel), _, rfl, _, .ty "tuple", _, _, false, rfl, .ty _, .base (.lst k1), kit_ty (by decide +kernel), rfl, _, rfl, iteNS rfl ?_⟩
        refine ⟨_, rfl, a, xs, rfl, .inl (SqL.of k1), _, rfl, c, ys, rfl, .inl (SqL.of k2), rfl, _, rfl, ?_⟩
        rw [decide_eq_true (by rw [hlen])]
        refine iteT ⟨_, rfl, _, rfl, a, c, xs, ys, rfl, .inl ⟨SqL.of k1, SqL.of k2, fun D hD => ?_⟩⟩
        refine lc_it (walk_zip (K := K) (a := a) (b := c) (xs := xs) (ys := ys) rfl) (fun i H2 => Same (upd H p (.tup [V.ty "list", V.ty "tuple"])) H2 ∧ H2 D = some (.lst (List.replicate i (V.bl true))))
          ⟨same_new hD, upd_same⟩ (fun i H2 _ hP => ⟨SqL.of (hP.1 _ _ k1), SqL.of (hP.1 _ _ k2)⟩) (fun i x H2 H3 hi hP hY => ?_) (fun H2 hP => ?_)
        · obtain ⟨s2, hD2⟩ := hP
          obtain ⟨Tp, u, v, rfl, nT, rfl, e1, e2⟩ := hY
          have fu := hal i u v e1 e2
          refine ⟨Tp, [u, v], rfl, SqT.of upd_same, rfl, _, _, rfl, _, _, rfl, rfl, rfl, ?_⟩
          refine ⟨_, rfl, _, rfl, u, v, rfl, Al.same ((s1.trans s2).trans (same_new nT)) n u v fu, fun H4 s4 => ?_⟩
          have s5 : Same H2 H4 := (same_new nT).trans s4
          have hil : i < 1001 := by
            rw [hlen, Nat.min_self] at hi
            omega
          refine ⟨_, s5 _ _ hD2, ?_, fun b o e => ?_, ?_⟩
          · rw [List.length_replicate]
            exact small1000 (by omega)
          · rw [upd_ne (ne_of_none e hD)]
            exact s5 _ _ (s2 _ _ e)
          · rw [upd_same, rep_more]
        · obtain ⟨s2, hD2⟩ := hP
          refine ⟨D, List.replicate _ true, rfl, SqL.of (by rw [rep_map]; exact hD2), ?_⟩
          rw [rep_all]
          exact q _ (s1.trans s2)

theorem ok_sameN {f : Addr} {fd : FuncData} {k : Nat} (F : Fun K "_law_same" "_law_same" s__law_same f fd) : FnOk P w K mg base CX0 (k + 1) f fd ["_law_found", "_law_due"] (spSameN 0) := by
  refine F.ok sc__law_same (fun vs H Q E h => ?_) (fun cdv A outer s H vs Q E hr h => ?_)
  · obtain ⟨_, _, _, h, _⟩ := h
    exact False.elim h
  · obtain ⟨_, _, _, h, _⟩ := h
    exact False.elim h
theorem sc__law_place : FnScope ["_law_well_here", "_law_sign"] ["_law_well_here"] (defScope s__law_place) := ⟨rfl, rfl, rfl, by decide +kernel, rfl, by decide +kernel, by decide +kernel⟩
theorem ok__law_place {f : Addr} {fd : FuncData} (F : Fun K "_law_place" "_law_place" s__law_place f fd) (c__law_draw : Cal P w K mg base 1 "_law_draw" ["_law_well_here", "_law_many"] spDraw) (c__law_low : Cal P w K mg base 1 "_law_low" ["_law_top", "_law_bottom"] spLowP) : FnOk P w K mg base CX0 2 f fd ["_law_well_here"] spPlace := by
  refine F.ok sc__law_place (fun vs H Q E h => ?_) (fun cdv A outer s H vs Q E hr h => ?_)
  · obtain ⟨ww, c, rfl, _⟩ := h
    rfl
  · obtain ⟨ww, c, rfl, hw, hc, k⟩ := h
    refine ⟨_, (pss_cons (ps_set (i := 1) sc__law_place.nd rfl (.inl rfl) (pe_op op_sub pe_int (pe_op op_mul pe_int (pe_cal c__law_draw hr (pa_cons (pv 0) (pa_cons pe_int pa_nil))))))
      (pss_cons (ps_if (pt_cmpR op_eq (pe_cal c__law_draw hr (pa_cons (pv 0) (pa_cons pe_int pa_nil))) pe_int (nomark _)) (pss_one (ps_ret (pe_tup (pa_cons (pe_op op_mul (pv 1) (pe_cal c__law_draw hr (pa_cons (pv 0) (pa_cons pe_int pa_nil)))) (pa_cons pe_int pa_nil))))) pss_nil)
      (pss_one (ps_ret (pe_cal c__law_low hr (pa_cons (pe_op op_mul (pv 1) (pe_cal c__law_draw hr (pa_cons (pv 0) (pa_cons pe_int pa_nil)))) (pa_cons (pe_op op_add pe_int (pe_cal c__law_draw hr (pa_cons (pv 0) (pa_cons pe_int pa_nil)))) pa_nil))))))), ?_⟩
    refine ⟨_, rfl, ww, c, 2, rfl, hw, by omega, by decide, by decide, fun r2 H2 r20 r21 d2 f2 w2 => ⟨_, _, rfl, rfl, .inl ⟨by decide, by decide⟩, _, _, rfl, rfl, ?_⟩⟩
    have sg1 : 1 - 2 * r2 = 1 ∨ 1 - 2 * r2 = -1 := by omega
    refine ⟨_, rfl, ww, c + 1, 4, rfl, w2, by omega, by decide, by decide, fun r1 H1 r10 r11 d1 f1 w1 => ⟨rfl, _, rfl, ite2 (fun c0 => ?_) (fun c0 => ?_)⟩⟩
    · refine ⟨_, rfl, _, rfl, ww, c + 1 + 1, 40, rfl, w1, by omega, by decide, by decide, fun r3 H3 r30 r31 d3 f3 w3 => ⟨_, _, rfl, rfl, .inr ⟨by omega, by omega⟩, (by show 2 ≤ sizeLine; decide), fun p hp => ?_⟩⟩
      have D3 := d2.trans (d1.trans d3)
      have n := w3.ne hp
      have ab : ((1 - 2 * r2) * r3).natAbs ≤ 1000000 := sgn_le sg1 (by omega)
      exact k p (((1 - 2 * r2) * r3 : Int) : Rat) _ (but_free D3 hp n) (D3.trans (SameBut.of (same_new hp))) ((w3.same (same_new hp)).mono (by omega)) (fr_int upd_same) (pl9_int ab)
    · refine ⟨_, rfl, _, rfl, ww, c + 1 + 1, 20, rfl, w1, by omega, by decide, by decide, fun r3 H3 r30 r31 d3 f3 w3 => ⟨_, _, rfl, rfl, .inr ⟨by omega, by omega⟩, _, rfl, ww, c + 1 + 1 + 1, 9, rfl, w3, by omega, by decide, by decide, fun r4 H4 r40 r41 d4 f4 w4 => ⟨_, _, rfl, rfl, ?_⟩⟩⟩
      have D4 := d2.trans (d1.trans (d3.trans d4))
      have ab : ((1 - 2 * r2) * r3).natAbs ≤ 1000000 := sgn_le sg1 (by omega)
      refine ⟨_, _, rfl, by omega, Nat.lt_of_lt_of_le (show (1 + r4).natAbs < 2 ^ 60 by omega) (Nat.pow_le_pow_right (by decide) (by decide)), fun p hp => ?_⟩
      have n := w4.ne hp
      exact k p (Rat.divInt ((1 - 2 * r2) * r3) (1 + r4)) _ (but_free D4 hp n) (D4.trans (SameBut.of (same_new hp))) ((w4.same (same_new hp)).mono (by omega)) (Fr.low (by omega) rfl upd_same) (pl9_div (by omega) (by omega) ab)
theorem sc__law_orders : FnScope ["_law_many", "_law_found", "_law_k", "_law_longer", "_law_order", "_law_one"] ["_law_many"] (defScope s__law_orders) := ⟨rfl, rfl, rfl, by decide +kernel, rfl, by decide +kernel, by decide +kernel⟩
theorem ok__law_orders {f : Addr} {fd : FuncData} {k : Nat} (F : Fun K "_law_orders" "_law_orders" s__law_orders f fd) (z : Zs mg) : FnOk P w K mg base CX0 (k + 1) f fd ["_law_many"] spOrds := by
  refine F.ok sc__law_orders (fun vs H Q E h => ?_) (fun cdv A outer s H vs Q E hr h => ?_)
  · obtain ⟨n, rfl, _⟩ := h
    rfl
  · obtain ⟨n, rfl, n4, k⟩ := h
    refine ⟨_, (pss_cons (ps_set (i := 1) sc__law_orders.nd rfl (.inl rfl) (pe_lst (pa_cons (pe_lst pa_nil) pa_nil)))
      (pss_cons (ps_for PassesOwn.never rfl (pi_range1 (by rfl) z.range (pa_cons (pv 0) pa_nil)) (pg_name (i := 2) sc__law_orders.nd rfl (.inl rfl)) (pss_cons (ps_set (i := 3) sc__law_orders.nd rfl (.inl rfl) (pe_lst pa_nil))
      (pss_cons (ps_for PassesOwn.never rfl (pi_list (pv 1)) (pg_name (i := 4) sc__law_orders.nd rfl (.inr rfl)) (pss_one (ps_set (i := 3) sc__law_orders.nd rfl (.inl rfl) (pe_op op_cat (pv 3) (pe_lc (own := [("_law_one", 5)]) (g := gName 5) (te := (tOp rCat (tVar 4) (tLst (tCons (tVar 5) tNil)))) (tt := (tTest (tOp (rIn K true) (tVar 5) (tVar 4)))) (by rfl) sc__law_orders.nd (pi_range1 (by rfl) z.range (pa_cons (pv 0) pa_nil)) (blkOk_by (own := [("_law_one", 5)]) (N := ["_law_many", "_law_found", "_law_k", "_law_longer", "_law_order", "_law_one"]) (sc := defScope s__law_orders) (by decide +kernel)) (fun _ _ _ _ _ => by exact (pg_name (i := 5) sc__law_orders.nd rfl (.inl rfl))) (fun _ _ _ _ _ => by exact (pts_one (pt_cmpR op_notIn_seq (pv 5) (pv 4) (by rfl)))) (fun _ _ _ _ _ => by exact (pe_op op_cat (pv 4) (pe_lst (pa_cons (pv 5) pa_nil)))))))))
      (pss_one (ps_set (i := 1) sc__law_orders.nd rfl (.inl rfl) (pv 3))))))
      (pss_one (ps_ret (pv 1))))), ?_⟩
    refine ⟨(by show 0 ≤ sizeLine; decide), fun e0 he0 => ⟨(by show 1 ≤ sizeLine; decide), fun l0 hl0 => ?_⟩⟩
    have s0 := same_new (o := .lst []) he0
    have s1 := same_new (o := .lst [.ref e0]) hl0
    have f0 : (upd (upd H e0 (.lst [])) l0 (.lst [.ref e0])) e0 = some (.lst (([] : List Nat).map nI)) := s1 _ _ upd_same
    refine ⟨_, rfl, _, rfl, by omega, by omega, ?_⟩
    rw [Int.toNat_natCast]
    refine for_range (lo := 0) (n := n) (fun i σ G => Same H G ∧ ∃ (l : Addr) (vs : List V) (y2 y3 y4 y5 : Option V), σ = [some (.int (n : Nat)), some (.ref l), y2, y3, y4, y5] ∧ H l = none ∧ G l = some (.lst vs) ∧ OsL (fun b => H b = none) G vs (ords n i)) ⟨s0.trans s1, l0, _, none, none, none, none, rfl, s0.free hl0, upd_same, OsL.one (N := fun b => H b = none) he0 f0⟩ (fun i σ G hi hP => ?_) (fun σ G hP => ?_)
    · obtain ⟨sG, l, vs, y2, y3, y4, y5, rfl, hl, hvs, ho⟩ := hP
      have ol : (ords n i).length ≤ 64 := Nat.le_trans (ords_len n n4 i) (Nat.pow_le_pow_right (j := 3) (by decide) (by omega))
      refine ⟨(by show 0 ≤ sizeLine; decide), fun L0 hL0 => ?_⟩
      have sL := same_new (o := .lst []) hL0
      refine ⟨_, rfl, l, rfl, ⟨_, SqL.of (sL _ _ hvs)⟩, ?_⟩
      refine for_list (K := K) (a := l) (xs := vs) (fun j σ X => Same G X ∧ ∃ (L : Addr) (us : List V) (y4 y5 : Option V), σ = [some (.int (n : Nat)), some (.ref l), some (.int (0 + (i : Nat))), some (.ref L), y4, y5] ∧ H L = none ∧ X L = some (.lst us) ∧ OsL (fun b => H b = none) X us (grown n ((ords n i).take j))) ⟨sL, L0, [], _, _, rfl, sG.free hL0, upd_same, OsL.nil⟩ (fun j σ X _ hP => SqL.of (hP.1 _ _ hvs)) (fun j x σ X hx hP => ?_) (fun σ X hP => ?_)
      · obtain ⟨sX, L, us, y4, y5, rfl, hL, hus, hu⟩ := hP
        obtain ⟨b, o, rfl, hoj, nb, hb⟩ := ho.get hx
        have lj := (List.getElem?_eq_some_iff.mp hoj).1
        have lo := (ords_mem n i o (List.mem_of_getElem? hoj)).1
        have gl := grown_len n ((ords n i).take j)
        have tl : ((ords n i).take j).length ≤ 64 := by
          rw [List.length_take]
          omega
        have tn : ((ords n i).take j).length * n ≤ 64 * 4 := Nat.mul_le_mul tl n4
        have lu : us.length ≤ 256 := by
          rw [hu.1]
          omega
        refine ⟨_, rfl, _, rfl, _, rfl, by omega, by omega, fun D hD => ?_⟩
        rw [Int.toNat_natCast]
        refine lc_range (lo := 0) (n := n) (fun q Y => Same X Y ∧ ∃ us2, Y D = some (.lst us2) ∧ OsL (fun b => H b = none ∧ b ≠ D) Y us2 (more o q)) ⟨same_new hD, [], upd_same, OsL.nil⟩ (fun q Y hq hP => ?_) (fun Y hP => ?_)
        · obtain ⟨sY, us2, hus2, hu2⟩ := hP
          rw [show (0 : Int) + (q : Nat) = (q : Nat) from Int.zero_add _]
          have ml := more_len o q
          have hbY := sY _ _ (sX _ _ hb)
          refine ⟨rfl, _, rfl, _, rfl, b, _, rfl, .inl (SqL.of hbY), rfl, flat_nI o, _, rfl, ?_⟩
          have ei : (!inV (V.int (q : Nat)) (o.map nI)) = (!o.contains q) := congrArg not (in_has o q)
          refine iteC ei ?_
          refine ite2 (fun c => ?_) (fun c => ?_)
          · refine ⟨_, rfl, _, rfl, (by show 1 ≤ sizeLine; decide), fun t1 ht1 => ?_⟩
            have sM := same_new (o := .lst [V.int (q : Nat)]) ht1
            refine ⟨b, t1, _, _, rfl, rfl, sM _ _ hbY, upd_same, Nat.le_trans (show (o.map nI).length + 1 ≤ 1000 by rw [List.length_map]; omega) (by decide), fun t ht => ?_⟩
            have sN := sM.trans (same_new (o := .lst (o.map nI ++ [V.int (q : Nat)])) ht)
            have gt : (upd (upd Y t1 (.lst [V.int (q : Nat)])) t (.lst (o.map nI ++ [V.int (q : Nat)]))) t = some (.lst (o.map nI ++ [V.int (q : Nat)])) := upd_same
            have htY := sM.free ht
            generalize upd (upd Y t1 _) t _ = Y2 at sN gt ⊢
            have ntD : t ≠ D := fun e => by
              rw [e, hus2] at htY
              cases htY
            have hus3 := sN _ _ hus2
            have lu2 : us2.length ≤ 4 := by
              rw [hu2.1]
              omega
            have ct : (upd Y2 D (.lst (us2 ++ [.ref t]))) t = some (.lst ((o ++ [q]).map nI)) := by
              rw [upd_ne ntD, gt, List.map_append]
              rfl
            refine ⟨_, hus3, small1000 (by omega), fun b o e => ?_, us2 ++ [.ref t], upd_same, ?_⟩
            · rw [upd_ne (ne_of_none e hD)]
              exact sN _ _ (sY _ _ e)
            · rw [more_succ, if_pos c]
              exact ((hu2.same sN).but SameBut.upd fun b nb => nb.2).app (OsL.one ⟨(sG.trans (sX.trans sY)).free htY, ntD⟩ ct)
          · refine ⟨sY, us2, hus2, ?_⟩
            rw [more_succ, if_neg c, List.append_nil]
            exact hu2
        · obtain ⟨sY, us2, hus2, hu2⟩ := hP
          have lu2 : us2.length ≤ 4 := by
            rw [hu2.1]
            exact Nat.le_trans (more_len o n) n4
          refine ⟨L, D, us, us2, rfl, rfl, sY _ _ hus, hus2, Nat.le_trans (show us.length + us2.length ≤ 1000 by omega) (by decide), fun q3 hq3 => ?_⟩
          have sN := same_new (o := .lst (us ++ us2)) hq3
          refine ⟨sX.trans (sY.trans sN), q3, us ++ us2, _, _, rfl, (sG.trans (sX.trans sY)).free hq3, upd_same, ?_⟩
          rw [take_more hoj, grown_snoc]
          exact ((hu.same sY).same sN).app ((hu2.mono fun b _ nb _ => nb.1).same sN)
      · obtain ⟨sX, L, us, y4, y5, rfl, hL, hus, hu⟩ := hP
        rw [ho.1, List.take_of_length_le (Nat.le_refl _)] at hu
        exact ⟨_, rfl, sG.trans sX, L, us, _, _, _, _, rfl, hL, hus, hu⟩
    · obtain ⟨sG, l, vs, y2, y3, y4, y5, rfl, hl, hvs, ho⟩ := hP
      exact ⟨_, rfl, k l vs G hl sG hvs ho⟩
theorem sc__law_sums : FnScope ["_law_sections", "_law_limit_of", "_law_bound", "_law_found", "_law_moved", "_law_at", "_law_whole", "_law_k"] ["_law_sections", "_law_limit_of", "_law_bound"] (defScope s__law_sums) := ⟨rfl, rfl, rfl, by decide +kernel, rfl, by decide +kernel, by decide +kernel⟩
theorem ok__law_sums {f : Addr} {fd : FuncData} (F : Fun K "_law_sums" "_law_sums" s__law_sums f fd) (z : Zs mg) (c__law_together : Cal P w K mg base 4 "_law_together" ["_law_sections"] spLTog) (c__law_sizes : Cal P w K mg base 3 "_law_sizes" ["_law_places"] spLSizes) (c__law_fits : Cal P w K mg base 1 "_law_fits" ["_law_whole", "_law_limit_of", "_law_bound", "_law_moved"] spFits) : FnOk P w K mg base CX0 5 f fd ["_law_sections", "_law_limit_of", "_law_bound"] spLSums := by
  refine F.ok sc__law_sums (fun vs H Q E h => ?_) (fun cdv A outer s H vs Q E hr h => ?_)
  · obtain ⟨a, ws, ss, m, l, rfl, _⟩ := h
    rfl
  · obtain ⟨a, ws, ss, m, l, rfl, ha, hs, sec, n0, n4, hm, hl, k⟩ := h
    refine ⟨_, (pss_cons (ps_set (i := 3) sc__law_sums.nd rfl (.inl rfl) (pe_lst pa_nil))
      (pss_cons (ps_set (i := 4) sc__law_sums.nd rfl (.inl rfl) pe_int)
      (pss_cons (ps_for PassesOwn.never rfl (pi_range1 (by rfl) z.range (pa_cons (pe_callB call_len_seq (by rfl) z.len PySem.boot_len (pa_cons (pv 0) pa_nil)) pa_nil)) (pg_name (i := 5) sc__law_sums.nd rfl (.inl rfl)) (pss_cons (ps_set (i := 6) sc__law_sums.nd rfl (.inl rfl) (pe_cal c__law_sizes hr (pa_cons (pe_cal c__law_together hr (pa_cons (pe_slice sl_list (pv 0) po_none (po_some (pe_op op_add (pv 5) pe_int))) pa_nil)) pa_nil)))
      (pss_cons (ps_for PassesOwn.never rfl (pi_range1 (by rfl) z.range (pa_cons pe_int pa_nil)) (pg_name (i := 7) sc__law_sums.nd rfl (.inl rfl)) (pss_one (ps_if (pt_not (pt_val (pe_cal c__law_fits hr (pa_cons (pv 6) (pa_cons (pv 1) (pa_cons (pv 2) (pa_cons (pv 4) pa_nil))))))) (pss_one (ps_set (i := 4) sc__law_sums.nd rfl (.inl rfl) (pe_op op_add (pv 4) pe_int))) pss_nil)))
      (pss_one (ps_expr (pe_bm PySem.F.plainAttrs_list PySem.F.slot_list_append PySem.F.type_list_append mt_append (pv 3) (pa_cons (pv 4) pa_nil)))))))
      (pss_one (ps_ret (pv 3)))))), ?_⟩
    have TO : ∀ i, i ≤ ss.length → moved m l ss i ≤ 160 ∧ ∀ j, j < i → Least (fitB m l (absS (tog (ss.take (j + 1))))) (moved m l ss j) (moved m l ss (j + 1)) := tot_ok (m := m) (l := l) (S := fun i => absS (tog (ss.take (i + 1)))) (n := ss.length) (fun j hj => fit_160 hm.2 (by omega) hl.1 (Sm.tog (take_sect sec _) (by rw [List.length_take]; omega)).bits.2.2)
    have m41 : m.natAbs < 2 ^ 41 := by omega
    have l41 : l.natAbs < 2 ^ 41 := by omega
    refine ⟨(by show 0 ≤ sizeLine; decide), fun f0 hf0 => ?_⟩
    have s0 := same_new (o := .lst []) hf0
    refine ⟨_, rfl, a, ws, rfl, .inl (SqL.of (s0 _ _ ha)), _, rfl, by have := hs.1; omega, by have := hs.1; omega, ?_⟩
    rw [Int.toNat_natCast, hs.1]
    refine for_range (lo := 0) (n := ss.length) (fun i σ G => Same H G ∧ ∃ y5 y6 y7 : Option V, σ = [some (.ref a), some (.int m), some (.int l), some (.ref f0), some (.int (moved m l ss i : Nat)), y5, y6, y7] ∧ G f0 = some (.lst (totL i fun i => (moved m l ss (i + 1) : Int)))) ⟨s0, none, none, none, rfl, upd_same⟩ (fun i σ G hi hP => ?_) (fun σ G hP => ?_)
    · obtain ⟨sG, y5, y6, y7, rfl, hf⟩ := hP
      rw [show (0 : Int) + (i : Nat) = (i : Nat) from Int.zero_add _]
      have sec2 := take_sect sec (i + 1)
      have l4 : (ss.take (i + 1)).length ≤ 4 := by rw [List.length_take]; omega
      have SmS := Sm.tog sec2 l4
      have t160 := (TO (i + 1) (by omega)).1
      obtain ⟨lt1, lt2, lt3⟩ := (TO (i + 1) (by omega)).2 i (Nat.lt_succ_self i)
      obtain ⟨n9, b9, -⟩ := SmS.bits
      have bq : (absS (tog (ss.take (i + 1)))).num.natAbs < 2 ^ 1000 ∧ (absS (tog (ss.take (i + 1)))).den < 2 ^ 1000 := ⟨Nat.lt_of_lt_of_le n9 (Nat.pow_le_pow_right (by decide) (by decide)), by rw [Int.natAbs_natCast] at b9; exact Nat.lt_of_lt_of_le b9 (Nat.pow_le_pow_right (by decide) (by decide))⟩
      refine ⟨_, rfl, _, rfl, _, _, rfl, rfl, _, rfl, a, ws, rfl, SqL.of (sG _ _ ha), fun q hq => ?_⟩
      have ec : cutV ws none (some (((i : Nat) : Int) + 1)) = ws.take (i + 1) := cut_to (n := i + 1) (by rw [hs.1]; omega)
      rw [ec]
      have s1 := same_new (o := .lst (ws.take (i + 1))) hq
      have eq2 : (upd G q (.lst (ws.take (i + 1)))) q = some (.lst (ws.take (i + 1))) := upd_same
      generalize upd G q _ = G1 at s1 eq2 ⊢
      refine ⟨q, _, ss.take (i + 1), rfl, eq2, (hs.same (sG.trans s1)).take (i + 1), sec2, l4, fun pl G2 hpl s2 fpl => ?_⟩
      refine ⟨pl, _, rfl, fpl, SmS, fun wh G3 hwh s3 fwh => ?_⟩
      have S3 := s1.trans (s2.trans s3)
      have hf3 := S3 _ _ hf
      refine ⟨200, rfl, by decide, by decide, ?_⟩
      refine for_range (lo := 0) (n := 200) (fun j σ X => X = G3 ∧ ∃ (t : Nat) (y7 : Option V), σ = [some (.ref a), some (.int m), some (.int l), some (.ref f0), some (.int (t : Nat)), some (.int (i : Nat)), some (.ref wh), y7] ∧ moved m l ss i ≤ t ∧ t ≤ moved m l ss (i + 1) ∧ (t = moved m l ss (i + 1) ∨ t = moved m l ss i + j)) ⟨rfl, _, _, rfl, Nat.le_refl _, lt1, .inr rfl⟩ (fun j σ X hj hP => ?_) (fun σ X hP => ?_)
      · obtain ⟨rfl, t, y7, rfl, t1, t2, t3⟩ := hP
        refine ⟨_, rfl, _, rfl, _, rfl, _, rfl, wh, _, m, l, t, rfl, fwh, bq, m41, l41, by omega, _, rfl, ?_⟩
        by_cases c : t = moved m l ss (i + 1)
        · have lt2' : fitB m l (absS (tog (ss.take (i + 1)))) t = true := by
            rw [c]
            exact lt2
          refine iteC (d := false) (congrArg not lt2') (iteF ?_)
          exact ⟨rfl, t, _, rfl, t1, t2, .inl c⟩
        · refine iteC (d := true) (congrArg not (lt3 t t1 (by omega))) (iteT ?_)
          exact ⟨_, rfl, _, _, rfl, rfl, rfl, t + 1, _, rfl, by omega, by omega, by omega⟩
      · obtain ⟨rfl, t, y7, rfl, t1, t2, t3⟩ := hP
        have et : t = moved m l ss (i + 1) := by omega
        subst et
        refine ⟨_, rfl, .inl ⟨rfl, _, SqL.of hf3⟩, _, rfl, f0, _, _, rfl, rfl, hf3, ?_, fun c o e => ?_, _, _, _, rfl, ?_⟩
        · rw [totL_len]
          exact small1000 (by omega)
        · rw [upd_ne (ne_of_none e hf0)]
          exact S3 _ _ (sG _ _ e)
        · rw [upd_same, totL_succ]
    · obtain ⟨sG, y5, y6, y7, rfl, hf⟩ := hP
      exact ⟨_, rfl, k f0 G hf0 sG hf⟩
theorem sc__law_steps : FnScope ["_law_sums_here", "_law_one", "_law_other"] ["_law_sums_here"] (defScope s__law_steps) := ⟨rfl, rfl, rfl, by decide +kernel, rfl, by decide +kernel, by decide +kernel⟩
theorem ok__law_steps {f : Addr} {fd : FuncData} {k : Nat} (F : Fun K "_law_steps" "_law_steps" s__law_steps f fd) (z : Zs mg) : FnOk P w K mg base CX0 (k + 1) f fd ["_law_sums_here"] spBy := by
  refine F.ok sc__law_steps (fun vs H Q E h => ?_) (fun cdv A outer s H vs Q E hr h => ?_)
  · obtain ⟨a, n, T, rfl, _⟩ := h
    rfl
  · obtain ⟨a, n, T, rfl, ha, t0, n4, k⟩ := h
    refine ⟨_, (pss_one (ps_ret (pe_lc (own := [("_law_one", 1), ("_law_other", 2)]) (g := gTup K 2 (gCons (gName 1) (gCons (gName 2) gNil))) (tt := tYes) (te := (tOp (rI0 fun i j => V.int (i - j)) (tVar 1) (tVar 2))) (by rfl) sc__law_steps.nd (RZ.pi_zipA (by rfl) z.zip (pa_cons (pv 0) (pa_cons (pe_op op_cat (pe_lst (pa_cons pe_int pa_nil)) (pv 0)) pa_nil))) (blkOk_by (own := [("_law_one", 1), ("_law_other", 2)]) (N := ["_law_sums_here", "_law_one", "_law_other"]) (sc := defScope s__law_steps) (by decide +kernel)) (fun _ _ _ _ _ => by exact (pg_tup (by rfl) (pgs_cons (pg_name (i := 1) sc__law_steps.nd rfl (.inl rfl)) (pgs_cons (pg_name (i := 2) sc__law_steps.nd rfl (.inl rfl)) pgs_nil)))) (fun _ _ _ _ _ => by exact pts_nil) (fun _ _ _ _ _ => by exact (pe_op op_sub (pv 1) (pv 2)))))), ?_⟩
    refine ⟨_, rfl, (by show 1 ≤ sizeLine; decide), fun l0 hl0 => ?_⟩
    have s0 := same_new (o := .lst [.int 0]) hl0
    refine ⟨_, rfl, l0, a, _, _, rfl, rfl, upd_same, s0 _ _ ha, Nat.le_trans (show 1 + (totL n fun i => (T (i + 1) : Int)).length ≤ 1000 by rw [totL_len]; omega) (by decide), fun p hp => ?_⟩
    have s1 := s0.trans (same_new (o := .lst ([.int 0] ++ totL n (fun i => (T (i + 1) : Int)))) hp)
    have gp : (upd (upd H l0 (.lst [.int 0])) p (.lst ([.int 0] ++ totL n (fun i => (T (i + 1) : Int))))) p = some (.lst ([.int 0] ++ totL n (fun i => (T (i + 1) : Int)))) := upd_same
    have e1 := s1 _ _ ha
    generalize upd (upd H l0 _) p _ = H2 at s1 gp e1 ⊢
    refine ⟨a, p, _, _, rfl, .inl ⟨SqL.of e1, SqL.of gp, fun D hD => ?_⟩⟩
    refine lc_it (walk_zip (K := K) (a := a) (b := p) (n := n) (by rw [List.length_append, totL_len]; show n = min n (1 + n); omega)) (fun i G => Same H2 G ∧ G D = some (.lst (totL i fun i => (T (i + 1) : Int) - (T i : Int)))) ⟨same_new hD, upd_same⟩ (fun i G _ hP => ⟨SqL.of (hP.1 _ _ e1), SqL.of (hP.1 _ _ gp)⟩) (fun i x G G2 hi hP hY => ?_) (fun G hP => ?_)
    · obtain ⟨sG, hacc⟩ := hP
      obtain ⟨Tp, u, v, rfl, nT, rfl, e2, e3⟩ := hY
      dsimp only at e2 e3
      rw [totL_at _ hi] at e2
      have ev : v = .int (T i : Int) := by
        match i, hi, e3 with
        | 0, _, e3 => rw [t0]; exact (Option.some.inj e3).symm
        | i + 1, hi, e3 =>
          rw [List.singleton_append, List.getElem?_cons_succ, totL_at _ (by omega)] at e3
          exact (Option.some.inj e3).symm
      cases e2
      subst ev
      have sN := same_new (o := .tup [.int (T (i + 1) : Int), .int (T i : Int)]) nT
      refine ⟨Tp, _, rfl, SqT.of upd_same, rfl, _, _, rfl, _, _, rfl, rfl, rfl, ?_⟩
      refine ⟨_, rfl, _, rfl, _, _, rfl, rfl, _, sN _ _ hacc, ?_, fun c o e => ?_, ?_⟩
      · rw [totL_len]
        exact small1000 (by omega)
      · rw [upd_ne (ne_of_none e hD)]
        exact sN _ _ (sG _ _ e)
      · rw [upd_same, totL_succ]
    · obtain ⟨sG, hacc⟩ := hP
      have SS := s1.trans sG
      exact k D G (s1.free hD) SS hacc
end
end E1

namespace E1
open PySem PySem.Spec PyProof.Rows L2
theorem FrL.nw {H : Hp} {a w : Addr} {qs : List Rat} {c : Int} (h : FrL H a qs) (hw : WellAt H w c) : a ≠ w := fun e => by
  obtain ⟨vs, h1, h2⟩ := h
  obtain ⟨x, y, z, h3, _⟩ := hw
  rw [e, h3] at h1
  cases h1
  cases hq : qs with
  | nil => rw [hq] at h2; cases h2
  | cons q qs' => rw [hq] at h2; cases h2
theorem FrL.well {H H' : Hp} {w a : Addr} {c : Int} {qs : List Rat} (h : FrL H a qs) (s : SameBut w H H') (hw : WellAt H w c) : FrL H' a qs := by
  have n := h.nw hw
  obtain ⟨vs, e, r⟩ := h
  obtain ⟨_, _, _, e2, _⟩ := hw
  exact ⟨vs, s _ _ n e, PrsAt.but r s e2⟩

theorem SeL.well {H H' : Hp} {vs : List V} {ss : List (List Rat)} {w : Addr} {c : Int} (h : SeL H vs ss) (s : SameBut w H H') (hw : WellAt H w c) : SeL H' vs ss := ⟨h.1, fun i x e => let ⟨b, e1, f⟩ := h.2 i x e; ⟨b, e1, f.well s hw⟩⟩
theorem SeL.nw {H : Hp} {vs : List V} {ss : List (List Rat)} {a w : Addr} {c : Int} (h : SeL H vs ss) (ha : H a = some (.lst vs)) (hw : WellAt H w c) (n0 : 0 < ss.length) : a ≠ w := fun e => by
  obtain ⟨x, y, z, h3, _⟩ := hw
  rw [e, h3] at ha
  cases ha
  obtain ⟨b, e1, _⟩ := h.2 0 _ (List.getElem?_eq_getElem n0)
  cases e1
def spLRows : Sp := fun vs H Q _ => ∃ (a : Addr) (ws : List V) (ss : List (List Rat)) (m l : Int), vs = [.ref a, .int m, .int l] ∧ H a = some (.lst ws) ∧ SeL H ws ss ∧ (∀ s ∈ ss, Sect s) ∧ 0 < ss.length ∧ ss.length ≤ 4 ∧ (1 ≤ m ∧ m ≤ 1000000000000) ∧ (1 ≤ l ∧ l ≤ 1000000000000) ∧
  ∀ p us H', H p = none → Same H H' → H' p = some (.lst us) → RwL (fun b => H b = none ∧ b ≠ p) H' m l ss us (ords ss.length ss.length) → Q (.ref p) H'
def spOthers : Sp := fun vs H Q _ => ∃ (a w p : Addr) (ws : List V) (ss : List (List Rat)) (m l c : Int), vs = [.ref a, .int m, .int l, .ref p, .ref w] ∧ H a = some (.lst ws) ∧ SeL H ws ss ∧ (∀ s ∈ ss, Sect s) ∧ 0 < ss.length ∧ ss.length ≤ 4 ∧ (1 ≤ m ∧ m ≤ 1000000000000) ∧ (1 ≤ l ∧ l ≤ 1000000000000) ∧
  Fr H p (errP (moved m l ss) ss ss.length) ∧ WellAt H w c ∧ c ≤ 100000 ∧ ∀ H', SameBut w H H' → WellAt H' w (c + 4) → Q (.bl true) H'
theorem le_cross {a b : Rat} (h : a ≤ b) : a.num * (b.den : Int) ≤ b.num * (a.den : Int) := by
  have d1 := den_ge a
  have d2 := den_ge b
  have c1 : 0 ≤ (a.den : Int) * (b.den : Int) := Int.mul_nonneg (by omega) (by omega)
  have c0 : (0 : Rat) ≤ (((a.den : Int) * (b.den : Int) : Int) : Rat) := by
    have : ((0 : Int) : Rat) ≤ (((a.den : Int) * (b.den : Int) : Int) : Rat) := Rat.intCast_le_intCast.mpr c1
    exact this
  have m := mul_le_r h c0
  have e1 : a * (((a.den : Int) * (b.den : Int) : Int) : Rat) = ((a.num * (b.den : Int) : Int) : Rat) := by
    rw [Rat.intCast_mul, Rat.intCast_mul, ← q_eq a]
    grind
  have e2 : b * (((a.den : Int) * (b.den : Int) : Int) : Rat) = ((b.num * (a.den : Int) : Int) : Rat) := by
    rw [Rat.intCast_mul, Rat.intCast_mul, ← q_eq b]
    grind
  rw [e1, e2] at m
  exact Rat.intCast_le_intCast.mp m
theorem totL_congr {n : Nat} {f g : Nat → Int} (h : ∀ i, i < n → f i = g i) : totL n f = totL n g := List.map_congr_left fun i hi => by rw [h i (List.mem_range.mp hi)]
section
variable {P : Program} {w : World} {K : PySem.W.Frag} {mg : Str → Option Value} {base : Heap}
theorem sc__law_rows : FnScope ["_law_sections", "_law_limit_of", "_law_bound", "_law_rows_here", "_law_order", "_law_some", "_law_sums_here", "_law_at"] ["_law_sections", "_law_limit_of", "_law_bound"] (defScope s__law_rows) := ⟨rfl, rfl, rfl, by decide +kernel, rfl, by decide +kernel, by decide +kernel⟩
theorem ok__law_rows {f : Addr} {fd : FuncData} (F : Fun K "_law_rows" "_law_rows" s__law_rows f fd) (z : Zs mg) (c__law_orders : Cal P w K mg base 1 "_law_orders" ["_law_many"] spOrds) (c__law_sums : Cal P w K mg base 5 "_law_sums" ["_law_sections", "_law_limit_of", "_law_bound"] spLSums) (c__law_steps : Cal P w K mg base 1 "_law_steps" ["_law_sums_here"] spBy) (c__law_error : Cal P w K mg base 5 "_law_error" ["_law_sections", "_law_sums_here"] spLErr) : FnOk P w K mg base CX0 6 f fd ["_law_sections", "_law_limit_of", "_law_bound"] spLRows := by
  refine F.ok sc__law_rows (fun vs H Q E h => ?_) (fun cdv A outer s H vs Q E hr h => ?_)
  · obtain ⟨a, ws, ss, m, l, rfl, _⟩ := h
    rfl
  · obtain ⟨a, ws, ss, m, l, rfl, ha, hs, sec, n0, n4, hm, hl, k⟩ := h
    refine ⟨_, (pss_cons (ps_set (i := 3) sc__law_rows.nd rfl (.inl rfl) (pe_lst pa_nil))
      (pss_cons (ps_for PassesOwn.never rfl (pi_list (pe_cal c__law_orders hr (pa_cons (pe_callB call_len_seq (by rfl) z.len PySem.boot_len (pa_cons (pv 0) pa_nil)) pa_nil))) (pg_name (i := 4) sc__law_rows.nd rfl (.inl rfl)) (pss_cons (ps_setLc (i := 5) (own := [("_law_at", 7)]) (g := gName 7) (tt := tYes) (te := (tOp (rIxL K) (tVar 0) (tVar 7))) (by rfl) sc__law_rows.nd rfl rfl (sw_true rfl rfl rfl (by decide +kernel)) (pi_list (pv 4)) (blkOk_by (own := [("_law_at", 7)]) (N := ["_law_sections", "_law_limit_of", "_law_bound", "_law_rows_here", "_law_order", "_law_some", "_law_sums_here", "_law_at"]) (sc := defScope s__law_rows) (by decide +kernel)) (fun _ _ _ _ _ => by exact (pg_name (i := 7) sc__law_rows.nd rfl (.inl rfl))) (fun _ _ _ _ _ => by exact pts_nil) (fun _ _ _ _ _ => by exact (pe_ix ix_list (pv 0) (pv 7) (fun _ _ => rfl))))
      (pss_cons (ps_set (i := 6) sc__law_rows.nd rfl (.inl rfl) (pe_cal c__law_sums hr (pa_cons (pv 5) (pa_cons (pv 1) (pa_cons (pv 2) pa_nil)))))
      (pss_one (ps_expr (pe_bm PySem.F.plainAttrs_list PySem.F.slot_list_append PySem.F.type_list_append mt_append (pv 3) (pa_cons (pe_tup (pa_cons (pv 4) (pa_cons (pe_cal c__law_steps hr (pa_cons (pv 6) pa_nil)) (pa_cons (pe_cal c__law_error hr (pa_cons (pv 5) (pa_cons (pv 6) pa_nil))) pa_nil)))) pa_nil)))))))
      (pss_one (ps_ret (pv 3))))), ?_⟩
    have lw := hs.1
    refine ⟨(by show 0 ≤ sizeLine; decide), fun R hR => ?_⟩
    have s2 := same_new (o := .lst []) hR
    have hR2 : (upd H R (.lst [])) R = some (.lst []) := upd_same
    have S2 := s2
    have s1 : Same H H := Same.refl _
    have free1 : ∀ b, (upd H R (.lst [])) b = none → H b = none ∧ b ≠ R := fun b hb => ⟨s2.free hb, fun e => by rw [e, hR2] at hb; cases hb⟩
    generalize upd H R (.lst []) = H2 at s2 hR2 S2 free1 ⊢
    refine ⟨_, rfl, a, ws, rfl, .inl (SqL.of (S2 _ _ ha)), ss.length, by rw [lw]; rfl, n4, fun p us H3 hp s3 eus hos => ?_⟩
    have hR3 := s3 _ _ hR2
    have pR : p ≠ R := (free1 p hp).2
    have S3 := S2.trans s3
    generalize hO : ords ss.length ss.length = os at hos k
    have oM : ∀ o ∈ os, o.length = ss.length ∧ ∀ x ∈ o, x < ss.length := fun o ho => ords_mem _ _ o (by rw [hO]; exact ho)
    have o256 : os.length ≤ 256 := by rw [← hO]; exact ords_24 n4
    have o0 : 0 < os.length := by rw [← hO]; exact ords_ne n0 n4
    have T160 : ∀ o ∈ os, ∀ i, i ≤ (sel ss o).length → moved m l (sel ss o) i ≤ 160 := fun o ho i hi => by
      obtain ⟨lo, om⟩ := oM o ho
      have secO := sel_sect sec om
      have lso : (sel ss o).length ≤ 4 := by rw [sel_len]; omega
      exact (tot_ok (m := m) (l := l) (S := fun i => absS (tog ((sel ss o).take (i + 1)))) (n := (sel ss o).length) (fun j hj => fit_160 hm.2 (by omega) hl.1 (Sm.tog (take_sect secO _) (by rw [List.length_take]; omega)).bits.2.2) i hi).1
    refine ⟨p, rfl, ⟨_, SqL.of eus⟩, for_list (K := K) (a := p) (xs := us) (fun i σ G => Same H G ∧ SameBut R H3 G ∧ ∃ (rv : List V) (y5 y6 y7 y8 : Option V), σ = [some (.ref a), some (.int m), some (.int l), some (.ref R), y5, y6, y7, y8] ∧ G R = some (.lst rv) ∧ RwL (fun b => H b = none ∧ b ≠ R) G m l ss rv (os.take i)) ⟨s2.trans s3, SameBut.refl _ _, [], none, none, none, none, rfl, hR3, RwL.nil⟩ (fun i σ G _ hP => SqL.of (hP.2.1 _ _ pR eus)) (fun i x σ G hx hP => ?_) (fun σ G hP => ?_)⟩
    · obtain ⟨sG, dG, rv, y5, y6, y7, y8, rfl, hrv, rw1⟩ := hP
      obtain ⟨b, o, rfl, hoi, nb, hb⟩ := hos.get hx
      have li := (List.getElem?_eq_some_iff.mp hoi).1
      obtain ⟨lo, om⟩ := oM o (List.mem_of_getElem? hoi)
      obtain ⟨nb1, nbR⟩ := free1 b nb
      have hbG := dG _ _ nbR hb
      have SG := s1.trans sG
      have hsG := hs.same SG
      have haG := SG _ _ ha
      have secO := sel_sect sec om
      have lso : (sel ss o).length = ss.length := by
        rw [sel_len]
        exact lo
      refine ⟨_, rfl, b, rfl, ⟨_, SqL.of hbG⟩, fun D hD => lc_list (K := K) (a := b) (xs := o.map nI) (fun j X => Same G X ∧ ∃ us2, X D = some (.lst us2) ∧ SeL X us2 (sel ss (o.take j))) ⟨same_new hD, [], upd_same, ⟨rfl, fun i s e => nomatch e⟩⟩ (fun j X _ hP => SqL.of (hP.1 _ _ hbG)) (fun j x X hx hP2 => ?_) (fun X hP2 => ?_)⟩
      · obtain ⟨sX, us2, hus, su⟩ := hP2
        rw [List.getElem?_map] at hx
        obtain ⟨y, hy, rfl⟩ := Option.map_eq_some_iff.mp hx
        have ly := om y (List.mem_of_getElem? hy)
        obtain ⟨c, hc, fc⟩ := (hsG.same sX).2 y _ (List.getElem?_eq_getElem ly)
        have fc0 : ∃ o, G c = some o := by
          obtain ⟨c', hc', vs', e', _⟩ := hsG.2 y _ (List.getElem?_eq_getElem ly)
          rw [hc] at hc'
          cases hc'
          exact ⟨_, e'⟩
        have ncD : c ≠ D := fun e => by
          obtain ⟨o', e'⟩ := fc0
          rw [e, hD] at e'
          cases e'
        have lu : us2.length ≤ 4 := by
          rw [su.1, sel_len, List.length_take]
          omega
        refine ⟨rfl, _, rfl, _, rfl, a, ws, _, .ref c, rfl, rfl, SqL.of (sX _ _ haG), atI_nat hc, ?_⟩
        refine ⟨_, hus, small1000 (by omega), fun x o e => ?_, us2 ++ [.ref c], upd_same, ?_⟩
        · rw [upd_ne (ne_of_none e hD)]
          exact sX _ _ e
        · have es : sel ss (o.take (j + 1)) = sel ss (o.take j) ++ [ss[y]] := by
            rw [take_more hy]
            unfold sel
            rw [List.map_append, List.map_singleton, List.getD_eq_getElem?_getD, List.getElem?_eq_getElem ly]
            rfl
          rw [es]
          exact (su.but su hus (fun t h => ((sel_sect sec fun x hx => om x (List.mem_of_mem_take hx)) t h).ne) SameBut.upd).app (SeL.one (fc.but ncD SameBut.upd hus))
      obtain ⟨sX, us2, hus, su⟩ := hP2
      rw [List.length_map, List.take_of_length_le (Nat.le_refl _)] at su
      refine ⟨_, rfl, _, rfl, _, rfl, D, us2, sel ss o, m, l, rfl, hus, su, secO, by omega, by omega, hm, hl, fun q X3 hq t3 eq3 => ?_⟩
      have TX := sX.trans t3
      have hrX := TX _ _ hrv
      refine ⟨_, rfl, .inl ⟨rfl, _, SqL.of hrX⟩, _, rfl, _, rfl, q, (sel ss o).length, moved m l (sel ss o), rfl, eq3, rfl, by omega, fun r X4 hr t4 er => ?_⟩
      have D4 := t3.trans t4
      refine ⟨_, rfl, _, rfl, D, q, us2, sel ss o, moved m l (sel ss o), rfl, D4 _ _ hus, t4 _ _ eq3, su.same D4, secO, by omega, by omega, T160 o (List.mem_of_getElem? hoi), fun e X5 he t5 fe => ⟨(by show 3 ≤ sizeLine; decide), fun t ht => ?_⟩⟩
      have t6 := same_new (o := .tup [.ref b, .ref r, .ref e]) ht
      have g6 : (upd X5 t (.tup [.ref b, .ref r, .ref e])) t = some (.tup [.ref b, .ref r, .ref e]) := upd_same
      have T6 := t5.trans t6
      have A6 := TX.trans (t4.trans T6)
      have hr6 := A6 _ _ hrv
      have htR : t ≠ R := fun z => by
        rw [z, t5 _ _ (t4 _ _ hrX)] at ht
        cases ht
      have hrR : r ≠ R := fun z => by
        rw [z, hrX] at hr
        cases hr
      have heR : e ≠ R := fun z => by
        rw [z, t4 _ _ hrX] at he
        cases he
      have hrH := (sG.trans TX).free hr
      have er6 := T6 _ _ er
      have fe6 : Fr (upd X5 t (.tup [.ref b, .ref r, .ref e])) e (errP (moved m l (sel ss o)) (sel ss o) (sel ss o).length) := t6 _ _ fe
      generalize upd X5 t _ = X6 at t6 g6 T6 A6 hr6 er6 fe6 ⊢
      have lrv : rv.length = i := by
        rw [rw1.1, List.length_take]
        omega
      have rw6 := (rw1.same A6).but (SameBut.upd (o := .lst (rv ++ [.ref t]))) hr6 fun b nb => nb.2
      have rwt : RwAt (fun b => H b = none ∧ b ≠ R) (upd X6 R (.lst (rv ++ [.ref t]))) m l ss t o := by
        refine ⟨b, r, e, ?_, ⟨nb1, nbR⟩, ?_, ⟨hrH, hrR⟩, ?_, ?_⟩
        · rw [upd_ne htR]
          exact g6
        · rw [upd_ne nbR]
          exact A6 _ _ hbG
        · rw [upd_ne hrR, ← sel_len ss o]
          exact er6
        · show (upd X6 R _) e = _
          rw [upd_ne heR, ← sel_len ss o]
          exact fe6
      have rw7 := rw6.snoc rwt
      rw [← take_more hoi] at rw7
      refine ⟨R, rv, _, rfl, rfl, hr6, small1000 (by omega), fun x o e => ?_, (dG.trans (SameBut.of A6)).trans SameBut.upd, _, _, _, _, _, rfl, upd_same, rw7⟩
      rw [upd_ne (ne_of_none e hR)]
      exact A6 _ _ (sG _ _ e)
    · obtain ⟨sG, dG, rv, y5, y6, y7, y8, rfl, hrv, rw1⟩ := hP
      rw [hos.1, List.take_of_length_le (Nat.le_refl _)] at rw1
      exact ⟨_, rfl, k R rv G hR sG hrv rw1⟩
theorem sc__law_others_right : FnScope ["_law_some", "_law_limit_of", "_law_bound", "_law_error_here", "_law_well_here", "_law_sums_here", "_law_moved", "_law_k", "_law_at", "_law_one", "_law_other"] ["_law_some", "_law_limit_of", "_law_bound", "_law_error_here", "_law_well_here"] (defScope s__law_others_right) := ⟨rfl, rfl, rfl, by decide +kernel, rfl, by decide +kernel, by decide +kernel⟩
theorem ok__law_others_right {f : Addr} {fd : FuncData} (F : Fun K "_law_others_right" "_law_others_right" s__law_others_right f fd) (z : Zs mg) (c__law_draw : Cal P w K mg base 1 "_law_draw" ["_law_well_here", "_law_many"] spDraw) (c__law_together : Cal P w K mg base 4 "_law_together" ["_law_sections"] spLTog) (c__law_sizes : Cal P w K mg base 3 "_law_sizes" ["_law_places"] spLSizes) (c__law_fits : Cal P w K mg base 1 "_law_fits" ["_law_whole", "_law_limit_of", "_law_bound", "_law_moved"] spFits) (c__law_error : Cal P w K mg base 5 "_law_error" ["_law_sections", "_law_sums_here"] spLErr) : FnOk P w K mg base CX0 6 f fd ["_law_some", "_law_limit_of", "_law_bound", "_law_error_here", "_law_well_here"] spOthers := by
  refine F.ok sc__law_others_right (fun vs H Q E h => ?_) (fun cdv A outer s H vs Q E hr h => ?_)
  · obtain ⟨a, ww, p, ws, ss, m, l, c, rfl, _⟩ := h
    rfl
  · obtain ⟨a, ww, p, ws, ss, m, l, c, rfl, ha, hs, sec, n0, n4, hm, hl, hp, hw, hc, k⟩ := h
    refine ⟨_, (pss_cons (ps_set (i := 5) sc__law_others_right.nd rfl (.inl rfl) (pe_lst pa_nil))
      (pss_cons (ps_set (i := 6) sc__law_others_right.nd rfl (.inl rfl) pe_int)
      (pss_cons (ps_for PassesOwn.never rfl (pi_range1 (by rfl) z.range (pa_cons (pe_callB call_len_seq (by rfl) z.len PySem.boot_len (pa_cons (pv 0) pa_nil)) pa_nil)) (pg_name (i := 7) sc__law_others_right.nd rfl (.inl rfl)) (pss_cons (ps_set (i := 6) sc__law_others_right.nd rfl (.inl rfl) (pe_op op_add (pv 6) (pe_cal c__law_draw hr (pa_cons (pv 4) (pa_cons pe_int pa_nil)))))
      (pss_one (ps_expr (pe_bm PySem.F.plainAttrs_list PySem.F.slot_list_append PySem.F.type_list_append mt_append (pv 5) (pa_cons (pv 6) pa_nil))))))
      (pss_cons (ps_for PassesOwn.never rfl (pi_enum (by rfl) z.enumerate (pa_cons (pv 5) pa_nil)) (pg_tup (by rfl) (pgs_cons (pg_name (i := 8) sc__law_others_right.nd rfl (.inl rfl)) (pgs_cons (pg_name (i := 9) sc__law_others_right.nd rfl (.inl rfl)) pgs_nil))) (pss_one (ps_if (pt_not (pt_val (pe_cal c__law_fits hr (pa_cons (pe_cal c__law_sizes hr (pa_cons (pe_cal c__law_together hr (pa_cons (pe_slice sl_list (pv 0) po_none (po_some (pe_op op_add (pv 8) pe_int))) pa_nil)) pa_nil)) (pa_cons (pv 1) (pa_cons (pv 2) (pa_cons (pv 9) pa_nil))))))) (pss_one (ps_ret pe_bl)) pss_nil)))
      (pss_cons (ps_set (i := 10) sc__law_others_right.nd rfl (.inl rfl) (pe_cal c__law_error hr (pa_cons (pv 0) (pa_cons (pv 5) pa_nil))))
      (pss_one (ps_ret (pe_cmpR op_le (pe_op op_mulW (pe_ix ix_tup (pv 3) pe_int (fun _ _ => rfl)) (pe_ix ix_tup (pv 10) pe_int (fun _ _ => rfl))) (pe_op op_mulW (pe_ix ix_tup (pv 10) pe_int (fun _ _ => rfl)) (pe_ix ix_tup (pv 3) pe_int (fun _ _ => rfl))) (nomark _))))))))), ?_⟩
    have m41 : m.natAbs < 2 ^ 41 := by omega
    have l41 : l.natAbs < 2 ^ 41 := by omega
    have na := hs.nw ha hw n0
    have np : p ≠ ww := fun e => by
      obtain ⟨x, y, z, h3, _⟩ := id hw
      rw [e] at hp
      have := h3.symm.trans hp
      cases this
    have S160 : ∀ i, i < ss.length → fitB m l (absS (tog (ss.take (i + 1)))) 160 = true := fun j hj => fit_160 hm.2 (by omega) hl.1 (Sm.tog (take_sect sec _) (by rw [List.length_take]; omega)).bits.2.2
    have T160 : ∀ i, i ≤ ss.length → moved m l ss i ≤ 160 := fun i hi => (tot_ok (m := m) (l := l) (S := fun i => absS (tog (ss.take (i + 1)))) (n := ss.length) S160 i hi).1
    obtain ⟨dd1, dd2⟩ := DD2 sec n4
    have b1 := (errP_sm sec n4 T160 (Nat.le_refl _)).b9 dd1 dd2 (Nat.le_refl _) (by decide)
    refine ⟨(by show 0 ≤ sizeLine; decide), fun L hL => ?_⟩
    have s0 := same_new (o := .lst []) hL
    have nLw : L ≠ ww := hw.ne hL
    refine ⟨_, rfl, a, ws, rfl, .inl (SqL.of (s0 _ _ ha)), _, rfl, by have := hs.1; omega, by have := hs.1; omega, ?_⟩
    rw [Int.toNat_natCast, hs.1]
    refine for_range (lo := 0) (n := ss.length) (fun i σ G => SameBut ww H G ∧ WellAt G ww (c + (i : Int)) ∧ ∃ (d : Nat → Nat) (y7 : Option V), σ = [some (.ref a), some (.int m), some (.int l), some (.ref p), some (.ref ww), some (.ref L), some (.int (d i : Nat)), y7, none, none, none] ∧ (∀ j, j < i → d j ≤ d (j + 1)) ∧ (∀ j, j ≤ i → d j ≤ 5 * i) ∧ G L = some (.lst (totL i fun j => (d (j + 1) : Int)))) ⟨SameBut.of s0, (hw.same s0).mono (by omega), fun _ => 0, none, rfl, fun j h => Nat.le_refl _, fun j h => Nat.zero_le _, upd_same⟩ (fun i σ G hi hP => ?_) (fun σ G hP => ?_)
    · obtain ⟨sb, wG, d, y7, rfl, d1, d2, hLG⟩ := hP
      refine ⟨_, rfl, _, rfl, ww, _, 5, rfl, wG, by omega, by decide, by decide, fun r G2 r0 r1 dr fr wr => ⟨_, _, rfl, rfl, ?_⟩⟩
      obtain ⟨q, rfl⟩ : ∃ q : Nat, r = q := ⟨r.toNat, by omega⟩
      have hL2 := dr _ _ nLw hLG
      refine ⟨_, rfl, .inl ⟨rfl, _, SqL.of hL2⟩, _, rfl, L, _, _, rfl, rfl, hL2, by rw [totL_len]; exact small1000 (by omega), fun b o nb e => ?_, (wr.but SameBut.upd nLw.symm).mono (by omega), fun j => if j ≤ i then d j else d i + q, some (.int (0 + (i : Nat))), ?_, fun j hj => ?_, fun j hj => ?_, ?_⟩
      · rw [upd_ne (ne_of_none e hL)]
        exact dr _ _ nb (sb _ _ nb e)
      · show _ = [_, _, _, _, _, _, some (V.int (((if i + 1 ≤ i then d (i + 1) else d i + q : Nat)) : Int)), _, _, _, _]
        rw [if_neg (by omega)]
        rfl
      · dsimp only
        by_cases c1 : j + 1 ≤ i
        · rw [if_pos (by omega), if_pos c1]
          exact d1 j (by omega)
        · rw [if_pos (by omega), if_neg c1, show j = i by omega]
          omega
      · dsimp only
        have := d2 i (Nat.le_refl _)
        by_cases c1 : j ≤ i
        · rw [if_pos c1]
          have := d2 j c1
          omega
        · rw [if_neg c1]
          omega
      · rw [upd_same, totL_succ]
        have e1 : (totL i fun j => ((if j + 1 ≤ i then d (j + 1) else d i + q : Nat) : Int)) = totL i fun j => (d (j + 1) : Int) := totL_congr fun j hj => by rw [if_pos (by omega)]
        rw [e1]
        show some (HO.lst (_ ++ [V.int ((d i : Int) + (q : Int))])) = some (HO.lst (_ ++ [V.int ((if i + 1 ≤ i then d (i + 1) else d i + q : Nat) : Int)]))
        rw [if_neg (by omega)]
        rfl
    obtain ⟨sb, w1, d, y7, rfl, d1, d2, hL1⟩ := hP
    have ha1 := sb _ _ na ha
    have hs1 := hs.well sb hw
    have hp1 : Fr G p (errP (moved m l ss) ss ss.length) := sb _ _ np hp
    have d160 : ∀ i, i ≤ ss.length → d i ≤ 160 := fun i hi => by have := d2 i hi; omega
    have fin : ∀ H', Same G H' → Q (.bl true) H' := fun H' s => k H' (sb.trans (SameBut.of s)) ((w1.same s).mono (by omega))
    refine ⟨_, rfl, L, _, rfl, SqL.of hL1, ?_⟩
    refine for_it (walk_enum (K := K) (a := L) (xs := totL ss.length fun j => (d (j + 1) : Int))) (fun i σ X => Same G X ∧ (∀ j, j < i → fitB m l (absS (tog (ss.take (j + 1)))) (d (j + 1)) = true) ∧ ∃ (y8 y9 : Option V), σ = [some (.ref a), some (.int m), some (.int l), some (.ref p), some (.ref ww), some (.ref L), some (.int (d ss.length : Nat)), y7, y8, y9, none]) ⟨Same.refl _, fun j h => absurd h (Nat.not_lt_zero _), none, none, rfl⟩ (fun i σ X _ hP => SqL.of (hP.1 _ _ hL1)) (fun i v σ X X' hi hP hY => ?_) (fun σ X hP => ?_)
    · obtain ⟨sX, ft, y8, y9, rfl⟩ := hP
      obtain ⟨Tq, u, v2, rfl, nT, rfl, e2, e3⟩ := hY
      dsimp only at e2 e3
      cases e2
      rw [totL_len] at hi
      rw [totL_at _ hi] at e3
      cases e3
      have sN := same_new (o := .tup [.int ((i : Nat) : Int), .int (d (i + 1) : Int)]) nT
      refine ⟨Tq, _, rfl, SqT.of upd_same, rfl, _, _, rfl, _, _, rfl, rfl, ?_⟩
      have sG2 := sX.trans sN
      generalize upd X Tq _ = X2 at sN sG2 ⊢
      have sec2 := take_sect sec (i + 1)
      have l4 : (ss.take (i + 1)).length ≤ 4 := by rw [List.length_take]; omega
      have SmS := Sm.tog sec2 l4
      obtain ⟨n9, b9, -⟩ := SmS.bits
      have bq : (absS (tog (ss.take (i + 1)))).num.natAbs < 2 ^ 1000 ∧ (absS (tog (ss.take (i + 1)))).den < 2 ^ 1000 := ⟨Nat.lt_of_lt_of_le n9 (Nat.pow_le_pow_right (by decide) (by decide)), by rw [Int.natAbs_natCast] at b9; exact Nat.lt_of_lt_of_le b9 (Nat.pow_le_pow_right (by decide) (by decide))⟩
      refine ⟨_, rfl, _, rfl, _, _, rfl, rfl, _, rfl, a, ws, rfl, SqL.of (sG2 _ _ ha1), fun q hq => ?_⟩
      have ec : cutV ws none (some (((i : Nat) : Int) + 1)) = ws.take (i + 1) := cut_to (n := i + 1) (by rw [hs.1]; omega)
      rw [ec]
      have s3 := same_new (o := .lst (ws.take (i + 1))) hq
      have eq2 : (upd X2 q (.lst (ws.take (i + 1)))) q = some (.lst (ws.take (i + 1))) := upd_same
      generalize upd X2 q _ = X3 at s3 eq2 ⊢
      refine ⟨q, _, ss.take (i + 1), rfl, eq2, (hs1.same (sG2.trans s3)).take (i + 1), sec2, l4, fun pl X4 hpl s4 fpl => ?_⟩
      refine ⟨pl, _, rfl, fpl, SmS, fun wh X5 hwh s5 fwh => ?_⟩
      have S5 := sG2.trans (s3.trans (s4.trans s5))
      have := d160 (i + 1) (by omega)
      refine ⟨_, rfl, _, rfl, _, rfl, wh, _, m, l, d (i + 1), rfl, fwh, bq, m41, l41, by omega, _, rfl, ?_⟩
      cases hfit : fitB m l (absS (tog (ss.take (i + 1)))) (d (i + 1)) with
      | false => exact fin _ S5
      | true =>
        refine iteF ⟨S5, fun j hj => ?_, _, _, rfl⟩
        by_cases e : j = i
        · rw [e]
          exact hfit
        · exact ft j (by omega)
    · obtain ⟨sX, ft, y8, y9, rfl⟩ := hP
      rw [totL_len] at ft
      refine ⟨_, rfl, _, rfl, a, L, ws, ss, d, rfl, sX _ _ ha1, sX _ _ hL1, hs1.same sX, sec, n0, n4, d160, fun e X3 he s3 fe => ?_⟩
      have hp3 : Fr X3 p (errP (moved m l ss) ss ss.length) := (sX.trans s3) _ _ hp1
      have b2 := (errP_sm sec n4 d160 (Nat.le_refl _)).b9 dd1 dd2 (Nat.le_refl _) (by decide)
      have le := errP_le (T := moved m l ss) (U := d) (ss := ss) ss.length (tot_le (m := m) (l := l) (S := fun i => absS (tog (ss.take (i + 1)))) (n := ss.length) S160 d1 ft)
      have le2 := le_cross le
      refine ⟨_, rfl, p, _, 0, .int (errP (moved m l ss) ss ss.length).num, rfl, rfl, SqT.of hp3, a0, _, rfl, e, _, 1, .int (errP d ss ss.length).den, rfl, rfl, SqT.of fe, a1, _, _, rfl, rfl, wide_mul (a := 1000) (b := 1000) b1.1 (by rw [Int.natAbs_natCast]; exact b2.2) (by decide) (by decide) (by decide), _, rfl, e, _, 0, .int (errP d ss ss.length).num, rfl, rfl, SqT.of fe, a0, _, rfl, p, _, 1, .int (errP (moved m l ss) ss ss.length).den, rfl, rfl, SqT.of hp3, a1, _, _, rfl, rfl, wide_mul (a := 1000) (b := 1000) b2.1 (by rw [Int.natAbs_natCast]; exact b1.2) (by decide) (by decide) (by decide), _, _, rfl, rfl, ?_⟩
      have e9 : decide ((errP (moved m l ss) ss ss.length).num * ((errP d ss ss.length).den : Int) ≤ (errP d ss ss.length).num * ((errP (moved m l ss) ss ss.length).den : Int)) = true := decide_eq_true le2
      show Q (.bl (decide _)) X3
      rw [e9]
      exact fin _ (sX.trans s3)
end
end E1

namespace E1
open PySem PySem.Spec PyProof.Rows L2
theorem totL_ints (n : Nat) (f : Nat → Int) : totL n f = ((List.range n).map f).map V.int := by
  rw [List.map_map]
  rfl
theorem Al.frac {H : Hp} {n : Nat} {a c : Addr} {q : Rat} (h1 : Fr H a q) (h2 : Fr H c q) : Al H (n + 2) (.ref a) (.ref c) := by
  refine .inr ⟨a, c, _, _, rfl, rfl, rfl, by show 2 ≤ 1000; decide, fun i u v e1 e2 => ?_, .inl ⟨h1, h2⟩⟩
  have e := Option.some.inj (e1.symm.trans e2)
  subst e
  match i, e1 with
  | 0, e1 => cases e1; exact Al.int _
  | 1, e1 => cases e1; exact Al.int _
  | i + 2, e1 => cases e1
def llD (qss : List (List Rat)) : List PyData := qss.map fun qs => .list (qs.map frD)
theorem ll_lay : ∀ qss : List (List Rat), PyData.canLayAll0 (llD qss) = true
  | [] => rfl
  | qs :: qss => by
    unfold llD
    rw [List.map_cons, PyData.canLayAll0]
    have i := ll_lay qss
    unfold llD at i
    rw [i, Bool.and_true]
    exact SeqAt.canLay_of_shaped (frL_shaped qs)
theorem ll_deep : ∀ qss : List (List Rat), PyData.depthAll (llD qss) ≤ 6
  | [] => by simp [llD, PyData.depthAll]
  | qs :: qss => by
    have i := ll_deep qss
    have j := frDs_deep qs
    unfold llD at *
    simp only [List.map_cons, PyData.depthAll, PyData.depth]
    omega
theorem ll_shaped (qss : List (List Rat)) : SeqAt.shaped (.list (llD qss)) = true := by
  have h1 := ll_deep qss
  have h2 : PyData.depth (.list (llD qss)) ≤ 64 := by simp only [PyData.depth]; omega
  show (PyData.canLay0 (.list (llD qss)) && decide (PyData.depth (.list (llD qss)) ≤ 64)) = true
  rw [Bool.and_eq_true]
  exact ⟨by simp only [PyData.canLay0]; exact ll_lay qss, decide_eq_true h2⟩
theorem ll_eqv (qss : List (List Rat)) : PyData.eqv (.list (llD qss)) (.list (llD qss)) = true := SeqAt.eqv_refl _ (SeqAt.canLay_of_shaped (ll_shaped qss))
theorem FrL.dp {K : PySem.W.Frag} {H : Hp} {a : Addr} {qs : List Rat} (h : FrL H a qs) : Dp K H (.ref a) (.list (qs.map frD)) := by
  obtain ⟨vs, e, r⟩ := h
  exact .lst (SqL.of e) (FrsAt.dp r)
theorem SeL.dps {K : PySem.W.Frag} {H : Hp} : ∀ {ss : List (List Rat)} {vs : List V}, SeL H vs ss → DpAll K H vs (llD ss)
  | [], [], _ => .nil
  | [], _ :: _, h => absurd h.1 (by simp)
  | _ :: _, [], h => absurd h.1 (by simp)
  | s :: ss, v :: vs, h => by
    obtain ⟨b, e, f⟩ := h.2 0 s rfl
    cases e
    refine .cons f.dp (SeL.dps (ss := ss) (vs := vs) ⟨Nat.succ.inj h.1, fun i x hx => h.2 (i + 1) x hx⟩)
theorem pick2i {k : Int} (x y : Int) (h0 : 0 ≤ k) (h1 : k < 2) : ∃ v : Int, atI [V.int x, V.int y] k = some (.int v) ∧ (v = x ∨ v = y) := by
  rcases (by omega : k = 0 ∨ k = 1) with rfl | rfl
  · exact ⟨x, atI_nat (j := 0) rfl, .inl rfl⟩
  · exact ⟨y, atI_nat (j := 1) rfl, .inr rfl⟩

theorem nI_ints (o : List Nat) : o.map nI = (o.map fun x : Nat => (x : Int)).map V.int := by
  rw [List.map_map]
  rfl
theorem Al.row {N N' : Addr → Prop} {H : Hp} {n : Nat} {m l : Int} {ss : List (List Rat)} {p q : Addr} {o : List Nat} (h : RwAt N H m l ss p o) (g : RwAt N' H m l ss q o) (ho : o.length ≤ 4) : Al H (n + 3) (.ref p) (.ref q) := by
  obtain ⟨a1, a2, a3, e, _, e1, _, e2, e3⟩ := h
  obtain ⟨b1, b2, b3, f, _, f1, _, f2, f3⟩ := g
  rw [nI_ints] at e1 f1
  rw [totL_ints] at e2 f2
  refine .inr ⟨p, q, [.ref a1, .ref a2, .ref a3], [.ref b1, .ref b2, .ref b3], rfl, rfl, rfl, by show 3 ≤ 1000; decide, fun i u v h1 h2 => ?_, .inl ⟨e, f⟩⟩
  match i, h1, h2 with
  | 0, h1, h2 => cases h1; cases h2; exact Al.ints (by rw [List.length_map]; omega) e1 f1
  | 1, h1, h2 => cases h1; cases h2; exact Al.ints (by rw [List.length_map, List.length_range]; omega) e2 f2
  | 2, h1, h2 => cases h1; cases h2; exact Al.frac e3 f3
  | i + 3, h1, h2 => cases h1
theorem Al.rows {N N' : Addr → Prop} {H : Hp} {n : Nat} {m l : Int} {ss : List (List Rat)} {p q : Addr} {vs us : List V} {os : List (List Nat)} (hp : H p = some (.lst vs)) (hq : H q = some (.lst us)) (h : RwL N H m l ss vs os) (g : RwL N' H m l ss us os) (l4 : ∀ o ∈ os, o.length ≤ 4) (lo : os.length ≤ 1000) : Al H (n + 4) (.ref p) (.ref q) := by
  refine .inr ⟨p, q, vs, us, rfl, rfl, by rw [h.1, g.1], by rw [h.1]; exact lo, fun i u v h1 h2 => ?_, .inr ⟨hp, hq⟩⟩
  have li := (List.getElem?_eq_some_iff.mp h1).1
  rw [h.1] at li
  obtain ⟨p', e1, r1⟩ := h.get li
  obtain ⟨q', e2, r2⟩ := g.get li
  rw [h1] at e1
  rw [h2] at e2
  cases e1
  cases e2
  exact Al.row r1 r2 (l4 _ (List.getElem_mem li))
/-- the whole answer -/
theorem Al.best {N N' : Addr → Prop} {H : Hp} {m l : Int} {ss : List (List Rat)} {p q pO pS pE pR b1 b2 b3 Lr : Addr} {vs us : List V} {os : List (List Nat)} {o : List Nat} (hp : H p = some (.tup [.ref pO, .ref pS, .ref pE, .ref pR])) (hq : H q = some (.tup [.ref b1, .ref b2, .ref b3, .ref Lr]))
    (e1 : H pO = some (.lst (o.map nI))) (e2 : H pS = some (.lst (totL o.length fun i => (moved m l (sel ss o) (i + 1) : Int) - (moved m l (sel ss o) i : Int)))) (e3 : Fr H pE (errP (moved m l (sel ss o)) (sel ss o) o.length)) (hR : H pR = some (.lst vs)) (h : RwL N H m l ss vs os)
    (f1 : H b1 = some (.lst (o.map nI))) (f2 : H b2 = some (.lst (totL o.length fun i => (moved m l (sel ss o) (i + 1) : Int) - (moved m l (sel ss o) i : Int)))) (f3 : Fr H b3 (errP (moved m l (sel ss o)) (sel ss o) o.length)) (hL : H Lr = some (.lst us)) (g : RwL N' H m l ss us os)
    (ho : o.length ≤ 4) (l4 : ∀ o ∈ os, o.length ≤ 4) (lo : os.length ≤ 1000) : Al H 5 (.ref p) (.ref q) := by
  rw [nI_ints] at e1 f1
  rw [totL_ints] at e2 f2
  refine .inr ⟨p, q, [.ref pO, .ref pS, .ref pE, .ref pR], [.ref b1, .ref b2, .ref b3, .ref Lr], rfl, rfl, rfl, by show 4 ≤ 1000; decide, fun i u v h1 h2 => ?_, .inl ⟨hp, hq⟩⟩
  match i, h1, h2 with
  | 0, h1, h2 => cases h1; cases h2; exact Al.ints (n := 2) (by rw [List.length_map]; omega) e1 f1
  | 1, h1, h2 => cases h1; cases h2; exact Al.ints (n := 2) (by rw [List.length_map, List.length_range]; omega) e2 f2
  | 2, h1, h2 => cases h1; cases h2; exact Al.frac (n := 2) e3 f3
  | 3, h1, h2 => cases h1; cases h2; exact Al.rows (n := 0) hR hL h g l4 lo
  | i + 4, h1, h2 => cases h1
theorem tup_well {H H' : Hp} {w p : Addr} {c : Int} {xs : List V} (h : H p = some (.tup xs)) (s : SameBut w H H') (hw : WellAt H w c) : H' p = some (.tup xs) := by
  refine s _ _ (fun e => ?_) h
  obtain ⟨x, y, z, h3, _⟩ := hw
  rw [e, h3] at h
  cases h
def spLaw (K : PySem.W.Frag) : Sp := fun vs H Q _ => ∃ (a : Addr) (ns : List Int), vs = [.ref a] ∧ SqL K H a (ns.map V.int) ∧ ns.length ≤ 63 ∧ ∀ H', Q (.bl true) H'
section
variable {P : Program} {w : World} {K : PySem.W.Frag} {mg : Str → Option Value} {base : Heap}
theorem sc_law : FnScope ["_law_script", "_law_many", "_law_sections", "_law_k", "_law_well_here", "_law_limit_of", "_law_bound", "_law_handed", "_law_found", "_law_rows_here", "_law_best", "_law_row", "_law_some", "_law_section", "_law_at"] ["_law_script"] (defScope s_law) := ⟨rfl, rfl, rfl, by decide +kernel, rfl, by decide +kernel, by decide +kernel⟩
theorem ok_law {f : Addr} {fd : FuncData} (F : Fun K "law" "law" s_law f fd) (z : Zs mg) (c__law_cell_at : Cal P w K mg base 1 "_law_cell_at" ["_law_script", "_law_k"] (spCell K)) (c__law_well : Cal P w K mg base 1 "_law_well" ["_law_cell"] spWell) (c__law_draw : Cal P w K mg base 1 "_law_draw" ["_law_well_here", "_law_many"] spDraw) (c__law_place : Cal P w K mg base 2 "_law_place" ["_law_well_here"] spPlace) (c_best_order : Cal P w K mg base 11 "best_order" ["sections", "most", "limit"] spBest) (c__law_rows : Cal P w K mg base 6 "_law_rows" ["_law_sections", "_law_limit_of", "_law_bound"] spLRows) (c__law_others_right : Cal P w K mg base 6 "_law_others_right" ["_law_some", "_law_limit_of", "_law_bound", "_law_error_here", "_law_well_here"] spOthers) (c__law_same : Cal P w K mg base 6 "_law_same" ["_law_found", "_law_due"] (spSameN 5)) (c_best_order_1_limit_most : CalK P w K mg base 11 "best_order" ["sections", "most", "limit"] 1 ["limit", "most"] (fun vs zs => vs ++ zs.reverse) spBest) : FnOk P w K mg base CX0 12 f fd ["_law_script"] (spLaw K) := by
  refine F.ok sc_law (fun vs H Q E h => ?_) (fun cdv A outer s H vs Q E hr h => ?_)
  · obtain ⟨a, ns, rfl, _⟩ := h
    rfl
  · obtain ⟨a, ns, rfl, hS, hn, q⟩ := h
    refine ⟨_, (pss_cons (ps_set (i := 1) sc_law.nd rfl (.inl rfl) (pe_op op_add pe_int (pe_op op_mod (pe_cal c__law_cell_at hr (pa_cons (pv 0) (pa_cons pe_int pa_nil))) pe_int)))
      (pss_cons (ps_set (i := 2) sc_law.nd rfl (.inr rfl) (pe_lst pa_nil))
      (pss_cons (ps_for PassesOwn.never rfl (pi_range1 (by rfl) z.range (pa_cons (pv 1) pa_nil)) (pg_name (i := 3) sc_law.nd rfl (.inl rfl)) (pss_cons (ps_set (i := 4) sc_law.nd rfl (.inr rfl) (pe_cal c__law_well hr (pa_cons (pe_op op_add (pe_cal c__law_cell_at hr (pa_cons (pv 0) (pa_cons (pv 3) pa_nil))) (pv 3)) pa_nil)))
      (pss_one (ps_expr (pe_bm PySem.F.plainAttrs_list PySem.F.slot_list_append PySem.F.type_list_append mt_append (pv 2) (pa_cons (pe_lc (own := [("_law_at", 14)]) (g := gName 14) (tt := tYes) (te := (tCall spPlace [] E0 (tCons (tVar 4) tNil))) (by rfl) sc_law.nd (pi_range1 (by rfl) z.range (pa_cons (pe_op op_add pe_int (pe_cal c__law_draw hr (pa_cons (pv 4) (pa_cons (pe_op op_add pe_int (pe_callTy call_int1 (by rfl) z.int (by decide +kernel) (pa_cons (pe_cmpR op_lt (pv 1) pe_int (nomark _)) pa_nil))) pa_nil)))) pa_nil)) (blkOk_by (own := [("_law_at", 14)]) (N := ["_law_script", "_law_many", "_law_sections", "_law_k", "_law_well_here", "_law_limit_of", "_law_bound", "_law_handed", "_law_found", "_law_rows_here", "_law_best", "_law_row", "_law_some", "_law_section", "_law_at"]) (sc := defScope s_law) (by decide +kernel)) (fun _ _ _ _ _ => by exact (pg_name (i := 14) sc_law.nd rfl (.inl rfl))) (fun _ _ _ _ _ => by exact pts_nil) (fun _ _ _ _ _ => by exact (pe_cal c__law_place hr (pa_cons (pv 4) pa_nil)))) pa_nil))))))
      (pss_cons (ps_set (i := 4) sc_law.nd rfl (.inr rfl) (pe_cal c__law_well hr (pa_cons (pe_cal c__law_cell_at hr (pa_cons (pv 0) (pa_cons pe_int pa_nil))) pa_nil)))
      (pss_cons (ps_set (i := 5) sc_law.nd rfl (.inl rfl) (pe_ix ix_list (pe_lst (pa_cons (pe_op op_add pe_int (pe_cal c__law_draw hr (pa_cons (pv 4) (pa_cons pe_int pa_nil)))) (pa_cons (pe_op op_add pe_int (pe_cal c__law_draw hr (pa_cons (pv 4) (pa_cons (pe_op op_pow pe_int pe_int) pa_nil)))) pa_nil))) (pe_cal c__law_draw hr (pa_cons (pv 4) (pa_cons pe_int pa_nil))) (fun _ _ => rfl)))
      (pss_cons (ps_set (i := 6) sc_law.nd rfl (.inl rfl) (pe_ix ix_list (pe_lst (pa_cons (pe_op op_add pe_int (pe_cal c__law_draw hr (pa_cons (pv 4) (pa_cons pe_int pa_nil)))) (pa_cons (pe_op op_add pe_int (pe_cal c__law_draw hr (pa_cons (pv 4) (pa_cons (pe_op op_pow pe_int pe_int) pa_nil)))) pa_nil))) (pe_cal c__law_draw hr (pa_cons (pv 4) (pa_cons pe_int pa_nil))) (fun _ _ => rfl)))
      (pss_cons (ps_setLc (i := 7) (own := [("_law_section", 13)]) (g := gName 13) (tt := tYes) (te := (tCB (fun xs H Q => ∃ p ys, xs = [V.ref p] ∧ (SqL K H p ys ∨ SqT K H p ys) ∧ ∀ l, H l = none → Q (.ref l) (upd H l (.lst ys))) (tCons (tVar 13) tNil))) (by rfl) sc_law.nd rfl rfl (sw_true rfl rfl rfl (by decide +kernel)) (pi_list (pv 2)) (blkOk_by (own := [("_law_section", 13)]) (N := ["_law_script", "_law_many", "_law_sections", "_law_k", "_law_well_here", "_law_limit_of", "_law_bound", "_law_handed", "_law_found", "_law_rows_here", "_law_best", "_law_row", "_law_some", "_law_section", "_law_at"]) (sc := defScope s_law) (by decide +kernel)) (fun _ _ _ _ _ => by exact (pg_name (i := 13) sc_law.nd rfl (.inl rfl))) (fun _ _ _ _ _ => by exact pts_nil) (fun _ _ _ _ _ => by exact (pe_callTy call_list_of (by rfl) z.list (by decide +kernel) (pa_cons (pv 13) pa_nil))))
      (pss_cons (ps_set (i := 8) sc_law.nd rfl (.inl rfl) (pe_cal c_best_order hr (pa_cons (pv 7) (pa_cons (pv 5) (pa_cons (pv 6) pa_nil)))))
      (pss_cons (ps_if (PW.pt (pw_or (pt_not (pt_val (pe_callB call_isi (by rfl) z.isinstance (by decide +kernel) (pa_cons (pv 8) (pa_cons (pe_bltn (v := .ty "tuple") (by rfl) z.tuple (by decide +kernel) rfl) pa_nil))))) (pw_or (pt_cmpR op_ne (pe_callB call_len_seq (by rfl) z.len PySem.boot_len (pa_cons (pv 8) pa_nil)) pe_int (nomark _)) (pw_or1 (pt_cmpR (op_neD hr.units) (pv 7) (pv 2) (nomark _)))))) (pss_one (ps_ret pe_bl)) pss_nil)
      (pss_cons (ps_set (i := 9) sc_law.nd rfl (.inl rfl) (pe_cal c__law_rows hr (pa_cons (pv 2) (pa_cons (pv 5) (pa_cons (pv 6) pa_nil)))))
      (pss_cons (ps_set (i := 10) sc_law.nd rfl (.inl rfl) (pe_ix ix_list (pv 9) pe_int (fun _ _ => rfl)))
      (pss_cons (ps_for PassesOwn.never rfl (pi_list (pv 9)) (pg_name (i := 11) sc_law.nd rfl (.inl rfl)) (pss_one (ps_if (pt_cmpR op_lt (pe_op op_mulW (pe_ix ix_tup (pe_ix ix_tup (pv 11) pe_int (fun _ _ => rfl)) pe_int (fun _ _ => rfl)) (pe_ix ix_tup (pe_ix ix_tup (pv 10) pe_int (fun _ _ => rfl)) pe_int (fun _ _ => rfl))) (pe_op op_mulW (pe_ix ix_tup (pe_ix ix_tup (pv 10) pe_int (fun _ _ => rfl)) pe_int (fun _ _ => rfl)) (pe_ix ix_tup (pe_ix ix_tup (pv 11) pe_int (fun _ _ => rfl)) pe_int (fun _ _ => rfl))) (nomark _)) (pss_one (ps_set (i := 10) sc_law.nd rfl (.inl rfl) (pv 11))) pss_nil)))
      (pss_cons (ps_if (pt_not (pt_val (pe_cal c__law_same hr (pa_cons (pv 8) (pa_cons (pe_tup (pa_cons (pe_ix ix_tup (pv 10) pe_int (fun _ _ => rfl)) (pa_cons (pe_ix ix_tup (pv 10) pe_int (fun _ _ => rfl)) (pa_cons (pe_ix ix_tup (pv 10) pe_int (fun _ _ => rfl)) (pa_cons (pv 9) pa_nil))))) pa_nil))))) (pss_one (ps_ret pe_bl)) pss_nil)
      (pss_cons (ps_set (i := 4) sc_law.nd rfl (.inr rfl) (pe_cal c__law_well hr (pa_cons (pe_cal c__law_cell_at hr (pa_cons (pv 0) (pa_cons pe_int pa_nil))) pa_nil)))
      (pss_cons (ps_setLc (i := 12) (own := [("_law_at", 14)]) (g := gName 14) (tt := tYes) (te := (tOp (rIxL K) (tVar 2) (tVar 14))) (by rfl) sc_law.nd rfl rfl (sw_true rfl rfl rfl (by decide +kernel)) (pi_list (pe_ix ix_tup (pv 10) pe_int (fun _ _ => rfl))) (blkOk_by (own := [("_law_at", 14)]) (N := ["_law_script", "_law_many", "_law_sections", "_law_k", "_law_well_here", "_law_limit_of", "_law_bound", "_law_handed", "_law_found", "_law_rows_here", "_law_best", "_law_row", "_law_some", "_law_section", "_law_at"]) (sc := defScope s_law) (by decide +kernel)) (fun _ _ _ _ _ => by exact (pg_name (i := 14) sc_law.nd rfl (.inl rfl))) (fun _ _ _ _ _ => by exact pts_nil) (fun _ _ _ _ _ => by exact (pe_ix ix_list (pv 2) (pv 14) (fun _ _ => rfl))))
      (pss_cons (ps_for PassesOwn.never rfl (pi_range1 (by rfl) z.range (pa_cons pe_int pa_nil)) (pg_name (i := 3) sc_law.nd rfl (.inl rfl)) (pss_one (ps_if (pt_not (pt_val (pe_cal c__law_others_right hr (pa_cons (pv 12) (pa_cons (pv 5) (pa_cons (pv 6) (pa_cons (pe_ix ix_tup (pv 10) pe_int (fun _ _ => rfl)) (pa_cons (pv 4) pa_nil)))))))) (pss_one (ps_ret pe_bl)) pss_nil)))
      (pss_cons (ps_expr (pe_bm0 PySem.F.plainAttrs_list PySem.F.slot_list_clear PySem.F.type_list_clear mt_clear (pe_ix ix_tup (pv 8) pe_int (fun _ _ => rfl))))
      (pss_cons (ps_expr (pe_bm PySem.F.plainAttrs_list PySem.F.slot_list_append PySem.F.type_list_append mt_append (pe_ix ix_tup (pv 8) pe_int (fun _ _ => rfl)) (pa_cons pe_int pa_nil)))
      (pss_one (ps_ret (pe_cal c__law_same hr (pa_cons (pe_calk c_best_order_1_limit_most hr (pa_cons (pv 2) pa_nil) (pk_cons (pv 6) (pk_cons (pv 5) pk_nil))) (pa_cons (pe_tup (pa_cons (pe_ix ix_tup (pv 10) pe_int (fun _ _ => rfl)) (pa_cons (pe_ix ix_tup (pv 10) pe_int (fun _ _ => rfl)) (pa_cons (pe_ix ix_tup (pv 10) pe_int (fun _ _ => rfl)) (pa_cons (pv 9) pa_nil))))) pa_nil))))))))))))))))))))))), ?_⟩
    refine ⟨_, rfl, a, ns, 6, rfl, hS, _, _, rfl, rfl, (show (0 : Int) < 4 by decide), _, _, rfl, rfl, ?_⟩
    obtain ⟨mn, emn⟩ : ∃ n : Nat, 1 + ns.getD 6 0 % 4 = (n : Int) := ⟨(1 + ns.getD 6 0 % 4).toNat, by omega⟩
    have mn1 : 1 ≤ mn := by omega
    have mn4 : mn ≤ 4 := by omega
    dsimp only
    rw [emn]
    clear emn
    refine ⟨(by show 0 ≤ sizeLine; decide), fun Pa hPa => ?_⟩
    have sP := same_new (o := .lst []) hPa
    refine ⟨_, rfl, _, rfl, by omega, by omega, ?_⟩
    rw [Int.toNat_natCast]
    refine for_range (lo := 0) (n := mn) (fun i σ G => Same H G ∧ ∃ (y3 y4 : Option V) (ws : List V) (ss : List (List Rat)), σ = [some (.ref a), some (.int (mn : Nat)), some (.ref Pa), y3, y4, none, none, none, none, none, none, none, none, none, none] ∧ G Pa = some (.lst ws) ∧ SeL G ws ss ∧ ss.length = i ∧ ∀ s ∈ ss, Sect s) ⟨sP, none, none, [], [], rfl, upd_same, ⟨rfl, fun i s e => nomatch e⟩, rfl, fun s h => absurd h List.not_mem_nil⟩ (fun i σ G hi hP2 => ?_) (fun σ G hP2 => ?_)
    · obtain ⟨sG, y3, y4, ws, ss, rfl, hws, se, ls, sec⟩ := hP2
      rw [Int.zero_add]
      refine ⟨_, rfl, _, rfl, a, ns, i, rfl, sG.seq hS, _, rfl, _, _, rfl, rfl, _, rfl, fun ww hw G1 s1 w1 => ?_⟩
      refine ⟨_, rfl, .inl ⟨rfl, _, SqL.of (s1 _ _ hws)⟩, _, rfl, _, rfl, _, _, rfl, rfl, .inr ⟨_, rfl, _, _, rfl, rfl, ?_⟩⟩
      obtain ⟨m4, em4, vm4⟩ : ∃ m4 : Int, 2 + (if decide (((mn : Nat) : Int) < 4) = true then 1 else 0) = m4 ∧ (m4 = 2 ∨ m4 = 3) := ⟨_, rfl, by split <;> omega⟩
      dsimp only
      rw [em4]
      refine ⟨ww, 0, m4, rfl, w1, by decide, by omega, Nat.lt_of_lt_of_le (show m4.natAbs < 2 ^ 4 by omega) (Nat.pow_le_pow_right (by decide) (by decide)), fun r G2 r0 r1 d2 f2 w2 => ⟨_, _, rfl, rfl, _, rfl, by omega, by omega, fun D hD => ?_⟩⟩
      have S2 : Same G G2 := same_but s1 d2 hw
      have hDG : G D = none := S2.free hD
      have nDw : D ≠ ww := w2.ne hD
      have r8 : 1 ≤ (1 + r).toNat ∧ (1 + r).toNat ≤ 8 := by omega
      generalize (1 + r).toNat = rn at r8 ⊢
      refine lc_range (lo := 0) (n := rn) (fun j X => Same G X ∧ WellAt X ww (1 + 4 * (j : Int)) ∧ ∃ vs qs, X D = some (.lst vs) ∧ FrsAt X vs qs ∧ qs.length = j ∧ ∀ q ∈ qs, Pl9 q) ⟨S2.trans (same_new hD), (w2.same (same_new hD)).mono (by omega), [], [], upd_same, .nil, rfl, fun q h => absurd h List.not_mem_nil⟩ (fun j X hj hP3 => ?_) (fun X hP3 => ?_)
      · obtain ⟨sX, wX, vs, qs, hvs, fv, lq, pq⟩ := hP3
        refine ⟨rfl, _, rfl, ww, _, rfl, wX, by omega, fun p q X2 hp d w' fp pl => ?_⟩
        have hv2 := d _ _ nDw hvs
        have nD : p ≠ D := fun e => by
          rw [e, hvs] at hp
          cases hp
        obtain ⟨_, _, _, eww, _⟩ := id wX
        have SX := same_but sX d hw
        refine ⟨_, hv2, small1000 (by have := FrsAt.len fv; omega), fun b o e => ?_, (w'.but SameBut.upd nDw.symm).mono (by omega), _, qs ++ [q], upd_same, ?_, ?_, fun y hy => ?_⟩
        · rw [upd_ne (ne_of_none e hDG)]
          exact SX _ _ e
        · refine FrsAt.app (PrsAt.but (PrsAt.but fv d eww) SameBut.upd hv2) (FrsAt.one ?_)
          show (upd X2 D _) p = _
          rw [upd_ne nD]
          exact fp
        · rw [List.length_append, lq]
          rfl
        · rcases List.mem_append.mp hy with hy | hy
          · exact pq y hy
          · rw [List.mem_singleton.mp hy]
            exact pl
      · obtain ⟨sX, wX, vs, qs, hvs, fv, lq, pq⟩ := hP3
        have hwX := sX _ _ hws
        have sc : Sect qs := ⟨by omega, by omega, fun q hq => pq q hq⟩
        have fD : FrL X D qs := ⟨vs, hvs, fv⟩
        have seX := se.same sX
        have nPs : ∀ t ∈ ss, t ≠ [] := fun t h => (sec t h).ne
        have nDP : D ≠ Pa := fun e => by
          rw [e, hws] at hDG
          cases hDG
        refine ⟨Pa, ws, _, rfl, rfl, hwX, small1000 (by have := se.1; omega), fun b o e => ?_, _, _, ws ++ [.ref D], ss ++ [qs], rfl, upd_same, (seX.but seX hwX nPs SameBut.upd).app (SeL.one (fD.but nDP SameBut.upd hwX)), ?_, fun s h => ?_⟩
        · rw [upd_ne (ne_of_none e hPa)]
          exact sX _ _ (sG _ _ e)
        · rw [List.length_append, ls]
          rfl
        · rcases List.mem_append.mp h with h | h
          · exact sec s h
          · rw [List.mem_singleton.mp h]
            exact sc
    obtain ⟨sG, y3, y4, ws, ss, rfl, hws, se, ls, sec⟩ := hP2
    have l0 : 0 < ss.length := by omega
    have l4 : ss.length ≤ 4 := by omega
    have nPs : ∀ t ∈ ss, t ≠ [] := fun t h => (sec t h).ne
    refine ⟨_, rfl, a, ns, 4, rfl, sG.seq hS, _, rfl, fun ww hw G1 s1 w1 => ?_⟩
    have e9 : (10 : Int) ^ (9 : Int).toNat = 1000000000 := by decide
    refine ⟨_, rfl, ww, 0, 9, rfl, w1, by decide, by decide, by decide, fun r1 Ga r10 r11 d1 f1 wa => ⟨_, _, rfl, rfl, _, rfl, _, _, rfl, rfl, ⟨by decide, by decide, by decide⟩, ww, 0 + 1, _, rfl, wa, by decide, by decide, by decide, fun r2 Gb r20 r21 d2 f2 wb => ⟨_, _, rfl, rfl, (by show 2 ≤ sizeLine; decide), fun L hL => ?_⟩⟩⟩
    rw [e9] at r21
    have sL := same_new (o := .lst [.int (1 + r1), .int (1 + r2)]) hL
    refine ⟨_, rfl, ww, 0 + 1 + 1, 2, rfl, wb.same sL, by decide, by decide, by decide, fun r3 Gc r30 r31 d3 f3 wc => ?_⟩
    obtain ⟨m, hm, vm⟩ := pick2i (1 + r1) (1 + r2) r30 r31
    refine ⟨L, _, _, _, rfl, rfl, SqL.of (d3 _ _ (wb.ne hL) upd_same), hm, ?_⟩
    have hm1 : 1 ≤ m := by omega
    have hm2 : m ≤ 1000000000000 := by omega
    have SA : Same G Gc := same_but s1 (d1.trans (d2.trans ((SameBut.of sL).trans d3))) hw
    clear d1 d2 d3 f1 f2 f3 wa wb sL hL vm hm r10 r11 r20 r21 r30 r31
    refine ⟨_, rfl, ww, 0 + 1 + 1 + 1, 9, rfl, wc, by decide, by decide, by decide, fun r1 Gd r10 r11 d1 f1 wa => ⟨_, _, rfl, rfl, _, rfl, _, _, rfl, rfl, ⟨by decide, by decide, by decide⟩, ww, 0 + 1 + 1 + 1 + 1, _, rfl, wa, by decide, by decide, by decide, fun r2 Ge r20 r21 d2 f2 wb => ⟨_, _, rfl, rfl, (by show 2 ≤ sizeLine; decide), fun L2 hL2 => ?_⟩⟩⟩
    rw [e9] at r21
    have sL := same_new (o := .lst [.int (1 + r1), .int (1 + r2)]) hL2
    refine ⟨_, rfl, ww, 0 + 1 + 1 + 1 + 1 + 1, 2, rfl, wb.same sL, by decide, by decide, by decide, fun r3 G3 r30 r31 d3 f3 w3 => ?_⟩
    obtain ⟨l, hl, vl⟩ := pick2i (1 + r1) (1 + r2) r30 r31
    refine ⟨L2, _, _, _, rfl, rfl, SqL.of (d3 _ _ (wb.ne hL2) upd_same), hl, ?_⟩
    have hl1 : 1 ≤ l := by omega
    have hl2 : l ≤ 1000000000000 := by omega
    have S3 : Same G G3 := same_but SA (d1.trans (d2.trans ((SameBut.of sL).trans d3))) hw
    clear d1 d2 d3 f1 f2 f3 wa wb wc w3 sL hL2 vl hl r10 r11 r20 r21 r30 r31 SA s1 w1
    have hws3 := S3 _ _ hws
    have se3 := se.same S3
    refine ⟨_, rfl, Pa, rfl, ⟨_, SqL.of hws3⟩, fun D hD => lc_list (K := K) (a := Pa) (xs := ws) (fun j X => Same G3 X ∧ ∃ us, X D = some (.lst us) ∧ SeL X us (ss.take j)) ⟨same_new hD, [], upd_same, ⟨rfl, fun i s e => nomatch e⟩⟩ (fun j X _ hP => SqL.of (hP.1 _ _ hws3)) (fun j x X hx hP2 => ?_) (fun X hP2 => ?_)⟩
    · obtain ⟨sX, us, hus, su⟩ := hP2
      obtain ⟨b, s', rfl, hs', fb⟩ := (se3.same sX).get hx
      obtain ⟨vb, eb, lb, hb⟩ := fb.len
      refine ⟨rfl, _, rfl, b, vb, rfl, .inl (SqL.of eb), fun t ht => ?_⟩
      have sN := same_new (o := .lst vb) ht
      have ft : FrL (upd X t (.lst vb)) t s' := ⟨vb, upd_same, PrsAt.same hb sN⟩
      have ntD : t ≠ D := fun e => by
        rw [e, hus] at ht
        cases ht
      have su2 := su.same sN
      have hus2 := sN _ _ hus
      have lj : us.length ≤ 4 := by
        rw [su.1, List.length_take]
        omega
      refine ⟨_, hus2, small1000 (by omega), fun b o e => ?_, us ++ [.ref t], upd_same, ?_⟩
      · rw [upd_ne (ne_of_none e hD)]
        exact sN _ _ (sX _ _ e)
      · rw [take_more hs']
        exact (su2.but su2 hus2 (fun t h => nPs t (List.mem_of_mem_take h)) SameBut.upd).app (SeL.one (ft.but ntD SameBut.upd hus2))
    obtain ⟨sX, us, hus, su⟩ := hP2
    rw [se3.1, List.take_of_length_le (Nat.le_refl _)] at su
    have hwB := sX _ _ hws3
    have seB := se3.same sX
    refine ⟨_, rfl, _, rfl, _, rfl, D, us, ss, m, l, rfl, hus, su, sec, l0, l4, ⟨hm1, hm2⟩, ⟨hl1, hl2⟩, fun p pO pS pE pR rv o X2 hp sX2 hpO hpR ho ep eO eS eE eR rwp => ?_⟩
    refine ⟨_, rfl, _, .ty "tuple", _, _, true, rfl, .ty _, .base (.tup ep), kit_ty (by decide +kernel), _, rfl, iteF ⟨_, rfl, p, _, rfl, .inr (SqT.of ep), rfl, _, rfl, iteNS rfl ?_⟩⟩
    refine ⟨_, rfl, _, rfl, .list (llD ss), .list (llD ss), .lst (SqL.of (sX2 _ _ hus)) (su.same sX2).dps, .lst (SqL.of (sX2 _ _ hwB)) (seB.same sX2).dps, ll_shaped _, ll_shaped _, _, rfl, ?_⟩
    rw [ll_eqv]
    refine iteF ?_
    generalize hO : ords ss.length ss.length = os at ho rwp
    have oM : ∀ o ∈ os, o.length = ss.length ∧ ∀ x ∈ o, x < ss.length := fun o ho => ords_mem _ _ o (by rw [hO]; exact ho)
    have o256 : os.length ≤ 256 := by rw [← hO]; exact ords_24 l4
    have o0 : 0 < os.length := by rw [← hO]; exact ords_ne l0 l4
    have lo4 : ∀ o ∈ os, o.length ≤ 4 := fun o ho => by have := (oM o ho).1; omega
    have T160 : ∀ o ∈ os, ∀ i, i ≤ (sel ss o).length → moved m l (sel ss o) i ≤ 160 := fun o ho i hi => by
      obtain ⟨lo, om⟩ := oM o ho
      have secO := sel_sect sec om
      have lso : (sel ss o).length ≤ 4 := by rw [sel_len]; omega
      exact (tot_ok (m := m) (l := l) (S := fun i => absS (tog ((sel ss o).take (i + 1)))) (n := (sel ss o).length) (fun j hj => fit_160 hm2 (by omega) hl1 (Sm.tog (take_sect secO _) (by rw [List.length_take]; omega)).bits.2.2) i hi).1
    have eb9 : ∀ o ∈ os, (errP (moved m l (sel ss o)) (sel ss o) o.length).num.natAbs < 2 ^ 1000 ∧ (errP (moved m l (sel ss o)) (sel ss o) o.length).den < 2 ^ 1000 := fun o ho => by
      obtain ⟨lo, om⟩ := oM o ho
      have secO := sel_sect sec om
      have lso : (sel ss o).length ≤ 4 := by rw [sel_len]; omega
      obtain ⟨d1, d2⟩ := DD2 secO lso
      exact (errP_sm secO lso (T160 o ho) (n := o.length) (by rw [sel_len]; exact Nat.le_refl _)).b9 d1 d2 (Nat.le_refl _) (by decide)
    refine ⟨_, rfl, _, rfl, _, rfl, Pa, ws, ss, m, l, rfl, sX2 _ _ hwB, seB.same sX2, sec, l0, l4, ⟨hm1, hm2⟩, ⟨hl1, hl2⟩, fun Lr us4 X3 hLr s3 eLr rwl => ?_⟩
    rw [hO] at rwl
    obtain ⟨pb0, epb0, _⟩ := rwl.get o0
    refine ⟨_, rfl, Lr, _, 0, .ref pb0, rfl, rfl, SqL.of eLr, atI_nat (j := 0) epb0, ?_⟩
    refine ⟨_, rfl, Lr, rfl, ⟨_, SqL.of eLr⟩, for_list (K := K) (a := Lr) (xs := us4) (fun i σ Y => Y = X3 ∧ ∃ (pb : Addr) (y11 : Option V), σ = [some (.ref a), some (.int (mn : Nat)), some (.ref Pa), y3, some (.ref ww), some (.int m), some (.int l), some (.ref D), some (.ref p), some (.ref Lr), some (.ref pb), y11, none, none, none] ∧ us4[bst (errO m l ss os) i]? = some (.ref pb)) ⟨rfl, pb0, none, rfl, epb0⟩ (fun i σ Y _ hP => by obtain ⟨rfl, _⟩ := hP; exact SqL.of eLr) (fun i x σ Y hx hP => ?_) (fun σ Y hP => ?_)⟩
    · obtain ⟨rfl, pb, y11, rfl, epb⟩ := hP
      have li := (List.getElem?_eq_some_iff.mp hx).1
      rw [rwl.1] at li
      obtain ⟨pi, epi, ri⟩ := rwl.get li
      rw [hx] at epi
      cases epi
      have hoi : os[i]? = some os[i] := List.getElem?_eq_getElem li
      generalize os[i] = oi at ri hoi
      have bi : bst (errO m l ss os) i < os.length := by
        by_cases z : i = 0
        · rw [z]
          exact o0
        · exact Nat.lt_trans (bst_lt _ i (by omega)) li
      obtain ⟨pb', epb', rb⟩ := rwl.get bi
      rw [epb] at epb'
      cases epb'
      have hob : os[bst (errO m l ss os) i]? = some os[bst (errO m l ss os) i] := List.getElem?_eq_getElem bi
      generalize os[bst (errO m l ss os) i] = ob at rb hob
      obtain ⟨c1, c2, c3, ei, _, _, _, _, f3⟩ := ri
      obtain ⟨g1, g2, g3, eb, _, _, _, _, h3⟩ := rb
      have q1 := eb9 oi (List.mem_of_getElem? hoi)
      have q2 := eb9 ob (List.mem_of_getElem? hob)
      have q1' : ((errP (moved m l (sel ss oi)) (sel ss oi) oi.length).den : Int).natAbs < 2 ^ 1000 := by rw [Int.natAbs_natCast]; exact q1.2
      have q2' : ((errP (moved m l (sel ss ob)) (sel ss ob) ob.length).den : Int).natAbs < 2 ^ 1000 := by rw [Int.natAbs_natCast]; exact q2.2
      have el : lq (errP (moved m l (sel ss oi)) (sel ss oi) oi.length) (errP (moved m l (sel ss ob)) (sel ss ob) ob.length) = lq (errO m l ss os i) (errO m l ss os (bst (errO m l ss os) i)) := by
        rw [errO_at hoi, errO_at hob]
      refine ⟨_, rfl, pi, _, 2, .ref c3, rfl, rfl, SqT.of ei, a2, c3, _, 0, .int _, rfl, rfl, SqT.of f3, a0, _, rfl, pb, _, 2, .ref g3, rfl, rfl, SqT.of eb, a2, g3, _, 1, .int _, rfl, rfl, SqT.of h3, a1, _, _, rfl, rfl, wide_mul (a := 1000) (b := 1000) q1.1 q2' (by decide) (by decide) (by decide), _, rfl, pb, _, 2, .ref g3, rfl, rfl, SqT.of eb, a2, g3, _, 0, .int _, rfl, rfl, SqT.of h3, a0, _, rfl, pi, _, 2, .ref c3, rfl, rfl, SqT.of ei, a2, c3, _, 1, .int _, rfl, rfl, SqT.of f3, a1, _, _, rfl, rfl, wide_mul (a := 1000) (b := 1000) q2.1 q1' (by decide) (by decide) (by decide), _, _, rfl, rfl, _, rfl, ?_⟩
      refine iteC (d := lq (errO m l ss os i) (errO m l ss os (bst (errO m l ss os) i))) el ?_
      refine ite2 (fun c => ?_) (fun c => ?_)
      · have e : bst (errO m l ss os) (i + 1) = i := by
          show (if lq (errO m l ss os i) (errO m l ss os (bst (errO m l ss os) i)) = true then i else _) = i
          rw [if_pos c]
        exact ⟨_, rfl, rfl, pi, _, rfl, by rw [e]; exact hx⟩
      · have e : bst (errO m l ss os) (i + 1) = bst (errO m l ss os) i := by
          show (if lq (errO m l ss os i) (errO m l ss os (bst (errO m l ss os) i)) = true then i else bst (errO m l ss os) i) = _
          rw [if_neg c]
        exact ⟨rfl, pb, _, rfl, by rw [e]; exact epb⟩
    obtain ⟨hY, pb, y11, hσ, epb⟩ := hP
    subst hσ
    have hY2 := hY.symm
    subst hY2
    clear hY
    rw [rwl.1] at epb
    obtain ⟨pb', epb', rb⟩ := rwl.2 _ o ho
    rw [epb] at epb'
    cases epb'
    obtain ⟨b1, b2, b3, eb, _, e1, _, e2, f3⟩ := id rb
    refine ⟨_, rfl, _, rfl, pb, _, 0, .ref b1, rfl, rfl, SqT.of eb, a0, _, rfl, pb, _, 1, .ref b2, rfl, rfl, SqT.of eb, a1, _, rfl, pb, _, 2, .ref b3, rfl, rfl, SqT.of eb, a2, _, rfl, (by show 4 ≤ sizeLine; decide), fun t ht => ?_⟩
    have s4 := same_new (o := .tup [.ref b1, .ref b2, .ref b3, .ref Lr]) ht
    have gt : (upd X3 t (.tup [.ref b1, .ref b2, .ref b3, .ref Lr])) t = some (.tup [.ref b1, .ref b2, .ref b3, .ref Lr]) := upd_same
    generalize upd X3 t _ = X4 at s4 gt ⊢
    have s34 := s3.trans s4
    have ol4 := lo4 o (List.mem_of_getElem? ho)
    obtain ⟨lo, om⟩ := oM o (List.mem_of_getElem? ho)
    refine ⟨_, _, rfl, Al.best (s34 _ _ ep) gt (s34 _ _ eO) (s34 _ _ eS) (s34 _ _ eE) (s34 _ _ eR) (rwp.same s34) (s4 _ _ e1) (s4 _ _ e2) (s4 _ _ f3) (s4 _ _ eLr) (rwl.same s4) ol4 lo4 (by omega), fun X5 s5 => ⟨_, rfl, iteF ?_⟩⟩
    have B35 : Same X3 X5 := s4.trans s5
    have S5 : Same H X5 := sG.trans (S3.trans (sX.trans (sX2.trans (s3.trans B35))))
    refine ⟨_, rfl, a, ns, 5, rfl, S5.seq hS, _, rfl, fun w2 hw2 X6 s6 wk => ?_⟩
    have B36 : Same X3 X6 := B35.trans s6
    have eb6 := B36 _ _ eb
    have e16 := B36 _ _ e1
    have BX6 : Same X X6 := sX2.trans (s3.trans B36)
    have ha6 := BX6 _ _ hwB
    have hs6 := seB.same BX6
    have secO := sel_sect sec om
    have lso : (sel ss o).length = ss.length := by
      rw [sel_len]
      exact lo
    refine ⟨_, rfl, pb, _, 0, .ref b1, rfl, rfl, SqT.of eb6, a0, b1, rfl, ⟨_, SqL.of e16⟩, fun D2 hD2 => lc_list (K := K) (a := b1) (xs := o.map nI) (fun j Z => Same X6 Z ∧ ∃ us2, Z D2 = some (.lst us2) ∧ SeL Z us2 (sel ss (o.take j))) ⟨same_new hD2, [], upd_same, ⟨rfl, fun i s e => nomatch e⟩⟩ (fun j Z _ hP => SqL.of (hP.1 _ _ e16)) (fun j x Z hx hP2 => ?_) (fun Z hP2 => ?_)⟩
    · obtain ⟨sZ, us2, hus, su⟩ := hP2
      rw [List.getElem?_map] at hx
      obtain ⟨y, hy, rfl⟩ := Option.map_eq_some_iff.mp hx
      have ly := om y (List.mem_of_getElem? hy)
      obtain ⟨c, hc, fc⟩ := (hs6.same sZ).2 y _ (List.getElem?_eq_getElem ly)
      have fc0 : ∃ o, X6 c = some o := by
        obtain ⟨c', hc', vs', e', _⟩ := hs6.2 y _ (List.getElem?_eq_getElem ly)
        rw [hc] at hc'
        cases hc'
        exact ⟨_, e'⟩
      have ncD : c ≠ D2 := fun e => by
        obtain ⟨o', e'⟩ := fc0
        rw [e, hD2] at e'
        cases e'
      have lu : us2.length ≤ 4 := by
        rw [su.1, sel_len, List.length_take]
        omega
      refine ⟨rfl, _, rfl, _, rfl, Pa, ws, _, .ref c, rfl, rfl, SqL.of (sZ _ _ ha6), atI_nat hc, ?_⟩
      refine ⟨_, hus, small1000 (by omega), fun x o e => ?_, us2 ++ [.ref c], upd_same, ?_⟩
      · rw [upd_ne (ne_of_none e hD2)]
        exact sZ _ _ e
      · have es : sel ss (o.take (j + 1)) = sel ss (o.take j) ++ [ss[y]] := by
          rw [take_more hy]
          unfold sel
          rw [List.map_append, List.map_singleton, List.getD_eq_getElem?_getD, List.getElem?_eq_getElem ly]
          rfl
        rw [es]
        exact (su.but su hus (fun t h => ((sel_sect sec fun x hx => om x (List.mem_of_mem_take hx)) t h).ne) SameBut.upd).app (SeL.one (fc.but ncD SameBut.upd hus))
    obtain ⟨sZ, us2, hus2, su2⟩ := hP2
    rw [List.length_map, List.take_of_length_le (Nat.le_refl _)] at su2
    have wZ := wk.same sZ
    have nD2 := su2.nw hus2 wZ (by omega)
    have ebZ := sZ _ _ eb6
    have f3Z : Fr Z b3 (errP (moved m l (sel ss o)) (sel ss o) (sel ss o).length) := by
      rw [sel_len]
      exact sZ _ _ (B36 _ _ f3)
    refine ⟨6, rfl, by decide, by decide, for_range (lo := 0) (n := 6) (fun i σ Y => SameBut w2 Z Y ∧ WellAt Y w2 (4 * (i : Int)) ∧ ∃ y3 : Option V, σ = [some (.ref a), some (.int (mn : Nat)), some (.ref Pa), y3, some (.ref w2), some (.int m), some (.int l), some (.ref D), some (.ref p), some (.ref Lr), some (.ref pb), y11, some (.ref D2), none, none]) ⟨SameBut.refl _ _, wZ.mono (by omega), _, rfl⟩ (fun i σ Y hi hP => ?_) (fun σ Y hP => ?_)⟩
    · obtain ⟨sb, wY, y3, rfl⟩ := hP
      refine ⟨_, rfl, _, rfl, _, rfl, _, rfl, pb, _, 2, .ref b3, rfl, rfl, SqT.of (tup_well ebZ sb wZ), a2, _, rfl, D2, w2, b3, us2, sel ss o, m, l, 4 * (i : Int), rfl, sb _ _ nD2 hus2, su2.well sb wZ, secO, by omega, by omega, ⟨hm1, hm2⟩, ⟨hl1, hl2⟩, tup_well f3Z sb wZ, wY, by omega, fun Y2 dY wY2 => ⟨_, rfl, iteF ?_⟩⟩
      exact ⟨sb.trans dY, wY2.mono (by omega), _, rfl⟩
    obtain ⟨sb, wY, y3', rfl⟩ := hP
    have K5 : Same X5 Y := fun x o' e => sb _ _ (fun z => by rw [z, hw2] at e; cases e) ((s6.trans sZ) _ _ e)
    have K3 : Same X3 Y := B35.trans K5
    have K2 : Same X2 Y := s3.trans K3
    have KX : Same X Y := sX2.trans K2
    have epY := K2 _ _ ep
    have eOY := K2 _ _ eO
    have eRY := K2 _ _ eR
    have ebY := K3 _ _ eb
    have eLY := K3 _ _ eLr
    have rwY := rwl.same K3
    clear wY sb ebZ f3Z nD2 wZ su2 hus2 sZ hD2 e16 eb6 wk hw2
    refine ⟨_, rfl, p, _, 3, .ref pR, rfl, rfl, SqT.of epY, atI_nat (j := 3) rfl, .inl ⟨rfl, _, SqL.of eRY⟩, pR, _, rfl, rfl, eRY, ?_⟩
    have hpR3 : ∀ x o', X x = some o' → x ≠ pR := fun x o' e => ne_of_none e hpR
    have hpO3 : ∀ x o', X x = some o' → x ≠ pO := fun x o' e => ne_of_none e hpO
    have K7 : SameBut pR Y (upd Y pR (.lst [])) := SameBut.upd
    have rw7 := rwY.but K7 eRY (fun x nx z => by have := nx.1; rw [z, eR] at this; cases this)
    have nLR : Lr ≠ pR := fun z => by rw [z, eR] at hLr; cases hLr
    have nLO : Lr ≠ pO := fun z => by rw [z, eO] at hLr; cases hLr
    have eL7 := K7 _ _ nLR eLY
    have tupne : ∀ x xs D7 ys, Y x = some (.tup xs) → Y D7 = some (.lst ys) → x ≠ D7 := fun x xs D7 ys h1 h2 z => by
      rw [z, h2] at h1
      cases h1
    have ep7 := K7 _ _ (tupne _ _ _ _ epY eRY) epY
    have eb7 := K7 _ _ (tupne _ _ _ _ ebY eRY) ebY
    obtain ⟨xs7, eO7, lx7⟩ : ∃ xs, (upd Y pR (.lst [])) pO = some (.lst xs) ∧ xs.length ≤ 4 := by
      by_cases z : pO = pR
      · rw [z]
        exact ⟨_, upd_same, Nat.zero_le _⟩
      · exact ⟨_, K7 _ _ z eOY, by rw [List.length_map]; exact ol4⟩
    have KX7 : Same X (upd Y pR (.lst [])) := fun x o' e => K7 _ _ (hpR3 x o' e) (KX _ _ e)
    generalize upd Y pR (.lst []) = Y7 at K7 rw7 eL7 ep7 eb7 eO7 KX7 ⊢
    refine ⟨_, rfl, p, _, 0, .ref pO, rfl, rfl, SqT.of ep7, a0, .inl ⟨rfl, _, SqL.of eO7⟩, pO, _, _, rfl, rfl, eO7, small1000 (by omega), ?_⟩
    have K8 : SameBut pO Y7 (upd Y7 pO (.lst (xs7 ++ [.int 7]))) := SameBut.upd
    have rw8 := rw7.but K8 eO7 (fun x nx z => by have := nx.1; rw [z, eO] at this; cases this)
    have eL8 := K8 _ _ nLO eL7
    have eb8 := K8 _ _ (fun z => by rw [z, eO7] at eb7; cases eb7) eb7
    have KX8 : Same X (upd Y7 pO (.lst (xs7 ++ [.int 7]))) := fun x o' e => K8 _ _ (hpO3 x o' e) (KX7 _ _ e)
    generalize upd Y7 pO _ = Y8 at K8 rw8 eL8 eb8 KX8 ⊢
    refine ⟨_, rfl, _, rfl, _, rfl, rfl, rfl, ?_⟩
    refine ⟨Pa, ws, ss, m, l, rfl, KX8 _ _ hwB, seB.same KX8, sec, l0, l4, ⟨hm1, hm2⟩, ⟨hl1, hl2⟩, fun p9 pO9 pS9 pE9 pR9 rv9 o9 X9 hp9 s9 hpO9 hpR9 ho9 ep9 eO9 eS9 eE9 eR9 rwp9 => ?_⟩
    rw [hO] at rwp9 ho9
    rw [ho] at ho9
    cases ho9
    have rw9 := rw8.same s9
    have eb9' := s9 _ _ eb8
    obtain ⟨pb9, epb9, rb9⟩ := rw9.2 _ o ho
    rw [epb] at epb9
    cases epb9
    obtain ⟨b1, b2, b3, eb10, _, e110, _, e210, f310⟩ := id rb9
    refine ⟨_, rfl, pb, _, 0, .ref b1, rfl, rfl, SqT.of eb10, a0, _, rfl, pb, _, 1, .ref b2, rfl, rfl, SqT.of eb10, a1, _, rfl, pb, _, 2, .ref b3, rfl, rfl, SqT.of eb10, a2, _, rfl, (by show 4 ≤ sizeLine; decide), fun t9 ht9 => ?_⟩
    have sT := same_new (o := .tup [.ref b1, .ref b2, .ref b3, .ref Lr]) ht9
    have gT : (upd X9 t9 (.tup [.ref b1, .ref b2, .ref b3, .ref Lr])) t9 = some (.tup [.ref b1, .ref b2, .ref b3, .ref Lr]) := upd_same
    generalize upd X9 t9 _ = X10 at sT gT ⊢
    exact ⟨_, _, rfl, Al.best (sT _ _ ep9) gT (sT _ _ eO9) (sT _ _ eS9) (sT _ _ eE9) (sT _ _ eR9) (rwp9.same sT) (sT _ _ e110) (sT _ _ e210) (sT _ _ f310) (sT _ _ (s9 _ _ eL8)) (rw9.same sT) ol4 lo4 (by omega), fun X11 s11 => q _⟩
end
end E1

namespace E1
open PySem PySem.Spec PyProof.Rows L2
theorem all_mk {l : PySem.W.OpenLaw} {w : World} {K : PySem.W.Frag} {h : Heap} {mg : Str → Option Value} {fa : Addr} {A_ONE : Addr} (e_A_ONE : He.ga K "ONE" = A_ONE) (X : K.In h) (G : h.Ns mainGlobals mg) (hfa : mg "law" = some (.ref fa)) (c : SaysY FA FN TS EXB w K) :
    ∃ fd : FuncData, (∀ (s : Shared) (v : Value), BindsTo s fd ⟨[v], []⟩ [("_law_script", v)]) ∧ ∀ base : Heap, K.In base → base.Ns mainGlobals mg → FnOk l.prog w K mg base CX0 12 fa fd ["_law_script"] (spLaw K) := by
  obtain ⟨fd_is_whole, F0_is_whole⟩ := c.t.d.def_ 0 (d := dd_is_whole) rfl
  have F_is_whole : Fun K "is_whole" "is_whole" s_is_whole (He.ga K "is_whole") fd_is_whole := fun_of F0_is_whole
  have k_is_whole := F_is_whole.kp
  have a_is_whole : PySem.W.nsIn K mainGlobals "is_whole" = some (some (.ref (He.ga K "is_whole"))) := He.eqO_ok (c.t.d.fact 0 (f := .glo "is_whole") rfl)
  have b_is_whole := F_is_whole.binds (ps := ["thing"]) fun _ _ _ _ _ _ us hl => match us, hl with | [_], _ => rfl
  obtain ⟨fd_is_fraction, F0_is_fraction⟩ := c.t.d.def_ 1 (d := dd_is_fraction) rfl
  have F_is_fraction : Fun K "is_fraction" "is_fraction" s_is_fraction (He.ga K "is_fraction") fd_is_fraction := fun_of F0_is_fraction
  have k_is_fraction := F_is_fraction.kp
  have a_is_fraction : PySem.W.nsIn K mainGlobals "is_fraction" = some (some (.ref (He.ga K "is_fraction"))) := He.eqO_ok (c.t.d.fact 1 (f := .glo "is_fraction") rfl)
  have b_is_fraction := F_is_fraction.binds (ps := ["thing"]) fun _ _ _ _ _ _ us hl => match us, hl with | [_], _ => rfl
  obtain ⟨fd_shared_divisor, F0_shared_divisor⟩ := c.t.d.def_ 2 (d := dd_shared_divisor) rfl
  have F_shared_divisor : Fun K "shared_divisor" "shared_divisor" s_shared_divisor (He.ga K "shared_divisor") fd_shared_divisor := fun_of F0_shared_divisor
  have k_shared_divisor := F_shared_divisor.kp
  have a_shared_divisor : PySem.W.nsIn K mainGlobals "shared_divisor" = some (some (.ref (He.ga K "shared_divisor"))) := He.eqO_ok (c.t.d.fact 2 (f := .glo "shared_divisor") rfl)
  have b_shared_divisor := F_shared_divisor.binds (ps := ["top", "bottom"]) fun _ _ _ _ _ _ us hl => match us, hl with | [_, _], _ => rfl
  obtain ⟨fd_lowest, F0_lowest⟩ := c.t.d.def_ 3 (d := dd_lowest) rfl
  have F_lowest : Fun K "lowest" "lowest" s_lowest (He.ga K "lowest") fd_lowest := fun_of F0_lowest
  have k_lowest := F_lowest.kp
  have a_lowest : PySem.W.nsIn K mainGlobals "lowest" = some (some (.ref (He.ga K "lowest"))) := He.eqO_ok (c.t.d.fact 3 (f := .glo "lowest") rfl)
  have b_lowest := F_lowest.binds (ps := ["top", "bottom"]) fun _ _ _ _ _ _ us hl => match us, hl with | [_, _], _ => rfl
  obtain ⟨fd_under, F0_under⟩ := c.t.d.def_ 4 (d := dd_under) rfl
  have F_under : Fun K "under" "under" s_under (He.ga K "under") fd_under := fun_of F0_under
  have k_under := F_under.kp
  have a_under : PySem.W.nsIn K mainGlobals "under" = some (some (.ref (He.ga K "under"))) := He.eqO_ok (c.t.d.fact 4 (f := .glo "under") rfl)
  have b_under := F_under.binds (ps := ["one", "other"]) fun _ _ _ _ _ _ us hl => match us, hl with | [_, _], _ => rfl
  obtain ⟨fd_is_fractions, F0_is_fractions⟩ := c.t.d.def_ 5 (d := dd_is_fractions) rfl
  have F_is_fractions : Fun K "is_fractions" "is_fractions" s_is_fractions (He.ga K "is_fractions") fd_is_fractions := fun_of F0_is_fractions
  have k_is_fractions := F_is_fractions.kp
  have a_is_fractions : PySem.W.nsIn K mainGlobals "is_fractions" = some (some (.ref (He.ga K "is_fractions"))) := He.eqO_ok (c.t.d.fact 5 (f := .glo "is_fractions") rfl)
  have b_is_fractions := F_is_fractions.binds (ps := ["thing"]) fun _ _ _ _ _ _ us hl => match us, hl with | [_], _ => rfl
  obtain ⟨fd_common_bottom, F0_common_bottom⟩ := c.t.d.def_ 6 (d := dd_common_bottom) rfl
  have F_common_bottom : Fun K "common_bottom" "common_bottom" s_common_bottom (He.ga K "common_bottom") fd_common_bottom := fun_of F0_common_bottom
  have k_common_bottom := F_common_bottom.kp
  have a_common_bottom : PySem.W.nsIn K mainGlobals "common_bottom" = some (some (.ref (He.ga K "common_bottom"))) := He.eqO_ok (c.t.d.fact 6 (f := .glo "common_bottom") rfl)
  have b_common_bottom := F_common_bottom.binds (ps := ["pairs"]) fun _ _ _ _ _ _ us hl => match us, hl with | [_], _ => rfl
  obtain ⟨fd_cleared, F0_cleared⟩ := c.t.d.def_ 7 (d := dd_cleared) rfl
  have F_cleared : Fun K "cleared" "cleared" s_cleared (He.ga K "cleared") fd_cleared := fun_of F0_cleared
  have k_cleared := F_cleared.kp
  have a_cleared : PySem.W.nsIn K mainGlobals "cleared" = some (some (.ref (He.ga K "cleared"))) := He.eqO_ok (c.t.d.fact 7 (f := .glo "cleared") rfl)
  have b_cleared := F_cleared.binds (ps := ["pairs"]) fun _ _ _ _ _ _ us hl => match us, hl with | [_], _ => rfl
  obtain ⟨fd_sum_of_products, F0_sum_of_products⟩ := c.t.d.def_ 8 (d := dd_sum_of_products) rfl
  have F_sum_of_products : Fun K "sum_of_products" "sum_of_products" s_sum_of_products (He.ga K "sum_of_products") fd_sum_of_products := fun_of F0_sum_of_products
  have k_sum_of_products := F_sum_of_products.kp
  have a_sum_of_products : PySem.W.nsIn K mainGlobals "sum_of_products" = some (some (.ref (He.ga K "sum_of_products"))) := He.eqO_ok (c.t.d.fact 8 (f := .glo "sum_of_products") rfl)
  have b_sum_of_products := F_sum_of_products.binds (ps := ["xs", "ys"]) fun _ _ _ _ _ _ us hl => match us, hl with | [_, _], _ => rfl
  obtain ⟨fd_check_series, F0_check_series⟩ := c.t.d.def_ 9 (d := dd_check_series) rfl
  have F_check_series : Fun K "check_series" "check_series" s_check_series (He.ga K "check_series") fd_check_series := fun_of F0_check_series
  have k_check_series := F_check_series.kp
  have a_check_series : PySem.W.nsIn K mainGlobals "check_series" = some (some (.ref (He.ga K "check_series"))) := He.eqO_ok (c.t.d.fact 9 (f := .glo "check_series") rfl)
  have b_check_series := F_check_series.binds (ps := ["thing"]) fun _ _ _ _ _ _ us hl => match us, hl with | [_], _ => rfl
  obtain ⟨fd_product_place, F0_product_place⟩ := c.t.d.def_ 10 (d := dd_product_place) rfl
  have F_product_place : Fun K "product_place" "product_place" s_product_place (He.ga K "product_place") fd_product_place := fun_of F0_product_place
  have k_product_place := F_product_place.kp
  have a_product_place : PySem.W.nsIn K mainGlobals "product_place" = some (some (.ref (He.ga K "product_place"))) := He.eqO_ok (c.t.d.fact 10 (f := .glo "product_place") rfl)
  have b_product_place := F_product_place.binds (ps := ["one", "other", "at"]) fun _ _ _ _ _ _ us hl => match us, hl with | [_, _, _], _ => rfl
  obtain ⟨fd_first_places, F0_first_places⟩ := c.t.d.def_ 11 (d := dd_first_places) rfl
  have F_first_places : Fun K "first_places" "first_places" s_first_places (He.ga K "first_places") fd_first_places := fun_of F0_first_places
  have k_first_places := F_first_places.kp
  have a_first_places : PySem.W.nsIn K mainGlobals "first_places" = some (some (.ref (He.ga K "first_places"))) := He.eqO_ok (c.t.d.fact 11 (f := .glo "first_places") rfl)
  have b_first_places := F_first_places.binds (ps := ["one", "other", "many"]) fun _ _ _ _ _ _ us hl => match us, hl with | [_, _, _], _ => rfl
  obtain ⟨fd_product_of, F0_product_of⟩ := c.t.d.def_ 12 (d := dd_product_of) rfl
  have F_product_of : Fun K "product_of" "product_of" s_product_of (He.ga K "product_of") fd_product_of := fun_of F0_product_of
  have k_product_of := F_product_of.kp
  have a_product_of : PySem.W.nsIn K mainGlobals "product_of" = some (some (.ref (He.ga K "product_of"))) := He.eqO_ok (c.t.d.fact 12 (f := .glo "product_of") rfl)
  have b_product_of := F_product_of.binds (ps := ["one", "other"]) fun _ _ _ _ _ _ us hl => match us, hl with | [_, _], _ => rfl
  obtain ⟨fd_is_section, F0_is_section⟩ := c.t.d.def_ 13 (d := dd_is_section) rfl
  have F_is_section : Fun K "is_section" "is_section" s_is_section (He.ga K "is_section") fd_is_section := fun_of F0_is_section
  have k_is_section := F_is_section.kp
  have a_is_section : PySem.W.nsIn K mainGlobals "is_section" = some (some (.ref (He.ga K "is_section"))) := He.eqO_ok (c.t.d.fact 13 (f := .glo "is_section") rfl)
  have b_is_section := F_is_section.binds (ps := ["thing"]) fun _ _ _ _ _ _ us hl => match us, hl with | [_], _ => rfl
  obtain ⟨fd_is_size, F0_is_size⟩ := c.t.d.def_ 14 (d := dd_is_size) rfl
  have F_is_size : Fun K "is_size" "is_size" s_is_size (He.ga K "is_size") fd_is_size := fun_of F0_is_size
  have k_is_size := F_is_size.kp
  have a_is_size : PySem.W.nsIn K mainGlobals "is_size" = some (some (.ref (He.ga K "is_size"))) := He.eqO_ok (c.t.d.fact 14 (f := .glo "is_size") rfl)
  have b_is_size := F_is_size.binds (ps := ["thing"]) fun _ _ _ _ _ _ us hl => match us, hl with | [_], _ => rfl
  obtain ⟨fd_check_chain, F0_check_chain⟩ := c.t.d.def_ 15 (d := dd_check_chain) rfl
  have F_check_chain : Fun K "check_chain" "check_chain" s_check_chain (He.ga K "check_chain") fd_check_chain := fun_of F0_check_chain
  have k_check_chain := F_check_chain.kp
  have a_check_chain : PySem.W.nsIn K mainGlobals "check_chain" = some (some (.ref (He.ga K "check_chain"))) := He.eqO_ok (c.t.d.fact 15 (f := .glo "check_chain") rfl)
  have b_check_chain := F_check_chain.binds (ps := ["sections", "most", "limit"]) fun _ _ _ _ _ _ us hl => match us, hl with | [_, _, _], _ => rfl
  obtain ⟨fd_sizes_of_all, F0_sizes_of_all⟩ := c.t.d.def_ 16 (d := dd_sizes_of_all) rfl
  have F_sizes_of_all : Fun K "sizes_of_all" "sizes_of_all" s_sizes_of_all (He.ga K "sizes_of_all") fd_sizes_of_all := fun_of F0_sizes_of_all
  have k_sizes_of_all := F_sizes_of_all.kp
  have a_sizes_of_all : PySem.W.nsIn K mainGlobals "sizes_of_all" = some (some (.ref (He.ga K "sizes_of_all"))) := He.eqO_ok (c.t.d.fact 16 (f := .glo "sizes_of_all") rfl)
  have b_sizes_of_all := F_sizes_of_all.binds (ps := ["series"]) fun _ _ _ _ _ _ us hl => match us, hl with | [_], _ => rfl
  obtain ⟨fd_products_from, F0_products_from⟩ := c.t.d.def_ 17 (d := dd_products_from) rfl
  have F_products_from : Fun K "products_from" "products_from" s_products_from (He.ga K "products_from") fd_products_from := fun_of F0_products_from
  have k_products_from := F_products_from.kp
  have a_products_from : PySem.W.nsIn K mainGlobals "products_from" = some (some (.ref (He.ga K "products_from"))) := He.eqO_ok (c.t.d.fact 17 (f := .glo "products_from") rfl)
  have b_products_from := F_products_from.binds (ps := ["sections"]) fun _ _ _ _ _ _ us hl => match us, hl with | [_], _ => rfl
  obtain ⟨fd_sizes_behind, F0_sizes_behind⟩ := c.t.d.def_ 18 (d := dd_sizes_behind) rfl
  have F_sizes_behind : Fun K "sizes_behind" "sizes_behind" s_sizes_behind (He.ga K "sizes_behind") fd_sizes_behind := fun_of F0_sizes_behind
  have k_sizes_behind := F_sizes_behind.kp
  have a_sizes_behind : PySem.W.nsIn K mainGlobals "sizes_behind" = some (some (.ref (He.ga K "sizes_behind"))) := He.eqO_ok (c.t.d.fact 18 (f := .glo "sizes_behind") rfl)
  have b_sizes_behind := F_sizes_behind.binds (ps := ["sections"]) fun _ _ _ _ _ _ us hl => match us, hl with | [_], _ => rfl
  obtain ⟨fd_shift_sums, F0_shift_sums⟩ := c.t.d.def_ 19 (d := dd_shift_sums) rfl
  have F_shift_sums : Fun K "shift_sums" "shift_sums" s_shift_sums (He.ga K "shift_sums") fd_shift_sums := fun_of F0_shift_sums
  have k_shift_sums := F_shift_sums.kp
  have a_shift_sums : PySem.W.nsIn K mainGlobals "shift_sums" = some (some (.ref (He.ga K "shift_sums"))) := He.eqO_ok (c.t.d.fact 19 (f := .glo "shift_sums") rfl)
  have b_shift_sums := F_shift_sums.binds (ps := ["products", "most", "limit"]) fun _ _ _ _ _ _ us hl => match us, hl with | [_, _, _], _ => rfl
  obtain ⟨fd_shifts_by, F0_shifts_by⟩ := c.t.d.def_ 20 (d := dd_shifts_by) rfl
  have F_shifts_by : Fun K "shifts_by" "shifts_by" s_shifts_by (He.ga K "shifts_by") fd_shifts_by := fun_of F0_shifts_by
  have k_shifts_by := F_shifts_by.kp
  have a_shifts_by : PySem.W.nsIn K mainGlobals "shifts_by" = some (some (.ref (He.ga K "shifts_by"))) := He.eqO_ok (c.t.d.fact 20 (f := .glo "shifts_by") rfl)
  have b_shifts_by := F_shifts_by.binds (ps := ["sums"]) fun _ _ _ _ _ _ us hl => match us, hl with | [_], _ => rfl
  obtain ⟨fd_error_by, F0_error_by⟩ := c.t.d.def_ 21 (d := dd_error_by) rfl
  have F_error_by : Fun K "error_by" "error_by" s_error_by (He.ga K "error_by") fd_error_by := fun_of F0_error_by
  have k_error_by := F_error_by.kp
  have a_error_by : PySem.W.nsIn K mainGlobals "error_by" = some (some (.ref (He.ga K "error_by"))) := He.eqO_ok (c.t.d.fact 21 (f := .glo "error_by") rfl)
  have b_error_by := F_error_by.binds (ps := ["sums", "sections"]) fun _ _ _ _ _ _ us hl => match us, hl with | [_, _], _ => rfl
  obtain ⟨fd_orders_of, F0_orders_of⟩ := c.t.d.def_ 22 (d := dd_orders_of) rfl
  have F_orders_of : Fun K "orders_of" "orders_of" s_orders_of (He.ga K "orders_of") fd_orders_of := fun_of F0_orders_of
  have k_orders_of := F_orders_of.kp
  have a_orders_of : PySem.W.nsIn K mainGlobals "orders_of" = some (some (.ref (He.ga K "orders_of"))) := He.eqO_ok (c.t.d.fact 22 (f := .glo "orders_of") rfl)
  have b_orders_of := F_orders_of.binds (ps := ["many"]) fun _ _ _ _ _ _ us hl => match us, hl with | [_], _ => rfl
  obtain ⟨fd_best_order, F0_best_order⟩ := c.t.d.def_ 23 (d := dd_best_order) rfl
  have F_best_order : Fun K "best_order" "best_order" s_best_order (He.ga K "best_order") fd_best_order := fun_of F0_best_order
  have k_best_order := F_best_order.kp
  have a_best_order : PySem.W.nsIn K mainGlobals "best_order" = some (some (.ref (He.ga K "best_order"))) := He.eqO_ok (c.t.d.fact 23 (f := .glo "best_order") rfl)
  have b_best_order := F_best_order.binds (ps := ["sections", "most", "limit"]) fun _ _ _ _ _ _ us hl => match us, hl with | [_, _, _], _ => rfl
  obtain ⟨fd__law_cell_at, F0__law_cell_at⟩ := c.t.d.def_ 24 (d := dd__law_cell_at) rfl
  have F__law_cell_at : Fun K "_law_cell_at" "_law_cell_at" s__law_cell_at (He.ga K "_law_cell_at") fd__law_cell_at := fun_of F0__law_cell_at
  have k__law_cell_at := F__law_cell_at.kp
  have a__law_cell_at : PySem.W.nsIn K mainGlobals "_law_cell_at" = some (some (.ref (He.ga K "_law_cell_at"))) := He.eqO_ok (c.t.d.fact 24 (f := .glo "_law_cell_at") rfl)
  have b__law_cell_at := F__law_cell_at.binds (ps := ["_law_script", "_law_k"]) fun _ _ _ _ _ _ us hl => match us, hl with | [_, _], _ => rfl
  obtain ⟨fd__law_well, F0__law_well⟩ := c.t.d.def_ 25 (d := dd__law_well) rfl
  have F__law_well : Fun K "_law_well" "_law_well" s__law_well (He.ga K "_law_well") fd__law_well := fun_of F0__law_well
  have k__law_well := F__law_well.kp
  have a__law_well : PySem.W.nsIn K mainGlobals "_law_well" = some (some (.ref (He.ga K "_law_well"))) := He.eqO_ok (c.t.d.fact 25 (f := .glo "_law_well") rfl)
  have b__law_well := F__law_well.binds (ps := ["_law_cell"]) fun _ _ _ _ _ _ us hl => match us, hl with | [_], _ => rfl
  obtain ⟨fd__law_draw, F0__law_draw⟩ := c.t.d.def_ 26 (d := dd__law_draw) rfl
  have F__law_draw : Fun K "_law_draw" "_law_draw" s__law_draw (He.ga K "_law_draw") fd__law_draw := fun_of F0__law_draw
  have k__law_draw := F__law_draw.kp
  have a__law_draw : PySem.W.nsIn K mainGlobals "_law_draw" = some (some (.ref (He.ga K "_law_draw"))) := He.eqO_ok (c.t.d.fact 26 (f := .glo "_law_draw") rfl)
  have b__law_draw := F__law_draw.binds (ps := ["_law_well_here", "_law_many"]) fun _ _ _ _ _ _ us hl => match us, hl with | [_, _], _ => rfl
  obtain ⟨fd__law_low, F0__law_low⟩ := c.t.d.def_ 27 (d := dd__law_low) rfl
  have F__law_low : Fun K "_law_low" "_law_low" s__law_low (He.ga K "_law_low") fd__law_low := fun_of F0__law_low
  have k__law_low := F__law_low.kp
  have a__law_low : PySem.W.nsIn K mainGlobals "_law_low" = some (some (.ref (He.ga K "_law_low"))) := He.eqO_ok (c.t.d.fact 27 (f := .glo "_law_low") rfl)
  have b__law_low := F__law_low.binds (ps := ["_law_top", "_law_bottom"]) fun _ _ _ _ _ _ us hl => match us, hl with | [_, _], _ => rfl
  obtain ⟨fd__law_plus, F0__law_plus⟩ := c.t.d.def_ 28 (d := dd__law_plus) rfl
  have F__law_plus : Fun K "_law_plus" "_law_plus" s__law_plus (He.ga K "_law_plus") fd__law_plus := fun_of F0__law_plus
  have k__law_plus := F__law_plus.kp
  have a__law_plus : PySem.W.nsIn K mainGlobals "_law_plus" = some (some (.ref (He.ga K "_law_plus"))) := He.eqO_ok (c.t.d.fact 28 (f := .glo "_law_plus") rfl)
  have b__law_plus := F__law_plus.binds (ps := ["_law_one", "_law_other"]) fun _ _ _ _ _ _ us hl => match us, hl with | [_, _], _ => rfl
  obtain ⟨fd__law_times, F0__law_times⟩ := c.t.d.def_ 29 (d := dd__law_times) rfl
  have F__law_times : Fun K "_law_times" "_law_times" s__law_times (He.ga K "_law_times") fd__law_times := fun_of F0__law_times
  have k__law_times := F__law_times.kp
  have a__law_times : PySem.W.nsIn K mainGlobals "_law_times" = some (some (.ref (He.ga K "_law_times"))) := He.eqO_ok (c.t.d.fact 29 (f := .glo "_law_times") rfl)
  have b__law_times := F__law_times.binds (ps := ["_law_one", "_law_other"]) fun _ _ _ _ _ _ us hl => match us, hl with | [_, _], _ => rfl
  obtain ⟨fd__law_product, F0__law_product⟩ := c.t.d.def_ 30 (d := dd__law_product) rfl
  have F__law_product : Fun K "_law_product" "_law_product" s__law_product (He.ga K "_law_product") fd__law_product := fun_of F0__law_product
  have k__law_product := F__law_product.kp
  have a__law_product : PySem.W.nsIn K mainGlobals "_law_product" = some (some (.ref (He.ga K "_law_product"))) := He.eqO_ok (c.t.d.fact 30 (f := .glo "_law_product") rfl)
  have b__law_product := F__law_product.binds (ps := ["_law_one", "_law_other"]) fun _ _ _ _ _ _ us hl => match us, hl with | [_, _], _ => rfl
  obtain ⟨fd__law_together, F0__law_together⟩ := c.t.d.def_ 31 (d := dd__law_together) rfl
  have F__law_together : Fun K "_law_together" "_law_together" s__law_together (He.ga K "_law_together") fd__law_together := fun_of F0__law_together
  have k__law_together := F__law_together.kp
  have a__law_together : PySem.W.nsIn K mainGlobals "_law_together" = some (some (.ref (He.ga K "_law_together"))) := He.eqO_ok (c.t.d.fact 31 (f := .glo "_law_together") rfl)
  have b__law_together := F__law_together.binds (ps := ["_law_sections"]) fun _ _ _ _ _ _ us hl => match us, hl with | [_], _ => rfl
  obtain ⟨fd__law_sizes, F0__law_sizes⟩ := c.t.d.def_ 32 (d := dd__law_sizes) rfl
  have F__law_sizes : Fun K "_law_sizes" "_law_sizes" s__law_sizes (He.ga K "_law_sizes") fd__law_sizes := fun_of F0__law_sizes
  have k__law_sizes := F__law_sizes.kp
  have a__law_sizes : PySem.W.nsIn K mainGlobals "_law_sizes" = some (some (.ref (He.ga K "_law_sizes"))) := He.eqO_ok (c.t.d.fact 32 (f := .glo "_law_sizes") rfl)
  have b__law_sizes := F__law_sizes.binds (ps := ["_law_places"]) fun _ _ _ _ _ _ us hl => match us, hl with | [_], _ => rfl
  obtain ⟨fd__law_fits, F0__law_fits⟩ := c.t.d.def_ 33 (d := dd__law_fits) rfl
  have F__law_fits : Fun K "_law_fits" "_law_fits" s__law_fits (He.ga K "_law_fits") fd__law_fits := fun_of F0__law_fits
  have k__law_fits := F__law_fits.kp
  have a__law_fits : PySem.W.nsIn K mainGlobals "_law_fits" = some (some (.ref (He.ga K "_law_fits"))) := He.eqO_ok (c.t.d.fact 33 (f := .glo "_law_fits") rfl)
  have b__law_fits := F__law_fits.binds (ps := ["_law_whole", "_law_limit_of", "_law_bound", "_law_moved"]) fun _ _ _ _ _ _ us hl => match us, hl with | [_, _, _, _], _ => rfl
  obtain ⟨fd__law_error, F0__law_error⟩ := c.t.d.def_ 34 (d := dd__law_error) rfl
  have F__law_error : Fun K "_law_error" "_law_error" s__law_error (He.ga K "_law_error") fd__law_error := fun_of F0__law_error
  have k__law_error := F__law_error.kp
  have a__law_error : PySem.W.nsIn K mainGlobals "_law_error" = some (some (.ref (He.ga K "_law_error"))) := He.eqO_ok (c.t.d.fact 34 (f := .glo "_law_error") rfl)
  have b__law_error := F__law_error.binds (ps := ["_law_sections", "_law_sums_here"]) fun _ _ _ _ _ _ us hl => match us, hl with | [_, _], _ => rfl
  obtain ⟨fd__law_same, F0__law_same⟩ := c.t.d.def_ 35 (d := dd__law_same) rfl
  have F__law_same : Fun K "_law_same" "_law_same" s__law_same (He.ga K "_law_same") fd__law_same := fun_of F0__law_same
  have k__law_same := F__law_same.kp
  have a__law_same : PySem.W.nsIn K mainGlobals "_law_same" = some (some (.ref (He.ga K "_law_same"))) := He.eqO_ok (c.t.d.fact 35 (f := .glo "_law_same") rfl)
  have b__law_same := F__law_same.binds (ps := ["_law_found", "_law_due"]) fun _ _ _ _ _ _ us hl => match us, hl with | [_, _], _ => rfl
  obtain ⟨fd__law_place, F0__law_place⟩ := c.t.d.def_ 36 (d := dd__law_place) rfl
  have F__law_place : Fun K "_law_place" "_law_place" s__law_place (He.ga K "_law_place") fd__law_place := fun_of F0__law_place
  have k__law_place := F__law_place.kp
  have a__law_place : PySem.W.nsIn K mainGlobals "_law_place" = some (some (.ref (He.ga K "_law_place"))) := He.eqO_ok (c.t.d.fact 36 (f := .glo "_law_place") rfl)
  have b__law_place := F__law_place.binds (ps := ["_law_well_here"]) fun _ _ _ _ _ _ us hl => match us, hl with | [_], _ => rfl
  obtain ⟨fd__law_orders, F0__law_orders⟩ := c.t.d.def_ 37 (d := dd__law_orders) rfl
  have F__law_orders : Fun K "_law_orders" "_law_orders" s__law_orders (He.ga K "_law_orders") fd__law_orders := fun_of F0__law_orders
  have k__law_orders := F__law_orders.kp
  have a__law_orders : PySem.W.nsIn K mainGlobals "_law_orders" = some (some (.ref (He.ga K "_law_orders"))) := He.eqO_ok (c.t.d.fact 37 (f := .glo "_law_orders") rfl)
  have b__law_orders := F__law_orders.binds (ps := ["_law_many"]) fun _ _ _ _ _ _ us hl => match us, hl with | [_], _ => rfl
  obtain ⟨fd__law_sums, F0__law_sums⟩ := c.t.d.def_ 38 (d := dd__law_sums) rfl
  have F__law_sums : Fun K "_law_sums" "_law_sums" s__law_sums (He.ga K "_law_sums") fd__law_sums := fun_of F0__law_sums
  have k__law_sums := F__law_sums.kp
  have a__law_sums : PySem.W.nsIn K mainGlobals "_law_sums" = some (some (.ref (He.ga K "_law_sums"))) := He.eqO_ok (c.t.d.fact 38 (f := .glo "_law_sums") rfl)
  have b__law_sums := F__law_sums.binds (ps := ["_law_sections", "_law_limit_of", "_law_bound"]) fun _ _ _ _ _ _ us hl => match us, hl with | [_, _, _], _ => rfl
  obtain ⟨fd__law_steps, F0__law_steps⟩ := c.t.d.def_ 39 (d := dd__law_steps) rfl
  have F__law_steps : Fun K "_law_steps" "_law_steps" s__law_steps (He.ga K "_law_steps") fd__law_steps := fun_of F0__law_steps
  have k__law_steps := F__law_steps.kp
  have a__law_steps : PySem.W.nsIn K mainGlobals "_law_steps" = some (some (.ref (He.ga K "_law_steps"))) := He.eqO_ok (c.t.d.fact 39 (f := .glo "_law_steps") rfl)
  have b__law_steps := F__law_steps.binds (ps := ["_law_sums_here"]) fun _ _ _ _ _ _ us hl => match us, hl with | [_], _ => rfl
  obtain ⟨fd__law_rows, F0__law_rows⟩ := c.t.d.def_ 40 (d := dd__law_rows) rfl
  have F__law_rows : Fun K "_law_rows" "_law_rows" s__law_rows (He.ga K "_law_rows") fd__law_rows := fun_of F0__law_rows
  have k__law_rows := F__law_rows.kp
  have a__law_rows : PySem.W.nsIn K mainGlobals "_law_rows" = some (some (.ref (He.ga K "_law_rows"))) := He.eqO_ok (c.t.d.fact 40 (f := .glo "_law_rows") rfl)
  have b__law_rows := F__law_rows.binds (ps := ["_law_sections", "_law_limit_of", "_law_bound"]) fun _ _ _ _ _ _ us hl => match us, hl with | [_, _, _], _ => rfl
  obtain ⟨fd__law_others_right, F0__law_others_right⟩ := c.t.d.def_ 41 (d := dd__law_others_right) rfl
  have F__law_others_right : Fun K "_law_others_right" "_law_others_right" s__law_others_right (He.ga K "_law_others_right") fd__law_others_right := fun_of F0__law_others_right
  have k__law_others_right := F__law_others_right.kp
  have a__law_others_right : PySem.W.nsIn K mainGlobals "_law_others_right" = some (some (.ref (He.ga K "_law_others_right"))) := He.eqO_ok (c.t.d.fact 41 (f := .glo "_law_others_right") rfl)
  have b__law_others_right := F__law_others_right.binds (ps := ["_law_some", "_law_limit_of", "_law_bound", "_law_error_here", "_law_well_here"]) fun _ _ _ _ _ _ us hl => match us, hl with | [_, _, _, _, _], _ => rfl
  obtain ⟨fd_law, F0_law⟩ := c.t.d.def_ 42 (d := dd_law) rfl
  have F_law : Fun K "law" "law" s_law (He.ga K "law") fd_law := fun_of F0_law
  have k_law := F_law.kp
  have a_law : PySem.W.nsIn K mainGlobals "law" = some (some (.ref (He.ga K "law"))) := He.eqO_ok (c.t.d.fact 42 (f := .glo "law") rfl)
  have b_law := F_law.binds (ps := ["_law_script"]) fun _ _ _ _ _ _ us hl => match us, hl with | [_], _ => rfl
  obtain ⟨tk_MOST_PLACES, gm_MOST_PLACES⟩ := He.int_ok X G (c.t.d.fact 43 (f := .int "MOST_PLACES" 8) rfl)
  obtain ⟨tk_GREATEST_PART, gm_GREATEST_PART⟩ := He.int_ok X G (c.t.d.fact 44 (f := .int "GREATEST_PART" 1000000) rfl)
  obtain ⟨tk_MOST_SECTIONS, gm_MOST_SECTIONS⟩ := He.int_ok X G (c.t.d.fact 45 (f := .int "MOST_SECTIONS" 4) rfl)
  obtain ⟨tk_GREATEST_SIZE, gm_GREATEST_SIZE⟩ := He.int_ok X G (c.t.d.fact 46 (f := .int "GREATEST_SIZE" 1000000000000) rfl)
  have gm_ONE : mg "ONE" = some (.ref A_ONE) := by
    rw [← e_A_ONE]
    exact He.glo_ok X G (c.t.d.fact 47 (f := .glo "ONE") rfl)
  have T_ONE : ∀ H, SqT K H A_ONE [V.int 1, V.int 1] := by
    rw [← e_A_ONE]
    exact fun H => He.tupB_ok (ex_at c.more (i := 0) (b := He.tupB K "ONE" [.int 1, .int 1]) rfl) H
  have zf_isinstance : mg "isinstance" = none := He.free_ok X G (c.t.d.fact 48 (f := .free "isinstance") rfl)
  have zf_int : mg "int" = none := He.free_ok X G (c.t.d.fact 49 (f := .free "int") rfl)
  have zf_bool : mg "bool" = none := He.free_ok X G (c.t.d.fact 50 (f := .free "bool") rfl)
  have zf_tuple : mg "tuple" = none := He.free_ok X G (c.t.d.fact 51 (f := .free "tuple") rfl)
  have zf_len : mg "len" = none := He.free_ok X G (c.t.d.fact 52 (f := .free "len") rfl)
  have zf_abs : mg "abs" = none := He.free_ok X G (c.t.d.fact 53 (f := .free "abs") rfl)
  have zf_list : mg "list" = none := He.free_ok X G (c.t.d.fact 54 (f := .free "list") rfl)
  have zf_all : mg "all" = none := He.free_ok X G (c.t.d.fact 55 (f := .free "all") rfl)
  have zf_zip : mg "zip" = none := He.free_ok X G (c.t.d.fact 56 (f := .free "zip") rfl)
  have zf_sum : mg "sum" = none := He.free_ok X G (c.t.d.fact 57 (f := .free "sum") rfl)
  have zf_max : mg "max" = none := He.free_ok X G (c.t.d.fact 58 (f := .free "max") rfl)
  have zf_range : mg "range" = none := He.free_ok X G (c.t.d.fact 59 (f := .free "range") rfl)
  have zf_enumerate : mg "enumerate" = none := He.free_ok X G (c.t.d.fact 60 (f := .free "enumerate") rfl)
  have zf_str : mg "str" = none := He.free_ok X G (c.t.d.fact 61 (f := .free "str") rfl)

  have z : Zs mg := ⟨zf_isinstance, zf_int, zf_bool, zf_tuple, zf_len, zf_abs, zf_list, zf_all, zf_zip, zf_sum, zf_max, zf_range, zf_enumerate, zf_str⟩
  have e := hfa.symm.trans (PySem.W.mg_of X G a_law)
  cases e
  have FL_law : FunD K "law" "law" (defArgs s_law) (defBody s_law) (defScope s_law) [] [] (He.ga K "law") fd_law := F0_law
  have bl := FunD.bindsA (ps := ["_law_script"]) FL_law fun _ _ _ _ _ _ us hl => match us, hl with | [_], _ => rfl
  refine ⟨_, fun s v => bl s [v] rfl, fun base _ _ => ?_⟩
  have c_same0 : Cal l.prog w K mg base 1 "_law_same" ["_law_found", "_law_due"] (spSameN 0) := ⟨_, _, PySem.W.mg_of X G a__law_same, k__law_same, b__law_same, ok_sameN (k := 0) F__law_same⟩
  have c_same1 : Cal l.prog w K mg base 2 "_law_same" ["_law_found", "_law_due"] (spSameN 1) := ⟨_, _, PySem.W.mg_of X G a__law_same, k__law_same, b__law_same, ok_same F__law_same z c_same0⟩
  have c_same2 : Cal l.prog w K mg base 3 "_law_same" ["_law_found", "_law_due"] (spSameN 2) := ⟨_, _, PySem.W.mg_of X G a__law_same, k__law_same, b__law_same, ok_same F__law_same z c_same1⟩
  have c_same3 : Cal l.prog w K mg base 4 "_law_same" ["_law_found", "_law_due"] (spSameN 3) := ⟨_, _, PySem.W.mg_of X G a__law_same, k__law_same, b__law_same, ok_same F__law_same z c_same2⟩
  have c_same4 : Cal l.prog w K mg base 5 "_law_same" ["_law_found", "_law_due"] (spSameN 4) := ⟨_, _, PySem.W.mg_of X G a__law_same, k__law_same, b__law_same, ok_same F__law_same z c_same3⟩
  have c__law_same : Cal l.prog w K mg base 6 "_law_same" ["_law_found", "_law_due"] (spSameN 5) := ⟨_, _, PySem.W.mg_of X G a__law_same, k__law_same, b__law_same, ok_same F__law_same z c_same4⟩
  have c_is_whole : Cal l.prog w K mg base 1 "is_whole" ["thing"] _ := ⟨_, _, PySem.W.mg_of X G a_is_whole, k_is_whole, b_is_whole, ok_is_whole (k := 0) F_is_whole z⟩
  have c_shared_divisor : Cal l.prog w K mg base 1 "shared_divisor" ["top", "bottom"] _ := ⟨_, _, PySem.W.mg_of X G a_shared_divisor, k_shared_divisor, b_shared_divisor, ok_shared_divisor (k := 0) F_shared_divisor z⟩
  have c_lowest : Cal l.prog w K mg base 2 "lowest" ["top", "bottom"] _ := ⟨_, _, PySem.W.mg_of X G a_lowest, k_lowest, b_lowest, ok_lowest F_lowest c_shared_divisor⟩
  have c_under : Cal l.prog w K mg base 1 "under" ["one", "other"] _ := ⟨_, _, PySem.W.mg_of X G a_under, k_under, b_under, ok_under (k := 0) F_under⟩
  have c_is_fraction : Cal l.prog w K mg base 2 "is_fraction" ["thing"] _ := ⟨_, _, PySem.W.mg_of X G a_is_fraction, k_is_fraction, b_is_fraction, ok_is_fraction F_is_fraction z c_is_whole c_shared_divisor⟩
  have c_is_fractions : Cal l.prog w K mg base 3 "is_fractions" ["thing"] _ := ⟨_, _, PySem.W.mg_of X G a_is_fractions, k_is_fractions, b_is_fractions, ok_is_fractions F_is_fractions z c_is_fraction⟩
  have c_common_bottom : Cal l.prog w K mg base 2 "common_bottom" ["pairs"] _ := ⟨_, _, PySem.W.mg_of X G a_common_bottom, k_common_bottom, b_common_bottom, ok_common_bottom F_common_bottom z c_shared_divisor⟩
  have c_cleared : Cal l.prog w K mg base 3 "cleared" ["pairs"] _ := ⟨_, _, PySem.W.mg_of X G a_cleared, k_cleared, b_cleared, ok_cleared F_cleared c_common_bottom⟩
  have c_sum_of_products : Cal l.prog w K mg base 4 "sum_of_products" ["xs", "ys"] _ := ⟨_, _, PySem.W.mg_of X G a_sum_of_products, k_sum_of_products, b_sum_of_products, ok_sum_of_products F_sum_of_products z c_cleared c_lowest⟩
  have c_check_series : Cal l.prog w K mg base 4 "check_series" ["thing"] _ := ⟨_, _, PySem.W.mg_of X G a_check_series, k_check_series, b_check_series, ok_check_series F_check_series c_is_fractions⟩
  have c_product_place : Cal l.prog w K mg base 5 "product_place" ["one", "other", "at"] _ := ⟨_, _, PySem.W.mg_of X G a_product_place, k_product_place, b_product_place, ok_product_place F_product_place z c_sum_of_products⟩
  have c_first_places : Cal l.prog w K mg base 6 "first_places" ["one", "other", "many"] _ := ⟨_, _, PySem.W.mg_of X G a_first_places, k_first_places, b_first_places, ok_first_places F_first_places z c_product_place⟩
  have c_product_of : Cal l.prog w K mg base 7 "product_of" ["one", "other"] _ := ⟨_, _, PySem.W.mg_of X G a_product_of, k_product_of, b_product_of, ok_product_of F_product_of z c_check_series c_first_places⟩
  have c_is_section : Cal l.prog w K mg base 4 "is_section" ["thing"] _ := ⟨_, _, PySem.W.mg_of X G a_is_section, k_is_section, b_is_section, ok_is_section F_is_section z _ gm_MOST_PLACES _ gm_GREATEST_PART c_is_fractions⟩
  have c_is_size : Cal l.prog w K mg base 2 "is_size" ["thing"] _ := ⟨_, _, PySem.W.mg_of X G a_is_size, k_is_size, b_is_size, ok_is_size F_is_size _ gm_GREATEST_SIZE c_is_whole⟩
  have c_check_chain : Cal l.prog w K mg base 5 "check_chain" ["sections", "most", "limit"] _ := ⟨_, _, PySem.W.mg_of X G a_check_chain, k_check_chain, b_check_chain, ok_check_chain F_check_chain z _ gm_MOST_SECTIONS c_is_section c_is_size⟩
  have c_sizes_of_all : Cal l.prog w K mg base 4 "sizes_of_all" ["series"] _ := ⟨_, _, PySem.W.mg_of X G a_sizes_of_all, k_sizes_of_all, b_sizes_of_all, ok_sizes_of_all F_sizes_of_all z c_cleared c_lowest⟩
  have c_products_from : Cal l.prog w K mg base 8 "products_from" ["sections"] _ := ⟨_, _, PySem.W.mg_of X G a_products_from, k_products_from, b_products_from, ok_products_from F_products_from z c_product_of⟩
  have c_sizes_behind : Cal l.prog w K mg base 9 "sizes_behind" ["sections"] _ := ⟨_, _, PySem.W.mg_of X G a_sizes_behind, k_sizes_behind, b_sizes_behind, ok_sizes_behind F_sizes_behind z gm_ONE T_ONE c_products_from c_sizes_of_all⟩
  have c_shift_sums : Cal l.prog w K mg base 5 "shift_sums" ["products", "most", "limit"] _ := ⟨_, _, PySem.W.mg_of X G a_shift_sums, k_shift_sums, b_shift_sums, ok_shift_sums F_shift_sums z c_sizes_of_all⟩
  have c_shifts_by : Cal l.prog w K mg base 1 "shifts_by" ["sums"] _ := ⟨_, _, PySem.W.mg_of X G a_shifts_by, k_shifts_by, b_shifts_by, ok_shifts_by (k := 0) F_shifts_by z⟩
  have c_error_by : Cal l.prog w K mg base 10 "error_by" ["sums", "sections"] _ := ⟨_, _, PySem.W.mg_of X G a_error_by, k_error_by, b_error_by, ok_error_by F_error_by z c_lowest c_sum_of_products c_sizes_behind⟩
  have c_orders_of : Cal l.prog w K mg base 1 "orders_of" ["many"] _ := ⟨_, _, PySem.W.mg_of X G a_orders_of, k_orders_of, b_orders_of, ok_orders_of (k := 0) F_orders_of z⟩
  have c_best_order : Cal l.prog w K mg base 11 "best_order" ["sections", "most", "limit"] _ := ⟨_, _, PySem.W.mg_of X G a_best_order, k_best_order, b_best_order, ok_best_order F_best_order z c_check_chain c_products_from c_shift_sums c_shifts_by c_orders_of c_error_by c_under⟩
  have kb_n := Fun.kbn (ps := ["sections", "most", "limit"]) (ks := ["limit", "most"]) (n := 1) (g := fun us ws => us ++ ws.reverse) (gV := fun vs zs => vs ++ zs.reverse) F_best_order (fun a b => Vals.append a (Vals.rev b)) (fun _ _ _ _ _ _ us ws h1 h2 => match us, ws, h1, h2 with | [_], [_, _], _, _ => rfl)
  have c_best_order_1_limit_most : CalK l.prog w K mg base 11 "best_order" ["sections", "most", "limit"] 1 ["limit", "most"] (fun vs zs => vs ++ zs.reverse) spBest := ⟨_, _, _, PySem.W.mg_of X G a_best_order, k_best_order, kb_n, ok_best_order F_best_order z c_check_chain c_products_from c_shift_sums c_shifts_by c_orders_of c_error_by c_under⟩
  have c__law_cell_at : Cal l.prog w K mg base 1 "_law_cell_at" ["_law_script", "_law_k"] _ := ⟨_, _, PySem.W.mg_of X G a__law_cell_at, k__law_cell_at, b__law_cell_at, ok_cell (k := 0) F__law_cell_at z.len⟩
  have c__law_well : Cal l.prog w K mg base 1 "_law_well" ["_law_cell"] _ := ⟨_, _, PySem.W.mg_of X G a__law_well, k__law_well, b__law_well, ok_well (k := 0) F__law_well z.int⟩
  have c__law_draw : Cal l.prog w K mg base 1 "_law_draw" ["_law_well_here", "_law_many"] _ := ⟨_, _, PySem.W.mg_of X G a__law_draw, k__law_draw, b__law_draw, ok_draw (k := 0) F__law_draw⟩
  have c__law_low : Cal l.prog w K mg base 1 "_law_low" ["_law_top", "_law_bottom"] _ := ⟨_, _, PySem.W.mg_of X G a__law_low, k__law_low, b__law_low, ok__law_low (k := 0) F__law_low z⟩
  have c__law_plus : Cal l.prog w K mg base 2 "_law_plus" ["_law_one", "_law_other"] _ := ⟨_, _, PySem.W.mg_of X G a__law_plus, k__law_plus, b__law_plus, ok__law_plus F__law_plus c__law_low⟩
  have c__law_times : Cal l.prog w K mg base 2 "_law_times" ["_law_one", "_law_other"] _ := ⟨_, _, PySem.W.mg_of X G a__law_times, k__law_times, b__law_times, ok__law_times F__law_times c__law_low⟩
  have c__law_fits : Cal l.prog w K mg base 1 "_law_fits" ["_law_whole", "_law_limit_of", "_law_bound", "_law_moved"] _ := ⟨_, _, PySem.W.mg_of X G a__law_fits, k__law_fits, b__law_fits, ok__law_fits (k := 0) F__law_fits z⟩
  have c__law_product : Cal l.prog w K mg base 3 "_law_product" ["_law_one", "_law_other"] _ := ⟨_, _, PySem.W.mg_of X G a__law_product, k__law_product, b__law_product, ok__law_product F__law_product z c__law_plus c__law_times⟩
  have c__law_together : Cal l.prog w K mg base 4 "_law_together" ["_law_sections"] _ := ⟨_, _, PySem.W.mg_of X G a__law_together, k__law_together, b__law_together, ok__law_together F__law_together z c__law_product⟩
  have c__law_sizes : Cal l.prog w K mg base 3 "_law_sizes" ["_law_places"] _ := ⟨_, _, PySem.W.mg_of X G a__law_sizes, k__law_sizes, b__law_sizes, ok__law_sizes F__law_sizes z c__law_plus⟩
  have c__law_error : Cal l.prog w K mg base 5 "_law_error" ["_law_sections", "_law_sums_here"] _ := ⟨_, _, PySem.W.mg_of X G a__law_error, k__law_error, b__law_error, ok__law_error F__law_error z c__law_plus c__law_times c__law_together c__law_sizes⟩
  have c__law_place : Cal l.prog w K mg base 2 "_law_place" ["_law_well_here"] _ := ⟨_, _, PySem.W.mg_of X G a__law_place, k__law_place, b__law_place, ok__law_place F__law_place c__law_draw c__law_low⟩
  have c__law_orders : Cal l.prog w K mg base 1 "_law_orders" ["_law_many"] _ := ⟨_, _, PySem.W.mg_of X G a__law_orders, k__law_orders, b__law_orders, ok__law_orders (k := 0) F__law_orders z⟩
  have c__law_sums : Cal l.prog w K mg base 5 "_law_sums" ["_law_sections", "_law_limit_of", "_law_bound"] _ := ⟨_, _, PySem.W.mg_of X G a__law_sums, k__law_sums, b__law_sums, ok__law_sums F__law_sums z c__law_together c__law_sizes c__law_fits⟩
  have c__law_steps : Cal l.prog w K mg base 1 "_law_steps" ["_law_sums_here"] _ := ⟨_, _, PySem.W.mg_of X G a__law_steps, k__law_steps, b__law_steps, ok__law_steps (k := 0) F__law_steps z⟩
  have c__law_rows : Cal l.prog w K mg base 6 "_law_rows" ["_law_sections", "_law_limit_of", "_law_bound"] _ := ⟨_, _, PySem.W.mg_of X G a__law_rows, k__law_rows, b__law_rows, ok__law_rows F__law_rows z c__law_orders c__law_sums c__law_steps c__law_error⟩
  have c__law_others_right : Cal l.prog w K mg base 6 "_law_others_right" ["_law_some", "_law_limit_of", "_law_bound", "_law_error_here", "_law_well_here"] _ := ⟨_, _, PySem.W.mg_of X G a__law_others_right, k__law_others_right, b__law_others_right, ok__law_others_right F__law_others_right z c__law_draw c__law_together c__law_sizes c__law_fits c__law_error⟩
  exact ok_law F_law z c__law_cell_at c__law_well c__law_draw c__law_place c_best_order c__law_rows c__law_others_right c__law_same c_best_order_1_limit_most

end E1

open PySem PySem.W PySem.Calls PyProof.Rows
set_option maxRecDepth 100000 in
set_option maxHeartbeats 0 in
theorem PySem.Challenge.cw_echobound_k88_whole_orders_of_chains_holds : PySem.Challenge.rw_echobound_k88_whole_orders_of_chains.Holds := by
  w_on; o_law
  refine HandSHeadRun.head_any (r := OpenLaw.row PySem.Challenge.rw_echobound_k88_whole_orders_of_chains) (q := HX.qv) (H := HX.hk) (ob := HX.ob) (M := 2056) (loose := HX.names) (d := HandSHeadRun.topDef (OpenLaw.row PySem.Challenge.rw_echobound_k88_whole_orders_of_chains).prog 56) (kwd := []) HX.ob_eq (by kernel_rfl) (fun s => by kernel_rfl) HX.run (by kernel_rfl) (by kernel_rfl) (by kernel_rfl) (by rfl) (by first | assumption | decide +kernel) (by decide +kernel) ⟨rfl, rfl, rfl, rfl, rfl, by decide +kernel⟩ ?hw ?hc
  case hw => w_witness2
  case hc =>
    refine L2.walk_ofE (l := PySem.Challenge.rw_echobound_k88_whole_orders_of_chains) (n := 63) (k := 12) (x := "_law_script") (CX := L2.CX0) rfl (by decide) (by kernel_rfl) ⟨rfl, by decide, by decide⟩ ?F (fun _ _ _ _ z => z)
    intro w mg fa h Y G hmg0
    obtain ⟨K, KX, c⟩ := Y
    have hmg : mg ("law" : PySem.Str) = some (.ref fa) := by
      have e : (HandSHeadRun.topDef (OpenLaw.row PySem.Challenge.rw_echobound_k88_whole_orders_of_chains).prog 56).name = ("law" : PySem.Str) := by kernel_rfl
      rw [← e]
      exact hmg0
    obtain ⟨fd, hb, hF⟩ := E1.all_mk (l := PySem.Challenge.rw_echobound_k88_whole_orders_of_chains) rfl KX G hmg c
    exact ⟨K, fd, E1.spLaw K, KX, hb, fun H a ns hl _ hS => ⟨a, ns, rfl, hS, hl, fun _ => rfl⟩, hF⟩
