import PyProof.Rows.All
import Wide.All
import OpenK.AllK
import Wide.FinOn
import HandS.Codes
import HandS.ForMost
import HandS.Wide
import HandS.Zip
import HandS.IsInst
import HandS.Defaults
import HandS.Style
import HandS.ForExc
import HandS.Walk
import HandS.More
import HandS.CallLocal
import HandS.WideBits
import KE.BitLaws
import KE.KBits
import HandS.FStr
import HandS.ExcField
import HandS.ExcIs
import KE.KExcSuper
import KE.KExcInit
import KE.KExcIs
import PyProof.FitsInt
import HandS.Lambda
import HandS.MakeKw
import HandS.DeepEq
import HandS.TryOnly
import KE.RegKSuper
import KE.RegKIsAll
import KE.RegKTryMore
import KE.KNestM
import HandS.EndTab
import PySem.Challenge.RW_echobound_k02_what_makes_no_fraction
set_option Elab.async false
set_option linter.all false
set_option maxRecDepth 100000
set_option maxHeartbeats 4000000
namespace E1
open PySem PySem.Spec PyProof.Rows L2
/-- isinstance(e, c), e the error that the suite holds, its class an own one -/
def rIsX (K : PySem.W.Frag) (a : Addr) (cls : Value) (d : Option Addr) : List V → Hp → VK → Prop := fun xs H Q => ∃ (D : Addr) (c : V) (cv : Value) (b : Bool), cls = .ref D ∧ ExcC K D ∧ xs = [.ref a, c] ∧ (∀ u, RelV c u → u = cv) ∧
  (∀ dd, d = some dd → ∃ fs, H dd = some (.xd fs)) ∧ PySem.W.kitOne K (.ref D) cv = some b ∧ Q (.bl b) H
theorem call_isX {X : Cx} {a : Addr} {cls : Value} {d : Option Addr} {oe : Obj} {pn : List (Addr × Obj)} (hz : Zc cls d oe) (hf : ∃ vs, oe.data = .fields vs) : CallR (X.suite a ((a, oe) :: pn)) (.builtin "isinstance") (rIsX X.K a cls d) := by
  intro pins s σ H xs us Q I r ⟨D, c, cv, b, hcls, C, hxs, only, hdd, yes, q⟩
  subst hcls hxs
  match d, hz, hdd, us, r with
  | none, hz, _, us, r => exact call_isE C hz hf pins s σ H _ us Q I r ⟨c, cv, b, rfl, only, yes, q⟩
  | some dd, ⟨kind, own⟩, hdd, [x, u], .cons hx (.cons hu .nil) =>
    cases hx
    cases only u hu
    obtain ⟨fs, tracked⟩ := hdd dd rfl
    obtain ⟨m, space, _⟩ := show ObjOk X.prog X.w H s.heap dd (.xd fs) from I.hok dd _ tracked
    obtain ⟨dict, lies, _⟩ := lookIn_ns space
    obtain ⟨parts, hparts⟩ := hf
    have held := (I.pin (a, oe) (by simp)).1
    have inst : PySem.W.InstAt s.heap a oe D (some dict) := by
      refine ⟨held, kind, ?_, ?_⟩
      · obtain ⟨_, _, dat, _⟩ := oe
        dsimp only at hparts ⊢
        rw [hparts]
        rfl
      · simpa [own] using lies
    have known : (PySem.W.clsIn X.K D).isSome = true := Option.isSome_iff_exists.mpr ((PySem.W.any_some C.hd).imp fun _ z => z.1)
    exact PySem.W.kia_one (PySem.W.kitx_exc known C.hg C.hk C.hs C.ha C.hn C.ht C.hm) I.kIn inst yes (fun z => nomatch z) fun tk => ⟨.bl b, H, I.kept (t' := tk) fun _ _ z => z, rfl, q⟩
/-! ### calls of defs that may raise -/
def CalX (P : Program) (w : World) (K : PySem.W.Frag) (mg : Str → Option Value) (base : Heap) (k : Nat) (x : Str) (ps : List Str) (dvs : List V) (sp : Sp) : Prop :=
  ∃ (f : Addr) (fd : FuncData) (ds : List Value), mg x = some (.ref f) ∧ PySem.W.keepIn K (.ref f) = true ∧ Vals dvs ds ∧ Binds K fd ps ds ∧ FnOk P w K mg base (L2.CX P w) k f fd ps sp
theorem pe_calx {X : Cx} {k j : Nat} {x : Str} {ps : List Str} {dvs : List V} {sp : Sp} {e : Expr} {es : List Expr} {t : TA} {p pos : Pos} (c : CalX X.prog X.w X.K X.mg X.base k x ps dvs sp) (hr : Room j X.A) (ha : PA X (e :: es) t) (hle : k ≤ j := by decide) (hg : Gl X x := by rfl)
    (hdb : (x == ("__debug__" : Str)) = false := by decide) (he : starEach (e :: es) X.env = (false, eval e X.env) :: starEach es X.env := by rfl) (hpl : (backTo pos (starEach es X.env)).any (·.1) = false := by rfl) :
    PE X (.Call (.Name x p) (e :: es) [] pos) (tCall sp dvs E0 t) := by
  obtain ⟨f, fd, ds, h1, h2, hd, h3, h4⟩ := c
  exact pe_call h4 (hr.mono hle) hg h1 h2 h3 hd passL ha hdb he hpl
def CalXK (P : Program) (w : World) (K : PySem.W.Frag) (mg : Str → Option Value) (base : Heap) (k : Nat) (x : Str) (ps : List Str) (n : Nat) (ks : List Str) (gV : List V → List V → List V) (sp : Sp) : Prop :=
  ∃ (f : Addr) (fd : FuncData) (g : List Value → List Value → List Value), mg x = some (.ref f) ∧ PySem.W.keepIn K (.ref f) = true ∧ KBn K fd ps n ks g gV ∧ FnOk P w K mg base (L2.CX P w) k f fd ps sp
theorem pe_calkx0 {X : Cx} {k j : Nat} {x : Str} {ps ks : List Str} {gV : List V → List V → List V} {sp : Sp} {kws : List Keyword} {tk : TA} {p pos : Pos} (c : CalXK X.prog X.w X.K X.mg X.base k x ps 0 ks gV sp) (hr : Room j X.A)
    (hkw : PK X kws tk) (hle : k ≤ j := by decide) (hg : Gl X x := by rfl) (hall : (backToKw pos (keywordEach kws X.env)).all (·.1.isSome) = true := by rfl) (hks : (backToKw pos (keywordEach kws X.env)).filterMap (·.1) = ks := by rfl)
    (hdb : (x == ("__debug__" : Str)) = false := by decide)
    (hpl : ((backTo pos (starEach [] X.env)).any (·.1) || (backToKw pos (keywordEach kws X.env)).any (·.1.isNone)) = false := by rfl) :
    PE X (.Call (.Name x p) [] kws pos) (tCallN 0 ks.length sp gV E0 tNil tk) := by
  obtain ⟨f, fd, g, h1, h2, h3, h4⟩ := c
  refine ⟨fun pins s σ H Q I h => ?_⟩
  refine wpAny_Call_Name_kw (ld_glob I hg h1 ?_ hdb)
  refine PySem.W.callWith_KW0 (h₀ := X.base) I.ok.mod.kin h2 hall (thn (hkw.run pos pins s σ H _ I h) fun ws s2 ⟨zs, H2, I2, rz, l1, l2, q2⟩ => ⟨I2.kIn, ?_⟩) hpl
  rw [hks]
  exact run_fnN (vs := []) (us := []) h4 (hr.mono hle) h3 passL I2 .nil rz l1 l2 q2
/-- a call whose error a try around it waits for -/
theorem pe_calxS {X : Cx} {k j : Nat} {x : Str} {ps : List Str} {sp : Sp} {e : Expr} {es : List Expr} {t : TA} {p pos : Pos} {W : WX} (c : CalX X.prog X.w X.K X.mg X.base k x ps [] sp) (hr : Room j X.A) (tk : Takes X W) (ha : PA X (e :: es) t) (hle : k ≤ j := by decide) (hg : Gl X x := by rfl)
    (hdb : (x == ("__debug__" : Str)) = false := by decide) (he : starEach (e :: es) X.env = (false, eval e X.env) :: starEach es X.env := by rfl) (hpl : (backTo pos (starEach es X.env)).any (·.1) = false := by rfl) :
    PE X (.Call (.Name x p) (e :: es) [] pos) (tCallS sp (WE W) t) := by
  obtain ⟨f, fd, ds, h1, h2, hd, h3, h4⟩ := c
  cases hd
  exact pe_callS h4 (hr.mono hle) hg h1 h2 h3 (fun σ => passAt tk σ) ha hdb he hpl
end E1

namespace E1
open PySem PySem.Spec PyProof.Rows L2
section
variable {X : Cx}
abbrev lamQ (X : Cx) : Str := X.env.qual ++ "<lambda>"
abbrev lamOb (X : Cx) (pr : Arguments) (bd : Expr) (sc : Scope) (nm : Value) (cd : Addr) (ctx : Value) : Obj := PySem.W.kla_obj "<lambda>" (lamQ X) pr bd sc (cloFrom X.env.cells sc.names []) nm cd ctx
/-- the context of the def at g, called from X at state s -/
abbrev gotCx (X : Cx) (Ng : List Str) (qg : Str) (sg : Scope) (g : Addr) (cdg : Value) (s : Shared) (H : Hp) : Cx := cxOf C8.CX0 X.prog X.w X.K X.mg X.base Ng qg sg g cdg X.A X.stack s H C8.E0
/-- a def of the text that is handed a lambda -/
structure GotFn (K : PySem.W.Frag) (mg : Str → Option Value) (x a : Str) (st : Stmt) (Ng : List Str) (g : Addr) (cdg : Value) : Prop where
  gm : mg x = some (.ref g)
  kp : PySem.W.keepIn K (.ref g) = true
  fn : ∃ (oc : Value) (od : Option Addr) (dV kV doc pm ct : Value) (an : Option Addr) (osl : Array (Option Value)),
    K.lookup g = some ⟨oc, od, .func (PySem.W.fnOf x x (defArgs st) (defBody st) (defScope st) dV kV doc pm an cdg ct), osl⟩ ∧ L2.Binds K (PySem.W.fnOf x x (defArgs st) (defBody st) (defScope st) dV kV doc pm an cdg ct) [a] []
  cd : PySem.W.codeIn K cdg x = true
  sc : FnScope Ng [a] (defScope st)
  n0 : Ng[0]? = some a
  vs : Vis (defScope st) a
end
/-! ### lambdas kept in a list: the lambda's object is tracked -/
section
variable {X : Cx} {H : Hp}
/-- at f: the function object ob -/
def LamO (f : Addr) (ob : Obj) : HO := .ext fun h => h.get? f = some ob
theorem lamO_ok {P : Program} {w : World} {H : Hp} {h : Heap} {f : Addr} {ob : Obj} (e : h.get? f = some ob) : ObjOk P w H h f (LamO f ob) := ⟨e, ⟨ob, e⟩, fun _ _ a st => st _ a⟩
theorem lamO_ne {f : Addr} {ob : Obj} (ps : Array Value) : LamO f ob ≠ .tbl ps := fun z => by
  unfold LamO at z
  cases z
theorem lamO_at {P : Program} {w : World} {H : Hp} {h : Heap} {f : Addr} {ob : Obj} (hok : HOk P w H h) (e : H f = some (LamO f ob)) : h.get? f = some ob := (show ObjOk P w H h f (LamO f ob) from hok f _ e).1
/-- a table to which a new code object is written -/
theorem tabs_put {T : List (Addr × Str)} {P c : Addr} {q : Str} {ps : Array Value} {pos : Pos} (hu : ∀ p ∈ T, p.1 = P → p.2 = q) (hT : LamX.Tabs T H) (hP : H P = some (.tbl ps)) (ht : TriplesOk ps.toList) (ha : ∀ (p' : Pos) (cv : Value), codeAmong p' ps.toList = some cv → ∃ c, cv = .ref c ∧ H c = some (LamX.CodeO c q)) (nC : H c = none) :
    LamX.ExtN H (upd (upd H P (.tbl (ps ++ #[rawInt pos.line, rawInt pos.col, .ref c]))) c (LamX.CodeO c q)) ∧ LamX.Tabs T (upd (upd H P (.tbl (ps ++ #[rawInt pos.line, rawInt pos.col, .ref c]))) c (LamX.CodeO c q)) := by
  have stays : LamX.ExtN H (upd (upd H P (.tbl (ps ++ #[rawInt pos.line, rawInt pos.col, .ref c]))) c (LamX.CodeO c q)) := fun b o e n => by
    have bc : b ≠ c := ne_of_none e nC
    have bP : b ≠ P := fun z => by
      subst z
      rw [hP] at e
      exact n ps (Option.some.inj e).symm
    rw [upd_ne bc, upd_ne bP, e]
  refine ⟨stays, fun p hp => ?_⟩
  have eL : (ps ++ #[rawInt pos.line, rawInt pos.col, .ref c]).toList = ps.toList ++ [rawInt pos.line, rawInt pos.col, .ref c] := by simp
  obtain ⟨ps', a1, a2, a3⟩ := hT p hp
  by_cases hb : p.1 = P
  · rw [hu p hp hb, hb]
    have there : (upd (upd H P (.tbl (ps ++ #[rawInt pos.line, rawInt pos.col, .ref c]))) c (LamX.CodeO c q)) P = some (.tbl (ps ++ #[rawInt pos.line, rawInt pos.col, .ref c])) := by
      rw [upd_ne (ne_of_none hP nC)]
      exact upd_same
    have threes : TriplesOk (ps ++ #[rawInt pos.line, rawInt pos.col, .ref c]).toList := eL ▸ PySem.TriplesOk_snoc _ _ _ _ ht
    refine ⟨_, there, threes, fun p' cv hcv => ?_⟩
    rw [eL] at hcv
    rcases LamX.among_app _ ht hcv with z | z
    · obtain ⟨c0, e1, e2⟩ := ha p' cv z
      exact ⟨c0, e1, stays _ _ e2 LamX.codeO_ne⟩
    · exact ⟨c, z, upd_same⟩
  · refine ⟨ps', by rw [upd_ne (ne_of_none a1 nC), upd_ne hb]; exact a1, a2, fun p' cv hcv => ?_⟩
    obtain ⟨c0, e1, e2⟩ := a3 p' cv hcv
    exact ⟨c0, e1, stays _ _ e2 LamX.codeO_ne⟩
/-- what a lambda's text does, in the context of its maker -/
structure LamOk (X : Cx) (k : Nat) (pr : Arguments) (bd : Expr) (sc : Scope) (t : XK → TE) : Prop where
  L : LamX.LamS X.env.scope sc
  hb : ∀ (q : Str) (cl : List (Str × Addr)) (nm cv ctx : Value), bindArgs (PySem.W.kla_fn "<lambda>" q pr bd sc cl nm cv ctx) ⟨[], []⟩ = pure []
  hbd : ∀ (E : XK) (A : Around) (out : List Env) (s : Shared) (H : Hp) (fl cd : Addr), Room k (A.deeper (LamX.lamEnv X sc s.heap.objs.size fl cd)) → PE (LamX.lamCx X A out s H E sc fl cd) bd (t E)
/-- at fl: a lambda made here that does t -/
def IsLam (X : Cx) (k : Nat) (H : Hp) (fl : Addr) (t : XK → TE) : Prop := ∃ (pr : Arguments) (bd : Expr) (sc : Scope) (nm : Value) (cd : Addr) (ctx : Value), LamOk X k pr bd sc t ∧ H fl = some (LamO fl (lamOb X pr bd sc nm cd ctx)) ∧ H cd = some (LamX.CodeO cd (lamQ X))
theorem IsLam.ext {k : Nat} {H H' : Hp} {fl : Addr} {t : XK → TE} (h : IsLam X k H fl t) (e : LamX.ExtN H H') : IsLam X k H' fl t := by
  obtain ⟨pr, bd, sc, nm, cd, ctx, h1, h2, h3⟩ := h
  exact ⟨pr, bd, sc, nm, cd, ctx, h1, e _ _ h2 lamO_ne, e _ _ h3 LamX.codeO_ne⟩
/-- the lambda as a value -/
def tLamV (X : Cx) (T : List (Addr × Str)) (k : Nat) (t : XK → TE) : TE := fun _ H Q => LamX.Tabs T H ∧ ∀ (fl : Addr) (H1 : Hp), LamX.ExtN H H1 → LamX.Tabs T H1 → H fl = none → IsLam X k H1 fl t → Q (.ref fl) H1
theorem pe_lamV {T : List (Addr × Str)} {c P : Addr} {k : Nat} {pr : Arguments} {bd : Expr} {sc : Scope} {t : XK → TE} {lp : Pos} (O : LamOk X k pr bd sc t) (TB : LamX.TabB X.base X.mg c P)
    (hc : X.env.code = .ref c := by rfl) (hm : (P, lamQ X) ∈ T := by exact List.mem_cons_self) (hu : ∀ p ∈ T, p.1 = P → p.2 = lamQ X := by (intro p hp _; cases List.mem_singleton.mp hp; rfl)) (hd : defaultsOf pr X.env = ([], []) := by rfl) :
    PE X (.Lambda pr bd sc lp) (tLamV X T k t) := by
  constructor
  intro pins s σ H Q I ⟨hT, h⟩
  obtain ⟨ps, hP, ht, ha⟩ := hT _ hm
  have hfree := O.L.has I.ok
  have tabHere := show s.heap.get? P = some { cls := .none, data := .fields ps } from I.hok P _ hP
  have give : ∀ (fl cd : Addr) (nm ctx : Value) (H1 : Hp) (s1 : Shared), Inv X pins σ (upd H1 fl (LamO fl (lamOb X pr bd sc nm cd ctx))) s1 → LamX.ExtN H H1 → LamX.Tabs T H1 → H1 fl = none → H fl = none → H1 cd = some (LamX.CodeO cd (lamQ X)) → EP X pins σ Q (.ref fl) s1 := fun fl cd nm ctx H1 s1 I1 e1 T1 n1 n0 h1 => by
    have st : ∀ b o, H1 b = some o → upd H1 fl (LamO fl (lamOb X pr bd sc nm cd ctx)) b = some o := fun b o e => by rw [upd_ne (ne_of_none e n1), e]
    exact ⟨.ref fl, _, I1, rfl, h fl _ (e1.trans (.of st)) (T1.ext st) n0 ⟨pr, bd, sc, nm, cd, ctx, O, upd_same, st _ _ h1⟩⟩
  refine PySem.W.kla_eval hd ?_
  cases hca : codeAmong lp ps.toList with
  | none =>
    refine PySem.W.kla_makeFunction (mg := X.mg) (c := c) (P := P) (ps := ps) (closure_ok hfree) I.ok.glob (I.mod.glob.keeps I.bk) hc (TB.code.keeps I.bk) tabHere ht hca TB.gP (TB.bm.keeps I.bk) fun cd ctx h' tk hx hge hlt hrec htb => ?_
    obtain ⟨c2, oc, vs, t9, e2, hoc, hdc, hvc⟩ := hrec
    cases e2
    have nC : H cd = none := I.hok.fresh hge
    have grown := Nat.le_trans hge (Nat.le_of_lt hlt)
    have I1 := LamX.inv_table (t' := tk) (more := #[rawInt lp.line, rawInt lp.col, .ref cd]) (h' := h') I hP hx htb hge ⟨oc, vs, t9, hoc, hdc, hvc⟩
    obtain ⟨en, T1⟩ := tabs_put (pos := lp) hu hT hP ht ha nC
    refine give h'.objs.size cd ((X.mg "__name__").getD .none) ctx _ _ (I1.laid (t' := tk) (fun b o e => Heap.get?_push_of_some _ e) (Nat.le_refl _) (lamO_ok (Heap.get?_push_size _ rfl))) en T1 (I1.hok.fresh (Nat.le_refl _)) (I.hok.fresh grown) upd_same
  | some cv =>
    obtain ⟨cd, e, hco⟩ := ha lp cv hca
    subst e
    refine PySem.W.kla_makeFunctionHit (mg := X.mg) (c := c) (P := P) (ps := ps) (closure_ok hfree) I.ok.glob (I.mod.glob.keeps I.bk) hc (TB.code.keeps I.bk) tabHere ht hca (TB.bm.keeps I.bk) fun ctx h' tk hx hsz => ?_
    exact give h'.objs.size cd ((X.mg "__name__").getD .none) ctx H _ (I.laid (t' := tk) (fun b o e => Heap.get?_push_of_some _ (hx b o e)) hsz (lamO_ok (Heap.get?_push_size _ rfl))) (.refl H) hT (I.hok.fresh hsz) (I.hok.fresh hsz) hco
end

/-! ### a list comprehension whose element may speak of the def that has it -/
section
variable {X : Cx} {pins : List (Addr × Obj)} {σ : L2.St}
/-- where a block began: the def's own state, and the places that the walked thing needs for itself -/
structure Stands (X : Cx) (pins : List (Addr × Obj)) (σ : L2.St) (H : Hp) (s : Shared) (fp : List Addr) : Prop where
  inv : Inv X pins σ H s
  own : ∀ b ∈ fp, FpOk X pins H b
/-- whatever the block has come to, the def stands as it stood -/
theorem Stands.back {H G : Hp} {s z : Shared} {fp : List Addr} {scope : Scope} {ce : Env} {ps : List (Addr × Obj)} {τ : L2.St} (S : Stands X pins σ H s fp) (J : Inv (X.blk s H scope ce fp) ps τ G z) : Inv X pins σ G z := by
  refine S.inv.call' (ch := fp) J.os J.base J.hok J.bare fun b hb => ?_
  have f := S.own b hb
  exact ⟨f.2.2.2.1, f.2.1, f.2.2.2.2⟩
/-- the places of the walked thing, seen from the block -/
theorem blk_places {H G : Hp} {s z : Shared} {fp : List Addr} {scope : Scope} {ce : Env} {τ : L2.St} (J : Inv (X.blk s H scope ce fp) [] τ G z) (none : ∀ b ∈ fp, G b = none) : ∀ b ∈ fp, FpOk (X.blk s H scope ce fp) [] G b := by
  intro b hb
  have away := J.ok.exf b hb
  refine ⟨none b hb, away.1, J.ok.exfs b hb, Or.inl hb, away.2, ?_⟩
  intro p hp
  cases (show p ∈ ([] : List (Addr × Obj)) from hp)
/-- where the block is ahead of turn i, m a measure of what is left -/
def Ahead (X : Cx) (H : Hp) (s : Shared) (scope : Scope) (ce : Env) (fp : List Addr) (τ : L2.St) (tn : Nat → Heap → Prop) (W : Nat → Nat → Hp → Prop) (m : Nat) (z : Shared) : Prop :=
  ∃ (i : Nat) (G : Hp), Inv (X.blk s H scope ce fp) [] τ G z ∧ tn i z.heap ∧ (∀ b ∈ fp, G b = none) ∧ W i m G
theorem lcm_loop {elt tg iter : Expr} {scope : Scope} {pos : Pos} {g : TG} {te : TE} {H : Hp} {s z : Shared} {fp : List Addr} {ce : Env} {it D : Addr} {J : It} {tn : Nat → Heap → Prop} {vs : List Nat} {W : Nat → Nat → Hp → Prop} {m : Nat} {done : Hp → Prop} {R : Result → Shared → Prop}
    (hc : X.calm = true) (T : Turn X.prog X.w X.K tg J fp it tn) (pg : PG (X.blk s H scope ce fp) tg g) (pe : PE (X.blk s H scope ce fp) elt te)
    (each : ∀ i m G, W i m G → (J.stop i G ∧ done G) ∨ (J.go i G ∧ ∃ Nx : Hp → Prop, (∀ G', Nx G' → ∃ m', m' < m ∧ W (i + 1) m' G') ∧ ∀ x G', J.yld i G x G' → g x (wipe σ vs) G' fun σ2 H2 => wipe σ2 vs = wipe σ vs ∧ tYes σ2 H2 fun b H3 =>
      if b = true then te σ2 H3 fun y H4 => ∃ acc, H4 D = some (.lst acc) ∧ acc.length < sizeLine ∧ Nx (upd H4 D (.lst (acc ++ [y]))) else Nx H3))
    (end_ : ∀ G z', Inv (X.blk s H scope ce fp) [] (wipe σ vs) G z' → done G → R (.ok .next) z') (here : Ahead X H s scope ce fp (wipe σ vs) tn W m z) :
    codeAny (model X.prog X.w) X.A (.compLoop (.ListComp elt [⟨tg, iter, [], 0⟩] scope pos) 0 (.ref it) (.ref D) ce) R z := by
  refine compLoop_any (Ahead X H s scope ce fp (wipe σ vs) tn W) (fun n z1 a1 => ?_) m here
  obtain ⟨i, G1, J1, t1, no1, w1⟩ := a1
  have pl1 := blk_places J1 no1
  rcases each i n G1 w1 with last | more
  · refine thnF (T.done (X.blk s H scope ce fp) rfl rfl rfl hc i [] z1 (wipe σ vs) G1 (fun _ _ => False) J1 pl1 t1 last.1) ?_
    rintro r z2 ⟨rfl, J2⟩
    exact end_ G1 z2 J2 last.2
  · obtain ⟨go, Nx, less, step⟩ := more
    refine thnF (T.item (X.blk s H scope ce fp) rfl rfl rfl hc i [] z1 (wipe σ vs) G1 (fun _ _ => False) J1 pl1 t1 go) ?_
    rintro r z2 ⟨u, rfl, run2⟩
    refine thnF run2 ?_
    rintro _ z3 ⟨x, G3, J3, rel, told, t3, no3⟩
    have locked := J3.pinned (blk_places J3 no3) (T.obj _ _ t3)
    refine thnF (pg.run _ z3 _ G3 x u _ locked rel (step x G3 told)) ?_
    rintro _ z4 ⟨τ4, G4, J4, eq4, q4⟩
    have q4' : te τ4 G4 fun y H4 => ∃ acc, H4 D = some (.lst acc) ∧ acc.length < sizeLine ∧ Nx (upd H4 D (.lst (acc ++ [y]))) := q4
    refine thnF ((pts_nil (X := X.blk s H scope ce fp)).run _ z4 τ4 G4 (fun b G => b = true ∧ G = G4) J4 ⟨rfl, rfl⟩) ?_
    rintro b z5 ⟨G5, J5, rfl, rfl⟩
    show wpAny _ _ (eval elt ce) _ _ z5
    refine thnF (pe.run _ z5 τ4 _ _ J5 q4') ?_
    rintro y z6 ⟨yv, G6, J6, rel6, acc, hD, fits, nx⟩
    refine app_ok (X := X.blk s H scope ce fp) J6 hD fits rel6 fun z7 J7 => ?_
    obtain ⟨m', lt, w7⟩ := less _ nx
    have stay : ∀ b ∈ fp, ∀ o, z3.heap.get? b = some o → z7.heap.get? b = some o ∧ (upd G6 D (.lst (acc ++ [yv]))) b = none := by
      intro b hb o e
      have p := J7.pin (b, o) (List.mem_append_right _ (List.mem_append_right _ (mem_pinsAt hb e)))
      exact ⟨p.1, p.2.1⟩
    have J8 : Inv (X.blk s H scope ce fp) [] (wipe σ vs) (upd G6 D (.lst (acc ++ [yv]))) z7 := by
      refine (J7.unpinned (pins := [])).weak (by rw [← eq4, wipe_length]) fun j v e => ?_
      rw [← eq4] at e
      exact (wipe_some e).1
    refine ⟨m', lt, i + 1, _, J8, T.keep _ _ _ t3 fun b hb o e => (stay b hb o e).1, fun b hb => ?_, w7⟩
    obtain ⟨o, e, _⟩ := T.obj _ _ t3 b hb
    exact (stay b hb o e).2
/-- the element's reading is told by the slots of the def -/
theorem pe_lcM {elt tg iter : Expr} {scope : Scope} {own : List (Str × Nat)} {pos : Pos} {wi : TI} {g : TG} {te : L2.St → TE} (hc : X.calm = true) (hN : X.N.Nodup) (hi : PI X tg iter wi) (ok : BlkOk X.N X.env.scope scope own)
    (hg : ∀ (s : Shared) (H : Hp) (C : Addr) (cl : List (Str × Addr)) (fp : List Addr), PG (X.blk s H scope (compEnvC scope cl C X.env) fp) tg g)
    (he : ∀ (ps : List (Addr × Obj)) (σ : L2.St) (H : Hp) (s : Shared) (fp : List Addr) (C : Addr) (cl : List (Str × Addr)), Stands X ps σ H s fp → PE (X.blk s H scope (compEnvC scope cl C X.env) fp) elt (te σ)) (hs : ∀ x, foldedSetIterable iter X.env x = pure x := by intro _; rfl) :
    PE X (.ListComp elt [⟨tg, iter, [], 0⟩] scope pos) (fun σ => tLc wi g tYes (te σ) (own.map (·.2)) σ) := by
  constructor
  intro pins s σ H Q I h
  rw [eval_ListComp]
  have cells : ∀ y ∈ scope.names, y.2 = .free → ∃ c, X.env.cells.lookup y.1 = some c := by
    intro y hy e
    exact I.ok.has _ (ok.free y hy e)
  refine wpAny_comprehension_free (use := none) rfl hs (closure_ok cells) ok.kind (fun y hy e => (ok.uniq y hy).trans (congrArg some e)) (thn (hi.run pins s σ H _ I h) fun _ s1 h1 => thn h1 ?_)
  rintro _ s2 ⟨it, fp, tn, J, H2, rfl, I2, T, t2, own2, q2⟩
  refine wpAny_newObj_type (newEnv_comp ?_) (Nat.zero_le _)
  have new2 : H2 s2.heap.objs.size = none := I2.hok.fresh (Nat.le_refl _)
  obtain ⟨W, ⟨m, w0⟩, each⟩ := q2 _ new2
  have I3 : Inv X pins σ (upd H2 s2.heap.objs.size (.lst [])) { s2 with heap := s2.heap.push { cls := .type "list", data := .seq ([] : List Value).toArray } } :=
    I2.laid (t' := s2.toks) (fun b o e => Heap.get?_push_of_some _ e) (Nat.le_refl _) ⟨Nat.zero_le _, [], 0, .nil, Heap.get?_push_size _ rfl⟩
  generalize hD : s2.heap.objs.size = D at *
  generalize hs3 : ({ s2 with heap := s2.heap.push { cls := .type "list", data := .seq ([] : List Value).toArray } } : Shared) = s3 at I3
  have grown : ∀ b o, s2.heap.get? b = some o → s3.heap.get? b = some o := fun b o e => hs3 ▸ Heap.get?_push_of_some _ e
  have olds : ∀ b ∈ fp, b ≠ D ∧ b < s3.heap.objs.size := by
    intro b hb
    obtain ⟨o, e, _⟩ := T.obj _ _ t2 b hb
    exact ⟨hD ▸ Nat.ne_of_lt (Heap.lt_size e), Heap.lt_size (grown b o e)⟩
  have own3 : ∀ b ∈ fp, FpOk X pins (upd H2 D (.lst [])) b := fun b hb => ⟨(upd_ne (olds b hb).1).trans (own2 b hb).1, (own2 b hb).2⟩
  have S : Stands X pins σ (upd H2 D (.lst [])) s3 fp := ⟨I3, own3⟩
  have J4 := block_start I3 ok hN fun b hb => ⟨own3 b hb, (olds b hb).2⟩
  have t3 : tn 0 s3.heap := T.keep _ _ _ t2 fun b _ o e => grown b o e
  have t4 : tn 0 (pushCells (s3.heap.push { cls := .type "dict", data := .dict #[] }) scope.names) := T.keep _ _ _ t3 fun b _ o e => pushCells_keeps _ _ _ _ (Heap.get?_push_of_some _ e)
  have fine : ∀ (G : Hp) (z : Shared), Inv (X.blk s3 (upd H2 D (.lst [])) scope (compEnvC scope (cellsFrom (s3.heap.objs.size + 1) scope.names (cloFrom X.env.cells scope.names [])) s3.heap.objs.size X.env) fp) [] (wipe σ (own.map (·.2))) G z → Q (.ref D) G → compPost (model X.prog X.w) X.A X.xe none (EP X pins σ Q) (.ref D) s3.heap.objs.size (.ok .next) z := by
    intro G z Jz qz
    have noC : G s3.heap.objs.size = none := Jz.free
    obtain ⟨mm, ns, _⟩ := Jz.loc
    have f := I3.fpOk (Nat.le_refl s3.heap.objs.size) noC
    exact ⟨mm, ns, fun h' sb => ⟨.ref D, G, (S.back Jz).turned (t' := z.toks) (fun b o hb e => (sb.2 b hb).trans e) f.1 f.2.1 f.2.2.2.1 f.2.2.2.2.1 f.2.2.2.2.2, rfl, qz⟩⟩
  have loop := lcm_loop (σ := σ) (iter := iter) (pos := pos) (D := D) (vs := own.map (·.2)) (W := W) (m := m) (done := Q (.ref D)) hc T (hg s3 (upd H2 D (.lst [])) s3.heap.objs.size (cellsFrom (s3.heap.objs.size + 1) scope.names (cloFrom X.env.cells scope.names [])) fp) (he pins σ _ s3 fp s3.heap.objs.size (cellsFrom (s3.heap.objs.size + 1) scope.names (cloFrom X.env.cells scope.names [])) S) each fine ⟨0, _, J4, t4, fun b hb => (own3 b hb).1, w0⟩
  exact codeAny_compStart_list loop (T.self X.A 0 _ _ _ t4 loop)
end
/-! ### a tracked lambda called by the def that got it, within a comprehension of its maker -/
section
variable {X : Cx}
theorem pe_actT {pins : List (Addr × Obj)} {σ : L2.St} {H : Hp} {s : Shared} {Ng : List Str} {qg : Str} {sg : Scope} {g fl cd : Addr} {cdg nm ctx : Value} {pr : Arguments} {bd : Expr} {sc : Scope} {k i : Nat} {a : Str} {pn : List (Addr × Obj)} {xe : Value → Shared → Prop} {W : WX} {t : XK → TE} {p1 p2 : Pos}
    (I : Inv X pins σ H s) (O : LamOk X k pr bd sc t) (tk : Takes ((gotCx X Ng qg sg g cdg s H).tr pn xe) W) (rm : Room (k + 1) (X.A.deeper (envOfC qg sg s.heap.objs.size g cdg)))
    (hN : Ng[i]? = some a) (hv : Vis sg a) (h1 : (a == ("__debug__" : Str)) = false := by decide) (h2 : (a == ("__classdict__" : Str)) = false := by decide) :
    PE ((gotCx X Ng qg sg g cdg s H).tr pn xe) (.Call (.Name a p1) [] [] p2)
      (fun τ G Q => τ[i]? = some (some (.ref fl)) ∧ G fl = some (LamO fl (lamOb X pr bd sc nm cd ctx)) ∧ G cd = some (LamX.CodeO cd (lamQ X)) ∧ t (WE W τ) σ G Q) := by
  constructor
  rintro pz sz τ G Q J ⟨hτ, hF, hC, ht⟩
  refine wpAny_Call_Name_kw (thn ((pe_var (X := (gotCx X Ng qg sg g cdg s H).tr pn xe) (pos := p1) (i := i) hN hv h1 h2).run pz sz τ G (fun v G' => v = .ref fl ∧ G' = G) J ⟨.ref fl, hτ, rfl, rfl⟩) ?_)
  rintro u s1 ⟨v1, G1, J1, rv, e1, e2⟩
  rw [e1] at rv
  rw [e2] at J1
  obtain rfl : u = Value.ref fl := rv
  have there := lamO_at J1.hok hF
  have body : codeAny (model X.prog X.w) (X.A.deeper (envOfC qg sg s.heap.objs.size g cdg)) (.call (.ref fl) ⟨[], []⟩) (CR (L2.CX X.prog X.w) (envOfC qg sg s.heap.objs.size g cdg :: X.stack) X.prog X.w G s1 Q (WE W τ)) s1 := by
    obtain ⟨⟨oc, vs, t9, c1, c2, c3⟩, _, _⟩ := J1.hok cd _ hC
    refine PySem.W.kla_callFunE rm.depth there rfl O.L.co O.L.gen rfl ⟨cd, oc, vs, t9, rfl, c1, c2, c3⟩ ?_
    rw [O.hb]
    refine wpAny_pure (wpAny_newFunctionEnv (fun y m => (O.L.own y m).2) (fun y m => nomatch m) (fun hp ns sb => ⟨J1.nolimit.fresh _ sb, ?_⟩) O.L.kind)
    have grew : ∀ b o, s1.heap.get? b = some o → hp.get? b = some o := fun b o e => sb.extBut b o (Nat.ne_of_lt (Heap.lt_size e)) (Heap.get?_push_of_some _ e)
    have J2 := LamX.lam_start2 (E := WE W τ) (f := fl) (c' := cd) (tk := s1.toks + ([] : List (Str × Value)).length) I O.L J1.env0 rm.hd (show Un (frs X.stack) [] H G s.heap s1.heap from J1.base) ns grew
    have ran := (O.hbd (WE W τ) _ _ s1 G fl cd (rm.deeper _)).run [] _ _ G Q J2 ht
    refine PySem.W.kla_codeExpr (wpAny_mono ran ?_ fun e s' hq => hq)
    rintro v s' ⟨v', G2, J3, rv, qv⟩
    exact ⟨v', G2, J3.os, J3.bare, J3.base, J3.hok, rv, qv⟩
  refine PySem.W.callWith_F0 ⟨_, _, _, _, there⟩ (wpAny_call (codeAny_mono body ?_))
  intro r s' hq
  match r with
  | .error e => exact passAt tk τ pz G s1 e s' J1 hq
  | .ok (.ret u) => exact J1.after hq
  | .ok .next => exact False.elim hq
  | .ok .brk => exact False.elim hq
  | .ok .cont => exact False.elim hq
/-- the def that calls what it got, a tracked lambda; TT: what it makes of the lambda's reading -/
def GivesT (X : Cx) (Ng : List Str) (x : Str) (sg : Scope) (g : Addr) (cdg : Value) (bg : List Stmt) (a : Str) (TT : Addr → Addr → (XK → Hp → VK → Prop) → Hp → VK → Prop) : Prop :=
  ∀ (fl cd : Addr) (ob : Obj) (s : Shared) (H : Hp) (Q : VK) (tl : XK → Hp → VK → Prop),
    (∀ (W : WX) (pn : List (Addr × Obj)) (xe : Value → Shared → Prop) (p1 p2 : Pos), Takes ((gotCx X Ng x sg g cdg s H).tr pn xe) W →
      PE ((gotCx X Ng x sg g cdg s H).tr pn xe) (.Call (.Name a p1) [] [] p2) (fun τ G Q => τ[0]? = some (some (.ref fl)) ∧ G fl = some (LamO fl ob) ∧ G cd = some (LamX.CodeO cd (lamQ X)) ∧ tl (WE W τ) G Q)) →
    H fl = some (LamO fl ob) → H cd = some (LamX.CodeO cd (lamQ X)) → TT fl cd tl H Q →
    ∃ t, PSs (gotCx X Ng x sg g cdg s H).nox bg t ∧ t { nx := fun _ H' => Q .non H', rt := Q } (L2.start Ng [.ref fl]) H
theorem pe_lamT {TT : Addr → Addr → (XK → Hp → VK → Prop) → Hp → VK → Prop} {x y a : Str} {g : Addr} {k j i : Nat} {st : Stmt} {cdg : Value} {Ng : List Str} {p py pos : Pos} {pins : List (Addr × Obj)} {σ : L2.St} {H0 : Hp} {s0 : Shared} {scope : Scope} {ce : Env} {fp : List Addr}
    (S : Stands X pins σ H0 s0 fp) (G : GotFn X.K X.mg x a st Ng g cdg) (hG : GivesT X Ng x (defScope st) g cdg (defBody st) a TT) (rm : Room j X.A) (hy : PE (X.blk s0 H0 scope ce fp) (.Name y py) (tVar i))
    (hle : k + 2 ≤ j := by decide) (hg : Gl (X.blk s0 H0 scope ce fp) x := by rfl) (h0 : (x == ("__debug__" : Str)) = false := by decide) (h1 : (a == ("__debug__" : Str)) = false := by decide) (h2 : (a == ("__classdict__" : Str)) = false := by decide)
    (he : starEach [.Name y py] ce = [(false, eval (.Name y py) ce)] := by rfl) :
    PE (X.blk s0 H0 scope ce fp) (.Call (.Name x p) [.Name y py] [] pos) (fun τ H Q => ∃ (fl : Addr) (t : XK → TE), τ[i]? = some (some (.ref fl)) ∧ IsLam X k H fl t ∧ ∀ cd, TT fl cd (fun E G' Q' => t E σ G' Q') H Q) := by
  constructor
  rintro ps z τ H Q J ⟨fl, t, hτ, ⟨pr, bd, sc, nm, cd, ctx, O, hF, hC⟩, h⟩
  obtain ⟨oc, od, dV, kV, doc, pm, ct, an, osl, lk, bnd⟩ := G.fn
  refine wpAny_Call_Name_kw (ld_glob J hg G.gm ?_ h0)
  refine PySem.W.callWith_K (h₀ := X.base) J.ok.mod.kin G.kp ?_ (by rfl) (by rfl)
  show wpAny _ _ (spliced ((false, eval (.Name y py) ce) :: backTo pos (starEach [] ce))) _ _ _
  refine Calls.spliced_cons (thn (hy.run ps _ τ H (fun v G' => v = .ref fl ∧ G' = H) J ⟨.ref fl, hτ, rfl, rfl⟩) ?_)
  rintro u z1 ⟨v1, G1, J1, rv, e1, e2⟩
  rw [e1] at rv
  rw [e2] at J1
  obtain rfl : u = Value.ref fl := rv
  refine Calls.spliced_nil ⟨J1.kIn, ?_⟩
  have M := S.back J1
  refine wpAny_call (codeAny_mono (LamX.run_ofS (CX := C8.CX0) (k := k + 1) (us := [.ref fl]) (vs := [.ref fl]) (Q := Q) (E := C8.E0) lk G.cd G.sc (rm.mono hle) M.env0 (bnd z1 [.ref fl] M.kIn rfl) (.cons rfl .nil) rfl fun rm' => ?_) ?_)
  · obtain ⟨t', ps', q'⟩ := hG fl cd _ z1 H Q (fun E G' Q' => t E σ G' Q') (fun W pn xe p1 p2 tk => pe_actT (i := 0) M O tk rm' G.n0 G.vs h1 h2) hF hC (h cd)
    exact ⟨t', ps'.nox, q'⟩
  · intro r z2 hq
    match r with
    | .error e => exact False.elim (show False from hq)
    | .ok (.ret u) => exact J1.after hq
    | .ok .next => exact False.elim hq
    | .ok .brk => exact False.elim hq
    | .ok .cont => exact False.elim hq
end

end E1

namespace E1
open PySem PySem.Spec PyProof.Rows L2
/-! ### a def of the text that is called by its name -/
def Cal (P : Program) (w : World) (K : PySem.W.Frag) (mg : Str → Option Value) (base : Heap) (k : Nat) (x : Str) (ps : List Str) (sp : Sp) : Prop :=
  ∃ (f : Addr) (fd : FuncData), mg x = some (.ref f) ∧ PySem.W.keepIn K (.ref f) = true ∧ Binds K fd ps [] ∧ FnOk P w K mg base CX0 k f fd ps sp
theorem pe_cal {X : Cx} {k j : Nat} {x : Str} {ps : List Str} {sp : Sp} {e : Expr} {es : List Expr} {t : TA} {p pos : Pos} (c : Cal X.prog X.w X.K X.mg X.base k x ps sp) (hr : Room j X.A) (ha : PA X (e :: es) t) (hle : k ≤ j := by decide) (hg : Gl X x := by rfl)
    (hdb : (x == ("__debug__" : Str)) = false := by decide) (he : starEach (e :: es) X.env = (false, eval e X.env) :: starEach es X.env := by rfl) (hpl : (backTo pos (starEach es X.env)).any (·.1) = false := by rfl) :
    PE X (.Call (.Name x p) (e :: es) [] pos) (tCall sp [] E0 t) := by
  obtain ⟨f, fd, h1, h2, h3, h4⟩ := c
  exact pe_call h4 (hr.mono hle) hg h1 h2 h3 .nil pass0 ha hdb he hpl
/-! ### heaps -/
def SameBut (a : Addr) (H H' : Hp) : Prop := ∀ b o, b ≠ a → H b = some o → H' b = some o
theorem SameBut.refl (a : Addr) (H : Hp) : SameBut a H H := fun _ _ _ h => h
theorem SameBut.trans {a : Addr} {H H1 H2 : Hp} (x : SameBut a H H1) (y : SameBut a H1 H2) : SameBut a H H2 := fun b o n h => y b o n (x b o n h)
theorem SameBut.of {a : Addr} {H H' : Hp} (s : Same H H') : SameBut a H H' := fun b o _ h => s b o h
theorem SameBut.upd {a : Addr} {H : Hp} {o : HO} : SameBut a H (upd H a o) := fun b _ n h => by
  rw [upd_ne n]
  exact h
theorem same_new {H : Hp} {p : Addr} {o : HO} (h : H p = none) : Same H (upd H p o) := fun b x e => by
  rw [upd_ne (ne_of_none e h)]
  exact e
theorem Same.tup {K : PySem.W.Frag} {H H' : Hp} {a : Addr} {xs : List V} (e : Same H H') (h : SqT K H a xs) : SqT K H' a xs := by
  rcases h with (h | ⟨o, h⟩) | h
  · exact .inl (.inl (e _ _ h))
  · exact .inl (.inr ⟨o, e _ _ h⟩)
  · exact .inr h
theorem a0 {α : Type} {x : α} {l : List α} : atI (x :: l) 0 = some x := atI_nat (j := 0) rfl
theorem a1 {α : Type} {x y : α} {l : List α} : atI (x :: y :: l) 1 = some y := atI_nat (j := 1) rfl
theorem a2 {α : Type} {x y z : α} {l : List α} : atI (x :: y :: z :: l) 2 = some z := atI_nat (j := 2) rfl
theorem toB {p : Prop} [Decidable p] (h : decide p = true) : p := of_decide_eq_true h
theorem toNB {p : Prop} [Decidable p] (h : ¬ decide p = true) : ¬ p := fun z => h (decide_eq_true z)
/-- a well: the digits left, a number that is mixed, how many were mixed (at most c) -/
def WellAt (H : Hp) (a : Addr) (c : Int) : Prop := ∃ x y z : Int, H a = some (.lst [.int x, .int y, .int z]) ∧ 0 ≤ y ∧ y < 2147483647 ∧ 0 ≤ z ∧ z ≤ c
theorem WellAt.mono {H : Hp} {a : Addr} {c d : Int} (h : WellAt H a c) (l : c ≤ d) : WellAt H a d := by
  obtain ⟨x, y, z, e, h1, h2, h3, h4⟩ := h
  exact ⟨x, y, z, e, h1, h2, h3, by omega⟩
theorem WellAt.same {H H' : Hp} {a : Addr} {c : Int} (h : WellAt H a c) (s : Same H H') : WellAt H' a c := by
  obtain ⟨x, y, z, e, h1, h2, h3, h4⟩ := h
  exact ⟨x, y, z, s _ _ e, h1, h2, h3, h4⟩
theorem WellAt.but {H H' : Hp} {a b : Addr} {c : Int} (h : WellAt H a c) (s : SameBut b H H') (n : a ≠ b) : WellAt H' a c := by
  obtain ⟨x, y, z, e, h1, h2, h3, h4⟩ := h
  exact ⟨x, y, z, s _ _ n e, h1, h2, h3, h4⟩
/-! ### promises of the law's helpers -/
def spCell (K : PySem.W.Frag) : Sp := fun vs H Q _ => ∃ (a : Addr) (ns : List Int) (k : Nat), vs = [.ref a, .int k] ∧ SqL K H a (ns.map V.int) ∧ Q (.int (ns.getD k 0)) H
def spWell : Sp := fun vs H Q _ => ∃ c : Int, vs = [.int c] ∧ ∀ p : Addr, H p = none → ∀ H', Same H H' → WellAt H' p 0 → Q (.ref p) H'
/-- a number from 0 to below m; the well has at most one more -/
def spDraw : Sp := fun vs H Q _ => ∃ (a : Addr) (c m : Int), vs = [.ref a, .int m] ∧ WellAt H a c ∧ c ≤ 1000000000 ∧ 0 < m ∧ m.natAbs < 2 ^ 9000 ∧
  ∀ (r : Int) (H' : Hp), 0 ≤ r → r < m → SameBut a H H' → (∀ b, H b = none → H' b = none) → WellAt H' a (c + 1) → Q (.int r) H'
def topS (i : Nat) : Stmt := PySem.Challenge.pw_echobound_k02_what_makes_no_fraction.main.body.getD i (.Pass ⟨0, 0, 0, 0⟩)
abbrev s_is_whole : Stmt := topS 9
abbrev s_is_fraction : Stmt := topS 10
abbrev s_shared_divisor : Stmt := topS 11
abbrev s_lowest : Stmt := topS 12
abbrev s_fraction : Stmt := topS 13
abbrev s_divided : Stmt := topS 14
abbrev s_two_to : Stmt := topS 15
abbrev s__law_cell_at : Stmt := topS 17
abbrev s__law_well : Stmt := topS 18
abbrev s__law_draw : Stmt := topS 19
abbrev s__law_refused : Stmt := topS 20
abbrev s__law_bad : Stmt := topS 21
abbrev s_law : Stmt := topS 22
section
variable {P : Program} {w : World} {K : PySem.W.Frag} {mg : Str → Option Value} {base : Heap}
theorem sc__law_cell_at : FnScope ["_law_script", "_law_k"] ["_law_script", "_law_k"] (defScope s__law_cell_at) := ⟨rfl, rfl, rfl, by decide +kernel, rfl, by decide +kernel, by decide +kernel⟩
theorem sc__law_well : FnScope ["_law_cell"] ["_law_cell"] (defScope s__law_well) := ⟨rfl, rfl, rfl, by decide +kernel, rfl, by decide +kernel, by decide +kernel⟩
theorem sc__law_draw : FnScope ["_law_well_here", "_law_much", "_law_found", "_law_number"] ["_law_well_here", "_law_much"] (defScope s__law_draw) := ⟨rfl, rfl, rfl, by decide +kernel, rfl, by decide +kernel, by decide +kernel⟩
theorem ok_cell {f : Addr} {fd : FuncData} {k : Nat} (F : Fun K "_law_cell_at" "_law_cell_at" s__law_cell_at f fd) (zl : mg "len" = none) : FnOk P w K mg base CX0 (k + 1) f fd ["_law_script", "_law_k"] (spCell K) := by
  refine F.ok sc__law_cell_at (fun vs H Q E h => ?_) (fun cdv A outer s H vs Q E hr h => ?_)
  · obtain ⟨a, ns, k, rfl, _⟩ := h
    rfl
  · obtain ⟨a, ns, k, rfl, hS, q⟩ := h
    refine ⟨_, (pss_cons (ps_if (pt_cmpR op_lt (pv 1) (pe_callB call_len_seq (by rfl) zl PySem.boot_len (pa_cons (pv 0) pa_nil)) (nomark _)) (pss_one (ps_ret (pe_ix ix_list (pv 0) (pv 1) (fun _ _ => rfl)))) pss_nil)
      (pss_one (ps_ret pe_int))), ?_⟩
    refine ⟨_, rfl, _, rfl, a, _, rfl, .inl hS, _, _, rfl, rfl, _, rfl, ite2 (fun c => ?_) (fun c => ?_)⟩
    · have hk : k < ns.length := by
        have := toB c
        rw [List.length_map] at this
        omega
      refine ⟨_, rfl, _, rfl, a, _, k, .int (ns.getD k 0), rfl, rfl, hS, atI_nat ?_, q⟩
      rw [List.getElem?_map, List.getElem?_eq_getElem hk, List.getD_eq_getElem?_getD, List.getElem?_eq_getElem hk]
      rfl
    · have hk : ¬ k < ns.length := fun z => by
        have := toNB c
        rw [List.length_map] at this
        omega
      have e : ns.getD k 0 = 0 := by
        rw [List.getD_eq_getElem?_getD, List.getElem?_eq_none (by omega)]
        rfl
      rw [e] at q
      exact q
theorem ok_well {f : Addr} {fd : FuncData} {k : Nat} (F : Fun K "_law_well" "_law_well" s__law_well f fd) (zi : mg "int" = none) : FnOk P w K mg base CX0 (k + 1) f fd ["_law_cell"] spWell := by
  refine F.ok sc__law_well (fun vs H Q E h => ?_) (fun cdv A outer s H vs Q E hr h => ?_)
  · obtain ⟨c, rfl, _⟩ := h
    rfl
  · obtain ⟨c, rfl, q⟩ := h
    refine ⟨_, (pss_one (ps_ret (pe_lst (pa_cons (pe_op op_mul (pv 0) (pe_callTy call_int1 (by rfl) zi (by decide +kernel) (pa_cons (pe_cmpR op_ge (pv 0) (pe_op op_pow pe_int pe_int) (nomark _)) pa_nil))) (pa_cons (pe_op op_mod (pv 0) pe_int) (pa_cons pe_int pa_nil)))))), ?_⟩
    refine ⟨_, rfl, _, rfl, _, _, rfl, rfl, ⟨by decide, by decide, by decide⟩, _, _, rfl, rfl, .inr ⟨_, rfl, _, _, rfl, rfl, .inr ?_, ?_⟩⟩
    · split <;> decide
    · refine ⟨_, rfl, _, _, rfl, rfl, (by show (0 : Int) < 2147483647; decide), (by show 3 ≤ sizeLine; decide), fun p hp => ?_⟩
      exact q p hp _ (same_new hp) ⟨_, _, _, upd_same, Int.emod_nonneg _ (by decide), Int.emod_lt_of_pos _ (by decide), Int.le_refl _, Int.le_refl _⟩
theorem ok_draw {f : Addr} {fd : FuncData} {k : Nat} (F : Fun K "_law_draw" "_law_draw" s__law_draw f fd) : FnOk P w K mg base CX0 (k + 1) f fd ["_law_well_here", "_law_much"] spDraw := by
  refine F.ok sc__law_draw (fun vs H Q E h => ?_) (fun cdv A outer s H vs Q E hr h => ?_)
  · obtain ⟨a, c, m, rfl, _⟩ := h
    rfl
  · obtain ⟨a, c, m, rfl, ⟨x, y, z, hw, y0, y1, z0, z1⟩, hc, m0, m1, q⟩ := h
    have fr : ∀ o b, H b = none → (upd H a o) b = none := fun o b hb => by
      rw [upd_ne (fun e => by rw [e, hw] at hb; cases hb)]
      exact hb
    refine ⟨_, (pss_cons (ps_if (pt_cmpR op_gt (pe_ix ix_list (pv 0) pe_int (fun _ _ => rfl)) pe_int (nomark _)) (pss_cons (ps_set (i := 2) sc__law_draw.nd rfl (.inl rfl) (pe_op op_mod (pe_ix ix_list (pv 0) pe_int (fun _ _ => rfl)) (pv 1)))
      (pss_cons (ps_asg (pe_op op_fdivW (pe_ix ix_list (pv 0) pe_int (fun _ _ => rfl)) (pv 1)) (pg_sub (pv 0) pe_int set_list))
      (pss_one (ps_ret (pv 2))))) pss_nil)
      (pss_cons (ps_asg (pe_op op_add (pe_ix ix_list (pv 0) pe_int (fun _ _ => rfl)) pe_int) (pg_sub (pv 0) pe_int set_list))
      (pss_cons (ps_set (i := 3) sc__law_draw.nd rfl (.inl rfl) (pe_op op_mod (pe_op op_pow (pe_op op_add (pe_op op_add (pe_ix ix_list (pv 0) pe_int (fun _ _ => rfl)) (pe_op op_mul pe_int (pe_ix ix_list (pv 0) pe_int (fun _ _ => rfl)))) pe_int) pe_int) pe_int))
      (pss_cons (ps_set (i := 3) sc__law_draw.nd rfl (.inl rfl) (pe_op op_mod (pe_op op_mul (pv 3) (pe_op op_add (pe_op op_fdiv (pv 3) pe_int) pe_int)) pe_int))
      (pss_one (ps_ret (pe_op op_mod (pe_op op_mod (pe_op op_mul (pv 3) (pe_op op_add (pe_op op_fdiv (pv 3) pe_int) pe_int)) pe_int) (pv 1)))))))), ?_⟩
    refine ⟨_, rfl, a, _, 0, .int x, rfl, rfl, SqL.of hw, a0, x, 0, rfl, rfl, _, rfl, ite2 (fun c => ?_) (fun c => ?_)⟩
    · refine ⟨_, rfl, a, _, 0, .int x, rfl, rfl, SqL.of hw, a0, _, rfl, x, m, rfl, rfl, m0, ?_⟩
      refine ⟨_, rfl, a, _, 0, .int x, rfl, rfl, SqL.of hw, a0, _, rfl, x, m, rfl, rfl, wide_div m0 m1 (by decide) (Nat.le_refl _), _, rfl, a, _, 0, 0, rfl, rfl, hw, rfl, ?_⟩
      refine ⟨_, rfl, q _ _ (Int.emod_nonneg _ (by omega)) (Int.emod_lt_of_pos _ m0) SameBut.upd (fr _) ⟨_, _, _, upd_same, y0, y1, z0, by omega⟩⟩
    · refine ⟨_, rfl, a, _, 2, .int z, rfl, rfl, SqL.of hw, a2, z, 1, rfl, rfl, _, rfl, a, _, 2, 2, rfl, rfl, hw, rfl, ?_⟩
      have hw2 : (upd H a (.lst [V.int x, V.int y, V.int (z + 1)])) a = some (.lst [V.int x, V.int y, V.int (z + 1)]) := upd_same
      have n5 : 0 ≤ y + 7919 * (z + 1) + 1 ∧ y + 7919 * (z + 1) + 1 < 18446744073709551616 := by omega
      refine ⟨_, rfl, a, _, 1, .int y, rfl, rfl, SqL.of hw2, a1, _, rfl, a, _, 2, .int (z + 1), rfl, rfl, SqL.of hw2, a2, _, _, rfl, rfl, .inl ⟨by decide, by decide⟩, _, _, rfl, rfl, _, _, rfl, rfl, _, _, rfl, rfl, ⟨by decide, by decide, ?_⟩, _, _, rfl, rfl, (by show (0 : Int) < 2147483647; decide), ?_⟩
      · show (y + 7919 * (z + 1) + 1).natAbs < 18446744073709551616
        omega
      · generalize hn : (y + 7919 * (z + 1) + 1) ^ (5 : Int).toNat % 2147483647 = n
        have n0 : 0 ≤ n := by rw [← hn]; exact Int.emod_nonneg _ (by decide)
        have n1 : n < 2147483647 := by rw [← hn]; exact Int.emod_lt_of_pos _ (by decide)
        refine ⟨_, rfl, _, rfl, _, _, rfl, rfl, ⟨by decide, by decide⟩, _, _, rfl, rfl, _, _, rfl, rfl, .inl ⟨by omega, by omega⟩, _, _, rfl, rfl, (by show (0 : Int) < 2147483629; decide), ?_⟩
        generalize hm : n * (n / 1009 + 69621) % 2147483629 = u
        have u0 : 0 ≤ u := by rw [← hm]; exact Int.emod_nonneg _ (by decide)
        have u1 : u < 2147483629 := by rw [← hm]; exact Int.emod_lt_of_pos _ (by decide)
        refine ⟨_, rfl, _, rfl, _, _, rfl, rfl, ⟨by decide, by decide⟩, _, _, rfl, rfl, _, _, rfl, rfl, .inl ⟨by omega, by omega⟩, _, _, rfl, rfl, (by show (0 : Int) < 2147483587; decide), _, rfl, _, _, rfl, rfl, m0, ?_⟩
        exact q _ _ (Int.emod_nonneg _ (by omega)) (Int.emod_lt_of_pos _ m0) SameBut.upd (fr _) ⟨_, _, _, upd_same, y0, y1, by omega, by omega⟩
end
end E1

namespace E1
open PySem PySem.Spec PyProof.Rows L2

def CalD (P : Program) (w : World) (K : PySem.W.Frag) (mg : Str → Option Value) (base : Heap) (k : Nat) (x : Str) (ps : List Str) (dvs : List V) (sp : Sp) : Prop :=
  ∃ (f : Addr) (fd : FuncData) (ds : List Value), mg x = some (.ref f) ∧ PySem.W.keepIn K (.ref f) = true ∧ Vals dvs ds ∧ Binds K fd ps ds ∧ FnOk P w K mg base CX0 k f fd ps sp
theorem pe_cald {X : Cx} {k j : Nat} {x : Str} {ps : List Str} {dvs : List V} {sp : Sp} {e : Expr} {es : List Expr} {t : TA} {p pos : Pos} (c : CalD X.prog X.w X.K X.mg X.base k x ps dvs sp) (hr : Room j X.A) (ha : PA X (e :: es) t) (hle : k ≤ j := by decide) (hg : Gl X x := by rfl)
    (hdb : (x == ("__debug__" : Str)) = false := by decide) (he : starEach (e :: es) X.env = (false, eval e X.env) :: starEach es X.env := by rfl) (hpl : (backTo pos (starEach es X.env)).any (·.1) = false := by rfl) :
    PE X (.Call (.Name x p) (e :: es) [] pos) (tCall sp dvs E0 t) := by
  obtain ⟨f, fd, ds, h1, h2, hd, h3, h4⟩ := c
  exact pe_call h4 (hr.mono hle) hg h1 h2 h3 hd pass0 ha hdb he hpl
def CalK (P : Program) (w : World) (K : PySem.W.Frag) (mg : Str → Option Value) (base : Heap) (k : Nat) (x : Str) (ps : List Str) (n : Nat) (ks : List Str) (gV : List V → List V → List V) (sp : Sp) : Prop :=
  ∃ (f : Addr) (fd : FuncData) (g : List Value → List Value → List Value), mg x = some (.ref f) ∧ PySem.W.keepIn K (.ref f) = true ∧ KBn K fd ps n ks g gV ∧ FnOk P w K mg base CX0 k f fd ps sp
theorem pe_calk {X : Cx} {k j n : Nat} {x : Str} {ps ks : List Str} {gV : List V → List V → List V} {sp : Sp} {e : Expr} {es : List Expr} {kws : List Keyword} {t tk : TA} {p pos : Pos} (c : CalK X.prog X.w X.K X.mg X.base k x ps n ks gV sp) (hr : Room j X.A)
    (ha : PA X (e :: es) t) (hkw : PK X kws tk) (hle : k ≤ j := by decide) (hg : Gl X x := by rfl) (hall : (backToKw pos (keywordEach kws X.env)).all (·.1.isSome) = true := by rfl) (hks : (backToKw pos (keywordEach kws X.env)).filterMap (·.1) = ks := by rfl)
    (hdb : (x == ("__debug__" : Str)) = false := by decide) (he : starEach (e :: es) X.env = (false, eval e X.env) :: starEach es X.env := by rfl)
    (hpl : ((backTo pos (starEach (e :: es) X.env)).any (·.1) || (backToKw pos (keywordEach kws X.env)).any (·.1.isNone)) = false := by rfl) :
    PE X (.Call (.Name x p) (e :: es) kws pos) (tCallN n ks.length sp gV E0 t tk) := by
  obtain ⟨f, fd, g, h1, h2, h3, h4⟩ := c
  exact pe_callN h4 (hr.mono hle) hg h1 h2 h3 pass0 ha hkw hall hks hdb he hpl
theorem pe_calk0 {X : Cx} {k j : Nat} {x : Str} {ps ks : List Str} {gV : List V → List V → List V} {sp : Sp} {kws : List Keyword} {tk : TA} {p pos : Pos} (c : CalK X.prog X.w X.K X.mg X.base k x ps 0 ks gV sp) (hr : Room j X.A)
    (hkw : PK X kws tk) (hle : k ≤ j := by decide) (hg : Gl X x := by rfl) (hall : (backToKw pos (keywordEach kws X.env)).all (·.1.isSome) = true := by rfl) (hks : (backToKw pos (keywordEach kws X.env)).filterMap (·.1) = ks := by rfl)
    (hdb : (x == ("__debug__" : Str)) = false := by decide)
    (hpl : ((backTo pos (starEach [] X.env)).any (·.1) || (backToKw pos (keywordEach kws X.env)).any (·.1.isNone)) = false := by rfl) :
    PE X (.Call (.Name x p) [] kws pos) (tCallN 0 ks.length sp gV E0 tNil tk) := by
  obtain ⟨f, fd, g, h1, h2, h3, h4⟩ := c
  refine ⟨fun pins s σ H Q I h => ?_⟩
  refine wpAny_Call_Name_kw (ld_glob I hg h1 ?_ hdb)
  refine PySem.W.callWith_KW0 (h₀ := X.base) I.ok.mod.kin h2 hall (thn (hkw.run pos pins s σ H _ I h) fun ws s2 ⟨zs, H2, I2, rz, l1, l2, q2⟩ => ⟨I2.kIn, ?_⟩) hpl
  rw [hks]
  exact run_fnN (vs := []) (us := []) h4 (hr.mono hle) h3 pass0 I2 .nil rz l1 l2 q2
/-- a class handed to isinstance -/
theorem isiB {K : PySem.W.Frag} {H : Hp} {x : V} {a b : String} {r : Bool} {Q : VK} (ty : TyX K H x (.type a)) (k : kitB a b = some r) (q : Q (.bl r) H) : rIsi K [x, .ty b] H Q :=
  ⟨x, .ty b, .type a, .type b, r, rfl, .ty _, ty, kit_ty k, q⟩
/-- whether a thing is a whole number -/
def WholeIs (K : PySem.W.Frag) (H : Hp) (x : V) (b : Bool) : Prop := (∃ i, x = .int i ∧ b = true) ∨ (∃ c, x = .bl c ∧ b = false) ∨ (b = false ∧ ∃ t : String, TyX K H x (.type t) ∧ kitB t "int" = some false)
theorem WholeIs.int {K : PySem.W.Frag} {H : Hp} (i : Int) : WholeIs K H (.int i) true := .inl ⟨i, rfl, rfl⟩
def spWhole (K : PySem.W.Frag) : Sp := fun vs H Q _ => ∃ (x : V) (b : Bool), vs = [x] ∧ WholeIs K H x b ∧ Q (.bl b) H
/-! ### the mathematics of fractions in lowest terms -/
def gI (t b : Int) : Int := (Int.gcd t b : Nat)
def lowT (t b : Int) : Int := (if b < 0 then -t else t) / gI t b
def lowB (t b : Int) : Int := (if b < 0 then -b else b) / gI t b
theorem gI_neg (t b : Int) : gI (-t) (-b) = gI t b := by
  unfold gI
  rw [Int.neg_gcd, Int.gcd_neg]
theorem gI_pos {t b : Int} (h : b ≠ 0) : 0 < gI t b := by
  have : 0 < Int.gcd t b := Int.gcd_pos_of_ne_zero_right t h
  unfold gI
  omega
theorem gI_le {t b : Int} (h : b ≠ 0) : (gI t b).natAbs ≤ b.natAbs := by
  have d : Int.gcd t b ∣ b.natAbs := Nat.gcd_dvd_right t.natAbs b.natAbs
  have := Nat.le_of_dvd (by omega) d
  unfold gI
  omega
def spShared : Sp := fun vs H Q _ => ∃ t b : Int, vs = [.int t, .int b] ∧ 0 ≤ b ∧ Q (.int (gI t b)) H
def spLow : Sp := fun vs H Q _ => ∃ t b : Int, vs = [.int t, .int b] ∧ b ≠ 0 ∧ b.natAbs < 2 ^ 4000 ∧ ∀ p, H p = none → Q (.ref p) (upd H p (.tup [.int (lowT t b), .int (lowB t b)]))
/-- two fractions at two places; the tops and bottoms told by f and d -/
def spTwo (K : PySem.W.Frag) (pre : Int → Int → Int → Int → Prop) (f d : Int → Int → Int → Int → Int) : Sp := fun vs H Q _ => ∃ (a c : Addr) (t u v x : Int), vs = [.ref a, .ref c] ∧ SqT K H a [.int t, .int u] ∧ SqT K H c [.int v, .int x] ∧
  pre t u v x ∧ 0 < u ∧ 0 < x ∧ t.natAbs < 2 ^ 1900 ∧ u.natAbs < 2 ^ 1900 ∧ v.natAbs < 2 ^ 1900 ∧ x.natAbs < 2 ^ 1900 ∧ ∀ p, H p = none → Q (.ref p) (upd H p (.tup [.int (lowT (f t u v x) (d t u v x)), .int (lowB (f t u v x) (d t u v x))]))
def spUnder (K : PySem.W.Frag) : Sp := fun vs H Q _ => ∃ (a c : Addr) (t u v x : Int), vs = [.ref a, .ref c] ∧ SqT K H a [.int t, .int u] ∧ SqT K H c [.int v, .int x] ∧
  t.natAbs < 2 ^ 1900 ∧ u.natAbs < 2 ^ 1900 ∧ v.natAbs < 2 ^ 1900 ∧ x.natAbs < 2 ^ 1900 ∧ Q (.bl (decide (t * x < v * u))) H
def absI (t : Int) : Int := if t < 0 then -t else t
def spSize (K : PySem.W.Frag) : Sp := fun vs H Q _ => ∃ (a : Addr) (t u : Int), vs = [.ref a] ∧ SqT K H a [.int t, .int u] ∧ ∀ p, H p = none → Q (.ref p) (upd H p (.tup [.int (absI t), .int u]))
def twoT (m : Int) : Int := if m < 0 then 1 else 2 ^ m.toNat
def twoB (m : Int) : Int := if m < 0 then 2 ^ (-m).toNat else 1
def spTwoTo : Sp := fun vs H Q _ => ∃ m : Int, vs = [.int m] ∧ -400 ≤ m ∧ m ≤ 400 ∧ ∀ p, H p = none → Q (.ref p) (upd H p (.tup [.int (twoT m), .int (twoB m)]))
def spIsFrac : Sp := fun vs H Q _ => ∃ (a : Addr) (t u : Int), vs = [.ref a] ∧ H a = some (.tup [.int t, .int u]) ∧ 1 ≤ u ∧ Q (.bl (decide (gI t u = 1))) H
theorem up {x : Nat} {a b : Nat} (h : x < 2 ^ a) (l : a ≤ b) : x < 2 ^ b := Nat.lt_of_lt_of_le h (Nat.pow_le_pow_right (by decide) l)
theorem same_but {H H1 H2 : Hp} {p : Addr} (s : Same H H1) (b : SameBut p H1 H2) (hp : H p = none) : Same H H2 := fun a o e => b a o (ne_of_none e hp) (s a o e)
structure Zs (mg : Str → Option Value) : Prop where
  isinstance : mg "isinstance" = none
  int : mg "int" = none
  bool : mg "bool" = none
  tuple : mg "tuple" = none
  len : mg "len" = none
  abs : mg "abs" = none
  ValueError : mg "ValueError" = none
  str : mg "str" = none
  all : mg "all" = none
section
variable {P : Program} {w : World} {K : PySem.W.Frag} {mg : Str → Option Value} {base : Heap}
theorem sc_is_whole : FnScope ["thing"] ["thing"] (defScope s_is_whole) := ⟨rfl, rfl, rfl, by decide +kernel, rfl, by decide +kernel, by decide +kernel⟩
theorem ok_is_whole {f : Addr} {fd : FuncData} {k : Nat} (F : Fun K "is_whole" "is_whole" s_is_whole f fd) (z : Zs mg) : FnOk P w K mg base CX0 (k + 1) f fd ["thing"] (spWhole K) := by
  refine F.ok sc_is_whole (fun vs H Q E h => ?_) (fun cdv A outer s H vs Q E hr h => ?_)
  · obtain ⟨x, b, rfl, _⟩ := h
    rfl
  · obtain ⟨x, b, rfl, hw, q⟩ := h
    refine ⟨_, (pss_one (ps_ret (pe_and (pe_callB call_isi (by rfl) z.isinstance (by decide +kernel) (pa_cons (pv 0) (pa_cons (pe_bltn (v := .ty "int") (by rfl) z.int (by decide +kernel) rfl) pa_nil))) (pe_one (pe_not (pe_callB call_isi (by rfl) z.isinstance (by decide +kernel) (pa_cons (pv 0) (pa_cons (pe_bltn (v := .ty "bool") (by rfl) z.bool (by decide +kernel) rfl) pa_nil)))))))), ?_⟩
    rcases hw with ⟨i, rfl, rfl⟩ | ⟨c, rfl, rfl⟩ | ⟨rfl, t, ty, kt⟩
    · exact ⟨_, rfl, _, .ty "int", _, _, true, rfl, .ty _, .base (.int i), kit_ty (by decide +kernel), _, rfl, iteT ⟨_, rfl, _, .ty "bool", _, _, false, rfl, .ty _, .base (.int i), kit_ty (by decide +kernel), _, rfl, q⟩⟩
    · exact ⟨_, rfl, _, .ty "int", _, _, true, rfl, .ty _, .base (.bl c), kit_ty (by decide +kernel), _, rfl, iteT ⟨_, rfl, _, .ty "bool", _, _, true, rfl, .ty _, .base (.bl c), kit_ty (by decide +kernel), _, rfl, q⟩⟩
    · exact ⟨_, rfl, _, .ty "int", _, _, false, rfl, .ty _, ty, kit_ty kt, _, rfl, iteF q⟩
theorem sc_shared_divisor : FnScope ["top", "bottom", "one", "other"] ["top", "bottom"] (defScope s_shared_divisor) := ⟨rfl, rfl, rfl, by decide +kernel, rfl, by decide +kernel, by decide +kernel⟩
theorem ok_shared_divisor {f : Addr} {fd : FuncData} {k : Nat} (F : Fun K "shared_divisor" "shared_divisor" s_shared_divisor f fd) (z : Zs mg) : FnOk P w K mg base CX0 (k + 1) f fd ["top", "bottom"] spShared := by
  refine F.ok sc_shared_divisor (fun vs H Q E h => ?_) (fun cdv A outer s H vs Q E hr h => ?_)
  · obtain ⟨t, b, rfl, _⟩ := h
    rfl
  · obtain ⟨t, b, rfl, hb, q⟩ := h
    refine ⟨_, (pss_cons (ps_set (i := 2) sc_shared_divisor.nd rfl (.inl rfl) (pe_callB call_abs (by rfl) z.abs (by decide +kernel) (pa_cons (pv 0) pa_nil)))
      (pss_cons (ps_set (i := 3) sc_shared_divisor.nd rfl (.inl rfl) (pv 1))
      (pss_cons (ps_while PassesOwn.never (pt_truth (pv 3) (by intro _; rfl)) (pss_one (ps_par (i := 2) (j := 3) (by rfl) sc_shared_divisor.nd rfl rfl (by decide) rfl rfl (pa_cons (pv 3) (pa_cons (pe_op op_mod (pv 2) (pv 3)) pa_nil)) (by rfl))))
      (pss_one (ps_ret (pv 2)))))), ?_⟩
    refine ⟨_, rfl, _, rfl, ?_⟩
    refine ⟨_, rfl, ?_⟩
    dsimp only [gName, tSeq]
    refine while_by (fun σ H' => H' = H ∧ ∃ m n : Nat, σ = [some (.int t), some (.int b), some (.int (m : Int)), some (.int (n : Int))] ∧ Nat.gcd m n = Int.gcd t b)
      (fun σ _ => match σ with | [_, _, _, some (.int r)] => r.toNat | _ => 0) ⟨rfl, t.natAbs, b.natAbs, ?_, rfl⟩ (fun σ H1 hP => ?_) (fun σ H Q Q' m hh => ?_)
    · have e1 : (if t < 0 then -t else t) = (t.natAbs : Int) := by split <;> omega
      have e2 : b = (b.natAbs : Int) := by omega
      show [some (V.int t), some (V.int b), some (V.int (if t < 0 then -t else t)), some (V.int b)] = _
      rw [e1, ← e2]
    · obtain ⟨rfl, m, n, rfl, hg⟩ := hP
      refine ⟨_, rfl, _, rfl, ?_⟩
      by_cases hn : n = 0
      · subst hn
        have e : ((((0 : Nat) : Int)) != 0) = false := rfl
        rw [e]
        refine iteF ⟨_, rfl, ?_⟩
        rw [Nat.gcd_zero_right] at hg
        have e2 : (m : Int) = gI t b := by
          unfold gI
          rw [hg]
        rw [e2]
        exact q
      · have e : ((n : Int) != 0) = true := by
          rw [bne_iff_ne]
          omega
        rw [e]
        refine iteT ⟨_, rfl, _, rfl, _, rfl, _, _, rfl, rfl, (by omega), _, _, rfl, ⟨⟨rfl, n, m % n, rfl, ?_⟩, ?_⟩⟩
        · rw [← hg, Nat.gcd_comm n (m % n), ← Nat.gcd_rec n m, Nat.gcd_comm]
        · show ((m : Int) % (n : Int)).toNat < ((n : Int)).toNat
          have := Int.emod_lt_of_pos (m : Int) (show (0 : Int) < n by omega)
          have := Int.emod_nonneg (m : Int) (show (n : Int) ≠ 0 by omega)
          omega
    · obtain ⟨v, e, kk, tv, hq⟩ := hh
      exact ⟨v, e, kk, tv, m _ _ hq⟩
theorem sc_lowest : FnScope ["top", "bottom", "shared"] ["top", "bottom"] (defScope s_lowest) := ⟨rfl, rfl, rfl, by decide +kernel, rfl, by decide +kernel, by decide +kernel⟩
theorem ok_lowest {f : Addr} {fd : FuncData} (F : Fun K "lowest" "lowest" s_lowest f fd) (c_shared_divisor : Cal P w K mg base 1 "shared_divisor" ["top", "bottom"] spShared) : FnOk P w K mg base CX0 2 f fd ["top", "bottom"] spLow := by
  refine F.ok sc_lowest (fun vs H Q E h => ?_) (fun cdv A outer s H vs Q E hr h => ?_)
  · obtain ⟨t, b, rfl, _⟩ := h
    rfl
  · obtain ⟨t, b, rfl, hb, hl, q⟩ := h
    refine ⟨_, (pss_cons (ps_if (pt_cmpR op_lt (pv 1) pe_int (nomark _)) (pss_cons (ps_set (i := 0) sc_lowest.nd rfl (.inl rfl) (pe_un un_neg (pv 0)))
      (pss_one (ps_set (i := 1) sc_lowest.nd rfl (.inl rfl) (pe_un un_neg (pv 1))))) pss_nil)
      (pss_cons (ps_set (i := 2) sc_lowest.nd rfl (.inl rfl) (pe_cal c_shared_divisor hr (pa_cons (pv 0) (pa_cons (pv 1) pa_nil))))
      (pss_one (ps_ret (pe_tup (pa_cons (pe_op op_fdivW (pv 0) (pv 2)) (pa_cons (pe_op op_fdivW (pv 1) (pv 2)) pa_nil))))))), ?_⟩
    have g0 := gI_pos (t := t) hb
    have g1 : (gI t b).natAbs < 2 ^ 4000 := Nat.lt_of_le_of_lt (gI_le hb) hl
    refine ⟨_, rfl, _, _, rfl, rfl, _, rfl, ite2 (fun c => ?_) (fun c => ?_)⟩
    · have hc := toB c
      refine ⟨_, rfl, _, rfl, ?_⟩
      refine ⟨_, rfl, _, rfl, ?_⟩
      refine ⟨_, rfl, _, rfl, -t, -b, rfl, by omega, ?_⟩
      rw [gI_neg]
      refine ⟨_, rfl, _, rfl, _, _, rfl, rfl, wide_div g0 g1 (by decide) (by decide), _, rfl, _, rfl, _, _, rfl, rfl, wide_div g0 g1 (by decide) (by decide), (by show 2 ≤ sizeLine; decide), fun p hp => ?_⟩
      have := q p hp
      unfold lowT lowB at this
      rw [if_pos hc, if_pos hc] at this
      exact this
    · have hc := toNB c
      refine ⟨_, rfl, _, rfl, t, b, rfl, by omega, ?_⟩
      refine ⟨_, rfl, _, rfl, _, _, rfl, rfl, wide_div g0 g1 (by decide) (by decide), _, rfl, _, rfl, _, _, rfl, rfl, wide_div g0 g1 (by decide) (by decide), (by show 2 ≤ sizeLine; decide), fun p hp => ?_⟩
      have := q p hp
      unfold lowT lowB at this
      rw [if_neg hc, if_neg hc] at this
      exact this
end
end E1

namespace E1
open PySem PySem.Spec PyProof.Rows L2

theorem iteN {c A B : Prop} [Decidable c] (h1 : ¬ c → A) (h2 : c → B) : if (!decide c) = true then A else B := by
  by_cases h : c
  · rw [decide_eq_true h]
    exact iteF (h2 h)
  · rw [decide_eq_false h]
    exact iteT (h1 h)
theorem iteC {c d : Bool} {A B : Prop} (e : c = d) (h : if d = true then A else B) : if c = true then A else B := by
  rw [e]
  exact h
/-- what stands above an error of one's own under ArithmeticError -/
abbrev bmA : List Value := [.type "ArithmeticError", .type "Exception", .type "BaseException", .type "object"]
/-- facts of the class NoFraction -/
structure NoF (K : PySem.W.Frag) (mg : Str → Option Value) (CN : Addr) : Prop where
  g : mg "NoFraction" = some (.ref CN)
  x : PySem.W.excIn K CN bmA "ArithmeticError.__new__" = true
  k : PySem.W.keepIn K (.ref CN) = true
  b : PySem.W.subIn K (.ref CN) (.type "BaseException") = some true
  t : PySem.W.typeIn K (.ref CN) = some (.type "type")
def spFracX (K : PySem.W.Frag) (CN : Addr) : Sp := fun vs H Q E => ∃ (x y : V) (bx by_ : Bool), vs = [x, y] ∧ WholeIs K H x bx ∧ WholeIs K H y by_ ∧
  ((∃ t b : Int, x = .int t ∧ y = .int b ∧ b ≠ 0 ∧ b.natAbs < 2 ^ 4000 ∧ ∀ p, H p = none → Q (.ref p) (upd H p (.tup [.int (lowT t b), .int (lowB t b)]))) ∨ ((bx = false ∨ by_ = false ∨ y = .int 0) ∧ E (.ref CN) none H))
def spDivX (K : PySem.W.Frag) (CN : Addr) : Sp := fun vs H _ E => ∃ (a c : Addr) (u : V), vs = [.ref a, .ref c] ∧ SqT K H c [.int 0, u] ∧ E (.ref CN) none H
def spTwoX (K : PySem.W.Frag) (CN : Addr) : Sp := fun vs H _ E => ∃ x : V, vs = [x] ∧ (WholeIs K H x false ∨ ∃ m : Int, x = .int m ∧ 400 < (if m < 0 then -m else m)) ∧ E (.ref CN) none H
/-- whether a thing is a fraction -/
def FracIs (K : PySem.W.Frag) (H : Hp) (x : V) (b : Bool) : Prop :=
  (b = false ∧ ∃ t : String, TyX K H x (.type t) ∧ kitB t "tuple" = some false) ∨
  (b = false ∧ ∃ a xs, x = .ref a ∧ H a = some (.tup xs) ∧ xs.length ≠ 2) ∨
  (b = false ∧ ∃ a u v bu bv, x = .ref a ∧ H a = some (.tup [u, v]) ∧ WholeIs K H u bu ∧ WholeIs K H v bv ∧ (bu = false ∨ bv = false)) ∨
  ∃ a t n, x = .ref a ∧ H a = some (.tup [.int t, .int n]) ∧ b = (decide (1 ≤ n) && decide (gI t n = 1))
def spIsF (K : PySem.W.Frag) : Sp := fun vs H Q _ => ∃ (x : V) (b : Bool), vs = [x] ∧ FracIs K H x b ∧ Q (.bl b) H
theorem WholeIs.tt {K : PySem.W.Frag} {H : Hp} {x : V} (h : WholeIs K H x true) : ∃ i, x = .int i := by
  rcases h with ⟨i, e, _⟩ | ⟨_, _, e⟩ | ⟨e, _⟩
  · exact ⟨i, e⟩
  · cases e
  · cases e
/-- what is no number: nothing, a truth, a text, a tuple, a list, a dict -/
inductive Bd (H : Hp) : V → Prop where
  | non : Bd H .non
  | bl (b : Bool) : Bd H (.bl b)
  | str (y : Str) : Bd H (.str y)
  | two {p : Addr} (e : H p = some (.tup [.int 7, .int 0])) : Bd H (.ref p)
  | bare {p : Addr} (e : H p = some (.tup [])) : Bd H (.ref p)
  | lst {p : Addr} {xs : List V} (e : H p = some (.lst xs)) : Bd H (.ref p)
  | dK {p : Addr} {kv : List (Key × V)} (e : H p = some (.dK kv)) : Bd H (.ref p)
theorem Bd.keep {H H' : Hp} {x : V} (h : Bd H x) (k : ∀ p o, x = .ref p → H p = some o → (∀ ps, o ≠ .tbl ps) → H' p = some o) : Bd H' x := by
  cases h with
  | non => exact .non
  | bl b => exact .bl b
  | str y => exact .str y
  | two e => exact .two (k _ _ rfl e (fun _ z => nomatch z))
  | bare e => exact .bare (k _ _ rfl e (fun _ z => nomatch z))
  | lst e => exact .lst (k _ _ rfl e (fun _ z => nomatch z))
  | dK e => exact .dK (k _ _ rfl e (fun _ z => nomatch z))
theorem Bd.same {H H' : Hp} {x : V} (h : Bd H x) (s : Same H H') : Bd H' x := h.keep fun p o _ e _ => s p o e
theorem Bd.whole {K : PySem.W.Frag} {H : Hp} {x : V} (h : Bd H x) : WholeIs K H x false := by
  cases h with
  | non => exact .inr (.inr ⟨rfl, _, .base .non, by decide +kernel⟩)
  | bl b => exact .inr (.inl ⟨b, rfl, rfl⟩)
  | str y => exact .inr (.inr ⟨rfl, _, .base (.str y), by decide +kernel⟩)
  | two e => exact .inr (.inr ⟨rfl, _, .base (.tup e), by decide +kernel⟩)
  | bare e => exact .inr (.inr ⟨rfl, _, .base (.tup e), by decide +kernel⟩)
  | lst e => exact .inr (.inr ⟨rfl, _, .base (.lst e), by decide +kernel⟩)
  | dK e => exact .inr (.inr ⟨rfl, _, .base (.dK e), by decide +kernel⟩)
theorem Bd.frac {K : PySem.W.Frag} {H : Hp} {x : V} (h : Bd H x) : FracIs K H x false := by
  cases h with
  | non => exact .inl ⟨rfl, _, .base .non, by decide +kernel⟩
  | bl b => exact .inl ⟨rfl, _, .base (.bl b), by decide +kernel⟩
  | str y => exact .inl ⟨rfl, _, .base (.str y), by decide +kernel⟩
  | two e => exact .inr (.inr (.inr ⟨_, 7, 0, rfl, e, rfl⟩))
  | bare e => exact .inr (.inl ⟨rfl, _, [], rfl, e, by decide⟩)
  | lst e => exact .inl ⟨rfl, _, .base (.lst e), by decide +kernel⟩
  | dK e => exact .inl ⟨rfl, _, .base (.dK e), by decide +kernel⟩
theorem bad_at {H : Hp} {p1 p2 p3 p4 : Addr} {y : Str} {xs : List V} {kv : List (Key × V)} {r : Int} (h0 : 0 ≤ r) (h1 : r < 9) (e1 : H p1 = some (.tup [.int 7, .int 0])) (e2 : H p2 = some (.lst xs)) (e3 : H p3 = some (.dK kv)) (e4 : H p4 = some (.tup [])) :
    ∃ v, atI [.non, .bl true, .bl false, .str y, .ref p1, .ref p2, .ref p3, .str "", .ref p4] r = some v ∧ Bd H v ∧ ∀ p, v = .ref p → p = p1 ∨ p = p2 ∨ p = p3 ∨ p = p4 := by
  rcases (by omega : r = 0 ∨ r = 1 ∨ r = 2 ∨ r = 3 ∨ r = 4 ∨ r = 5 ∨ r = 6 ∨ r = 7 ∨ r = 8) with rfl | rfl | rfl | rfl | rfl | rfl | rfl | rfl | rfl
  · exact ⟨_, rfl, .non, fun p e => by cases e⟩
  · exact ⟨_, rfl, .bl _, fun p e => by cases e⟩
  · exact ⟨_, rfl, .bl _, fun p e => by cases e⟩
  · exact ⟨_, rfl, .str _, fun p e => by cases e⟩
  · exact ⟨_, rfl, .two e1, fun p e => by cases e; exact .inl rfl⟩
  · exact ⟨_, rfl, .lst e2, fun p e => by cases e; exact .inr (.inl rfl)⟩
  · exact ⟨_, rfl, .dK e3, fun p e => by cases e; exact .inr (.inr (.inl rfl))⟩
  · exact ⟨_, rfl, .str _, fun p e => by cases e⟩
  · exact ⟨_, rfl, .bare e4, fun p e => by cases e; exact .inr (.inr (.inr rfl))⟩
theorem Same.free {H H' : Hp} {p : Addr} (s : Same H H') (h : H' p = none) : H p = none := by
  cases e : H p with
  | none => rfl
  | some o =>
    rw [s _ _ e] at h
    cases h
def spBad : Sp := fun vs H Q _ => ∃ k : Int, vs = [.int k, .int 7] ∧ ∀ (x : V) (H' : Hp), Same H H' → Bd H' x → (∀ p, x = .ref p → H p = none) → Q x H'
section
variable {P : Program} {w : World} {K : PySem.W.Frag} {mg : Str → Option Value} {base : Heap}
theorem sc_fraction : FnScope ["top", "bottom"] ["top", "bottom"] (defScope s_fraction) := ⟨rfl, rfl, rfl, by decide +kernel, rfl, by decide +kernel, by decide +kernel⟩
theorem ok_fraction {f : Addr} {fd : FuncData} {dvs : List V} {CN : Addr} (NF : NoF K mg CN) (F : FunD K "fraction" "fraction" (defArgs s_fraction) (defBody s_fraction) (defScope s_fraction) dvs [] f fd) (c_is_whole : Cal P w K mg base 1 "is_whole" ["thing"] (spWhole K)) (c_lowest : Cal P w K mg base 2 "lowest" ["top", "bottom"] spLow) : FnOk P w K mg base (L2.CX P w) 3 f fd ["top", "bottom"] (spFracX K CN) := by
  refine F.ok (CX := L2.CX P w) sc_fraction (fun vs H Q E h => ?_) (fun cdv A outer s H vs Q E hr h => ?_)
  · obtain ⟨x, y, bx, by_, rfl, _⟩ := h
    rfl
  · obtain ⟨x, y, bx, by_, rfl, hx, hy, h⟩ := h
    rcases h with ⟨t, b, rfl, rfl, hb, hl, q⟩ | ⟨hbad, q⟩
    · refine ⟨_, PSs.nox (pss_cons (ps_if (PW.pt (pw_or (pt_not (pt_val (pe_cal c_is_whole hr (pa_cons (pv 0) pa_nil)))) (pw_or (pt_not (pt_val (pe_cal c_is_whole hr (pa_cons (pv 1) pa_nil)))) (pw_or1 (pt_cmpR op_eq (pv 1) pe_int (nomark _)))))) (pss_one ps_never) pss_nil)
      (pss_one (ps_ret (pe_cal c_lowest hr (pa_cons (pv 0) (pa_cons (pv 1) pa_nil)))))), ?_⟩
      refine ⟨_, rfl, _, _, rfl, .int t, _, rfl, iteF ⟨_, rfl, _, _, rfl, .int b, _, rfl, iteF ⟨_, rfl, rfl, _, rfl, ite2 (fun c => ?_) (fun c => ?_)⟩⟩⟩
      · exact absurd (V.int.inj (toB c)) hb
      · exact ⟨_, rfl, _, rfl, t, b, rfl, hb, hl, q⟩
    · refine ⟨_, (pss_cons (ps_if (PW.pt (pw_or (pt_not (pt_val (pe_cal c_is_whole hr (pa_cons (pv 0) pa_nil)))) (pw_or (pt_not (pt_val (pe_cal c_is_whole hr (pa_cons (pv 1) pa_nil)))) (pw_or1 (pt_cmpR op_eq (pv 1) pe_int (nomark _)))))) (pss_one (ps_raise rfl (takes_of rfl rfl rfl rfl) (pmk_own PySem.F.excBase_ArithmeticError NF.x NF.g NF.k (raises_own NF.b NF.t) rfl))) pss_nil) (pss_one ps_never)), ?_⟩
      refine ⟨_, rfl, _, bx, rfl, hx, _, rfl, ?_⟩
      cases bx with
      | false => exact iteT q
      | true =>
        refine iteF ⟨_, rfl, _, by_, rfl, hy, _, rfl, ?_⟩
        cases by_ with
        | false => exact iteT q
        | true =>
          rcases hbad with z | z | rfl
          · cases z
          · cases z
          · exact iteF ⟨_, rfl, rfl, _, rfl, iteT q⟩
theorem sc_divided : FnScope ["one", "other"] ["one", "other"] (defScope s_divided) := ⟨rfl, rfl, rfl, by decide +kernel, rfl, by decide +kernel, by decide +kernel⟩
theorem ok_divided {f : Addr} {fd : FuncData} {CN : Addr} (NF : NoF K mg CN) (F : Fun K "divided" "divided" s_divided f fd) : FnOk P w K mg base (L2.CX P w) 1 f fd ["one", "other"] (spDivX K CN) := by
  refine F.okX sc_divided (fun vs H Q E h => ?_) (fun cdv A outer s H vs Q E hr h => ?_)
  · obtain ⟨a, c, u, rfl, _⟩ := h
    rfl
  · obtain ⟨a, c, u, rfl, hc, q⟩ := h
    refine ⟨_, (pss_cons (ps_if (pt_cmpR op_eq (pe_ix ix_tup (pv 1) pe_int (fun _ _ => rfl)) pe_int (nomark _)) (pss_one (ps_raise rfl (takes_of rfl rfl rfl rfl) (pmk_own PySem.F.excBase_ArithmeticError NF.x NF.g NF.k (raises_own NF.b NF.t) rfl))) pss_nil) (pss_one ps_never)), ?_⟩
    exact ⟨_, rfl, c, _, 0, .int 0, rfl, rfl, hc, a0, rfl, _, rfl, iteT q⟩
theorem sc_two_to : FnScope ["many"] ["many"] (defScope s_two_to) := ⟨rfl, rfl, rfl, by decide +kernel, rfl, by decide +kernel, by decide +kernel⟩
theorem ok_two_to {f : Addr} {fd : FuncData} {CN : Addr} (NF : NoF K mg CN) (F : Fun K "two_to" "two_to" s_two_to f fd) (z : Zs mg) (c_is_whole : Cal P w K mg base 1 "is_whole" ["thing"] (spWhole K)) (g_GREATEST_POWER : ∃ t, mg "GREATEST_POWER" = some (.int 400 t)) : FnOk P w K mg base (L2.CX P w) 2 f fd ["many"] (spTwoX K CN) := by
  obtain ⟨tok, gP⟩ := g_GREATEST_POWER
  refine F.okX sc_two_to (fun vs H Q E h => ?_) (fun cdv A outer s H vs Q E hr h => ?_)
  · obtain ⟨x, rfl, _⟩ := h
    rfl
  · obtain ⟨x, rfl, hx, q⟩ := h
    refine ⟨_, (pss_cons (ps_if (PW.pt (pw_or (pt_not (pt_val (pe_cal c_is_whole hr (pa_cons (pv 0) pa_nil)))) (pw_or1 (pt_cmpR op_gt (pe_callB call_abs (by rfl) z.abs (by decide +kernel) (pa_cons (pv 0) pa_nil)) (pe_glob (v := .int 400) (by rfl) gP ⟨_, rfl⟩) (nomark _))))) (pss_one (ps_raise rfl (takes_of rfl rfl rfl rfl) (pmk_own PySem.F.excBase_ArithmeticError NF.x NF.g NF.k (raises_own NF.b NF.t) rfl))) pss_nil) (pss_cons ps_never (pss_one ps_never))), ?_⟩
    rcases hx with hx | ⟨m, rfl, hm⟩
    · exact ⟨_, rfl, _, false, rfl, hx, _, rfl, iteT q⟩
    · refine ⟨_, rfl, _, true, rfl, .int m, _, rfl, iteF ⟨_, rfl, _, rfl, _, _, rfl, rfl, _, rfl, ite2 (fun c => q) (fun c => ?_)⟩⟩
      exact absurd (decide_eq_true hm) c
theorem sc_is_fraction : FnScope ["thing", "top", "bottom"] ["thing"] (defScope s_is_fraction) := ⟨rfl, rfl, rfl, by decide +kernel, rfl, by decide +kernel, by decide +kernel⟩
theorem ok_is_fraction {f : Addr} {fd : FuncData} (F : Fun K "is_fraction" "is_fraction" s_is_fraction f fd) (z : Zs mg) (c_is_whole : Cal P w K mg base 1 "is_whole" ["thing"] (spWhole K)) (c_shared_divisor : Cal P w K mg base 1 "shared_divisor" ["top", "bottom"] spShared) : FnOk P w K mg base CX0 2 f fd ["thing"] (spIsF K) := by
  refine F.ok sc_is_fraction (fun vs H Q E h => ?_) (fun cdv A outer s H vs Q E hr h => ?_)
  · obtain ⟨x, b, rfl, _⟩ := h
    rfl
  · obtain ⟨x, b, rfl, hx, q⟩ := h
    refine ⟨_, (pss_cons (ps_if (PW.pt (pw_or (pt_not (pt_val (pe_callB call_isi (by rfl) z.isinstance (by decide +kernel) (pa_cons (pv 0) (pa_cons (pe_bltn (v := .ty "tuple") (by rfl) z.tuple (by decide +kernel) rfl) pa_nil))))) (pw_or1 (pt_cmpR op_ne (pe_callB call_len_seq (by rfl) z.len PySem.boot_len (pa_cons (pv 0) pa_nil)) pe_int (nomark _))))) (pss_one (ps_ret pe_bl)) pss_nil)
      (pss_cons (ps_asg (pv 0) (pg_tup (by rfl) (pgs_cons (pg_name (i := 1) sc_is_fraction.nd rfl (.inl rfl)) (pgs_cons (pg_name (i := 2) sc_is_fraction.nd rfl (.inl rfl)) pgs_nil))))
      (pss_cons (ps_if (PW.pt (pw_or (pt_not (pt_val (pe_cal c_is_whole hr (pa_cons (pv 1) pa_nil)))) (pw_or (pt_not (pt_val (pe_cal c_is_whole hr (pa_cons (pv 2) pa_nil)))) (pw_or1 (pt_cmpR op_lt (pv 2) pe_int (nomark _)))))) (pss_one (ps_ret pe_bl)) pss_nil)
      (pss_one (ps_ret (pe_cmpR op_eq (pe_cal c_shared_divisor hr (pa_cons (pv 1) (pa_cons (pv 2) pa_nil))) pe_int (nomark _))))))), ?_⟩
    rcases hx with ⟨rfl, t, ty, kt⟩ | ⟨rfl, a, xs, rfl, ha, hl⟩ | ⟨rfl, a, u, v, bu, bv, rfl, ha, hu, hv, hb⟩ | ⟨a, t, n, rfl, ha, rfl⟩
    · exact ⟨_, rfl, _, .ty "tuple", _, _, false, rfl, .ty _, ty, kit_ty kt, _, rfl, iteT q⟩
    · refine ⟨_, rfl, _, .ty "tuple", _, _, true, rfl, .ty _, .base (.tup ha), kit_ty (by decide +kernel), _, rfl, iteF ⟨_, rfl, a, _, rfl, .inr (SqT.of ha), rfl, _, rfl, iteN (fun c => q) (fun c => ?_)⟩⟩
      have e : (xs.length : Int) = 2 := V.int.inj c
      exact absurd (by omega) hl
    · refine ⟨_, rfl, _, .ty "tuple", _, _, true, rfl, .ty _, .base (.tup ha), kit_ty (by decide +kernel), _, rfl, iteF ⟨_, rfl, a, _, rfl, .inr (SqT.of ha), rfl, _, rfl, iteF ?_⟩⟩
      refine ⟨_, rfl, a, _, rfl, SqT.of ha, rfl, _, _, rfl, _, _, rfl, rfl, ?_⟩
      refine ⟨_, rfl, _, bu, rfl, hu, _, rfl, ?_⟩
      cases bu with
      | false => exact iteT q
      | true =>
        refine iteF ⟨_, rfl, _, bv, rfl, hv, _, rfl, ?_⟩
        cases bv with
        | false => exact iteT q
        | true =>
          rcases hb with z | z
          · cases z
          · cases z
    · refine ⟨_, rfl, _, .ty "tuple", _, _, true, rfl, .ty _, .base (.tup ha), kit_ty (by decide +kernel), _, rfl, iteF ⟨_, rfl, a, _, rfl, .inr (SqT.of ha), rfl, _, rfl, iteF ?_⟩⟩
      refine ⟨_, rfl, a, _, rfl, SqT.of ha, rfl, _, _, rfl, _, _, rfl, rfl, ?_⟩
      refine ⟨_, rfl, _, _, rfl, .int t, _, rfl, iteF ⟨_, rfl, _, _, rfl, .int n, _, rfl, iteF ⟨_, rfl, _, _, rfl, rfl, _, rfl, ite2 (fun c => ?_) (fun c => ?_)⟩⟩⟩
      · have hn := toB c
        have e : (decide (1 ≤ n) && decide (gI t n = 1)) = false := by rw [decide_eq_false (by omega)]; rfl
        rw [e] at q
        exact q
      · have hn := toNB c
        refine ⟨_, rfl, _, rfl, t, n, rfl, by omega, rfl, ?_⟩
        have e : decide (V.int (gI t n) = V.int 1) = (decide (1 ≤ n) && decide (gI t n = 1)) := by
          rw [decide_eq_true (show 1 ≤ n by omega)]
          by_cases h : gI t n = 1
          · rw [h]
            rfl
          · rw [decide_eq_false h, decide_eq_false (fun z => h (V.int.inj z))]
            rfl
        rw [e]
        exact q
theorem sc__law_bad : FnScope ["_law_at", "_law_whole", "_law_some"] ["_law_at", "_law_whole"] (defScope s__law_bad) := ⟨rfl, rfl, rfl, by decide +kernel, rfl, by decide +kernel, by decide +kernel⟩
theorem ok__law_bad {f : Addr} {fd : FuncData} {k : Nat} (F : Fun K "_law_bad" "_law_bad" s__law_bad f fd) (z : Zs mg) : FnOk P w K mg base CX0 (k + 1) f fd ["_law_at", "_law_whole"] spBad := by
  refine F.ok sc__law_bad (fun vs H Q E h => ?_) (fun cdv A outer s H vs Q E hr h => ?_)
  · obtain ⟨k, rfl, _⟩ := h
    rfl
  · obtain ⟨k, rfl, q⟩ := h
    refine ⟨_, (pss_cons (ps_set (i := 2) sc__law_bad.nd rfl (.inl rfl) (pe_lst (pa_cons pe_non (pa_cons pe_bl (pa_cons pe_bl (pa_cons (pe_callTy call_str_int (by rfl) z.str (by decide +kernel) (pa_cons (pv 1) pa_nil)) (pa_cons (pe_tup (pa_cons (pv 1) (pa_cons pe_int pa_nil))) (pa_cons (pe_lst (pa_cons (pv 1) pa_nil)) (pa_cons pe_dnewK (pa_cons pe_str (pa_cons (pe_tup pa_nil) pa_nil)))))))))))
      (pss_one (ps_ret (pe_ix ix_list (pv 2) (pe_op op_mod (pv 0) (pe_callB call_len_seq (by rfl) z.len PySem.boot_len (pa_cons (pv 2) pa_nil))) (fun _ _ => rfl))))), ?_⟩
    refine ⟨_, rfl, _, rfl, (by decide), _, rfl, (by show 2 ≤ sizeLine; decide), fun p1 h1 => ⟨_, rfl, (by show 1 ≤ sizeLine; decide), fun p2 h2 p3 h3 => ⟨(by show 0 ≤ sizeLine; decide), fun p4 h4 => ⟨(by show 9 ≤ sizeLine; decide), fun L hL => ?_⟩⟩⟩⟩
    have s1 : Same H (upd H p1 (.tup [.int 7, .int 0])) := same_new h1
    have s2 := same_new (o := .lst [.int 7]) h2
    have s3 := same_new (o := .dK []) h3
    have s4 := same_new (o := .tup []) h4
    have S12 := s1.trans s2
    have S13 := S12.trans s3
    have S14 := S13.trans s4
    have n4 : H p4 = none := Same.free S13 h4
    have n3 : H p3 = none := Same.free S12 h3
    have n2 : H p2 = none := Same.free s1 h2
    refine ⟨_, rfl, _, rfl, _, rfl, L, _, rfl, .inl (SqL.of upd_same), k, _, rfl, rfl, (by show (0 : Int) < 9; decide), ?_⟩
    have sL := fun o => same_new (o := o) hL
    obtain ⟨v, hv, hb, hf⟩ := bad_at (H := upd (upd (upd (upd (upd H p1 (.tup [.int 7, .int 0])) p2 (.lst [.int 7])) p3 (.dK [])) p4 (.tup [])) L _) (r := k % 9) (Int.emod_nonneg _ (by decide)) (Int.emod_lt_of_pos _ (by decide)) (sL _ _ _ (s4 _ _ (s3 _ _ (s2 _ _ upd_same)))) (sL _ _ _ (s4 _ _ (s3 _ _ upd_same))) (sL _ _ _ (s4 _ _ upd_same)) (sL _ _ _ upd_same)
    refine ⟨L, _, _, v, rfl, rfl, SqL.of upd_same, hv, q v _ (S14.trans (sL _)) hb fun p e => ?_⟩
    rcases hf p e with rfl | rfl | rfl | rfl
    · exact h1
    · exact n2
    · exact n3
    · exact n4
end
end E1

namespace E1
open PySem PySem.Spec PyProof.Rows L2

/-- a def of the text with its code object -/
structure FunC (K : PySem.W.Frag) (x : Str) (st : Stmt) (f : Addr) (fd : FuncData) (c : Addr) : Prop where
  ex : ∃ (oc : Value) (od : Option Addr) (kV doc pm : Value) (an : Option Addr) (ct : Value) (osl : Array (Option Value)),
    fd = PySem.W.fnOf x x (defArgs st) (defBody st) (defScope st) .none kV doc pm an (.ref c) ct ∧ K.lookup f = some ⟨oc, od, .func fd, osl⟩ ∧ PySem.W.codeIn K (.ref c) x = true
theorem FunC.ok {P : Program} {w : World} {K : PySem.W.Frag} {mg : Str → Option Value} {base : Heap} {x : Str} {st : Stmt} {f c : Addr} {fd : FuncData} {N ps : List Str} {k : Nat} {sp : Sp} (F : FunC K x st f fd c) (S : FnScope N ps (defScope st)) (len : ∀ vs H Q E, sp vs H Q E → vs.length = ps.length)
    (hb : ∀ (A : Around) (out : List Env) (s : Shared) (H : Hp) (vs : List V) (Q : VK) (E : XK), Room k (A.deeper (envOfC x (defScope st) s.heap.objs.size f (.ref c))) → sp vs H Q E →
      ∃ t, PSs (cxOf CX0 P w K mg base N x (defScope st) f (.ref c) A out s H E).nox (defBody st) t ∧ t { nx := fun _ H' => Q .non H', rt := Q } (start N vs) H) : FnOk P w K mg base CX0 (k + 1) f fd ps sp := by
  obtain ⟨oc, od, kV, doc, pm, an, ct, osl, rfl, lk, hcd⟩ := F.ex
  exact fn_of lk hcd S len fun A out s H vs Q E hr hsp => let ⟨t, h, q⟩ := hb A out s H vs Q E hr hsp; ⟨t, h.nox, q⟩
theorem got_of {K : PySem.W.Frag} {mg : Str → Option Value} {x a : Str} {st : Stmt} {Ng : List Str} {g : Addr} {fd : FuncData} (F : Fun K x x st g fd) (gm : mg x = some (.ref g)) (b : Binds K fd [a] []) (sc : FnScope Ng [a] (defScope st)) (n0 : Ng[0]? = some a) (vs : Vis (defScope st) a) : ∃ cdg, GotFn K mg x a st Ng g cdg := by
  have all := F.ex
  rcases all with ⟨_, _, _, _, _, _, cdv, _, _, e, at_, named⟩
  subst e
  exact ⟨cdv, gm, F.kp, ⟨_, _, _, _, _, _, _, _, _, at_, b⟩, named, sc, n0, vs⟩
/-! ### calls within a lambda that may raise -/
section
variable {X : Cx} {k j n : Nat} {x : Str} {ps ks : List Str} {dvs : List V} {sp : Sp} {e : Expr} {es : List Expr} {t tk : TA} {p pos : Pos} {gV : List V → List V → List V} {kws : List Keyword} {E : XK}
theorem pe_calxL (c : CalX X.prog X.w X.K X.mg X.base k x ps dvs sp) (hr : Room j X.A) (tk : Takes X (fun cls d _ H => E cls d H)) (ha : PA X (e :: es) t) (hle : k ≤ j := by decide) (hg : Gl X x := by rfl) (hdb : (x == ("__debug__" : Str)) = false := by decide)
    (he : starEach (e :: es) X.env = (false, eval e X.env) :: starEach es X.env := by rfl) (hpl : (backTo pos (starEach es X.env)).any (·.1) = false := by rfl) : PE X (.Call (.Name x p) (e :: es) [] pos) (tCall sp dvs E t) := by
  rcases c with ⟨f, fd, ds, at_, kept, dv, bd, ok⟩
  exact pe_call ok (hr.mono hle) hg at_ kept bd dv (passes_call tk fun _ _ _ _ z => z) ha hdb he hpl
theorem pe_calxLk (c : CalXK X.prog X.w X.K X.mg X.base k x ps n ks gV sp) (hr : Room j X.A) (tk' : Takes X (fun cls d _ H => E cls d H)) (ha : PA X (e :: es) t) (hkw : PK X kws tk) (hle : k ≤ j := by decide) (hg : Gl X x := by rfl)
    (hall : (backToKw pos (keywordEach kws X.env)).all (·.1.isSome) = true := by rfl) (hks : (backToKw pos (keywordEach kws X.env)).filterMap (·.1) = ks := by rfl) (hdb : (x == ("__debug__" : Str)) = false := by decide)
    (he : starEach (e :: es) X.env = (false, eval e X.env) :: starEach es X.env := by rfl) (hpl : ((backTo pos (starEach (e :: es) X.env)).any (·.1) || (backToKw pos (keywordEach kws X.env)).any (·.1.isNone)) = false := by rfl) :
    PE X (.Call (.Name x p) (e :: es) kws pos) (tCallN n ks.length sp gV E t tk) := by
  rcases c with ⟨f, fd, g, at_, kept, bd, ok⟩
  exact pe_callN ok (hr.mono hle) hg at_ kept bd (passes_call tk' fun _ _ _ _ z => z) ha hkw hall hks hdb he hpl
theorem pe_calxL0 (c : CalXK X.prog X.w X.K X.mg X.base k x ps 0 ks gV sp) (hr : Room j X.A) (tk' : Takes X (fun cls d _ H => E cls d H)) (hkw : PK X kws tk) (hle : k ≤ j := by decide) (hg : Gl X x := by rfl)
    (hall : (backToKw pos (keywordEach kws X.env)).all (·.1.isSome) = true := by rfl) (hks : (backToKw pos (keywordEach kws X.env)).filterMap (·.1) = ks := by rfl) (hdb : (x == ("__debug__" : Str)) = false := by decide)
    (hpl : ((backTo pos (starEach [] X.env)).any (·.1) || (backToKw pos (keywordEach kws X.env)).any (·.1.isNone)) = false := by rfl) :
    PE X (.Call (.Name x p) [] kws pos) (tCallN 0 ks.length sp gV E tNil tk) := by
  rcases c with ⟨f, fd, g, at_, kept, bd, ok⟩
  constructor
  intro pins s σ H Q I h
  refine wpAny_Call_Name_kw (ld_glob I hg at_ (PySem.W.callWith_KW0 (h₀ := X.base) I.ok.mod.kin kept hall (thn (hkw.run pos pins s σ H _ I h) ?_) hpl) hdb)
  rintro ws s2 ⟨zs, H2, I2, rz, l1, l2, q2⟩
  refine ⟨I2.kIn, ?_⟩
  rw [hks]
  exact run_fnN (vs := []) (us := []) ok (hr.mono hle) bd (passes_call tk' fun _ _ _ _ z => z) I2 .nil rz l1 l2 q2
theorem takesLam {X : Cx} {A : Around} {outer : List Env} {s : Shared} {H : Hp} {E : XK} {scope : Scope} {f c' : Addr} : Takes (LamX.lamCx X A outer s H E scope f c') (fun cls d _ H => E cls d H) := takes_of rfl rfl rfl rfl
end
structure Errs (K : PySem.W.Frag) (mg : Str → Option Value) (CE CN CB CU CT CM : Addr) : Prop where
  gE : mg "EchoError" = some (.ref CE)
  gN : mg "NoFraction" = some (.ref CN)
  gB : mg "BadForm" = some (.ref CB)
  gU : mg "Unfit" = some (.ref CU)
  gT : mg "NoText" = some (.ref CT)
  gM : mg "NoMatrix" = some (.ref CM)
  zA : mg "ArithmeticError" = none
  XN : ExcC K CN
  ex : PySem.W.exmOne K (.ref CN) (.ref CE) = some true
  kN : PySem.W.kitOne K (.ref CN) (.ref CN) = some true
  kB : PySem.W.kitOne K (.ref CN) (.ref CB) = some false
  kU : PySem.W.kitOne K (.ref CN) (.ref CU) = some false
  kT : PySem.W.kitOne K (.ref CN) (.ref CT) = some false
  kM : PySem.W.kitOne K (.ref CN) (.ref CM) = some false
  kA : PySem.W.kitOne K (.ref CN) (.type "ArithmeticError") = some true
  kV : PySem.W.kitOne K (.ref CN) (.type "ValueError") = some false
def TTref (CN : Addr) : Addr → Addr → (XK → Hp → VK → Prop) → Hp → VK → Prop := fun _ _ tl H Q => ∀ (G : Hp), Same H G → ∀ (E : XK) (Q' : VK), (∀ G', Same G G' → (∀ G'', Same G' G'' → Q (.bl true) G'') → E (.ref CN) none G') → tl E G Q'
theorem sc__law_refused : FnScope ["_law_deed", "_law_marks", "e"] ["_law_deed"] (defScope s__law_refused) := ⟨rfl, rfl, rfl, by decide +kernel, rfl, by decide +kernel, by decide +kernel⟩
theorem ref_gives {X : Cx} {CE CN CB CU CT CM : Addr} (XX : Errs X.K X.mg CE CN CB CU CT CM) (zi : X.mg "isinstance" = none) (zV : X.mg "ValueError" = none) {k : Nat} (hr0 : Room (k + 1) X.A) {g : Addr} {cdg : Value} :
    GivesT X ["_law_deed", "_law_marks", "e"] "_law_refused" (defScope s__law_refused) g cdg (defBody s__law_refused) "_law_deed" (TTref CN) := by
  intro fl cd ob s H Q tl act hfl hc h
  have hr : ∀ env, Room k (X.A.deeper env) := fun env => hr0.deeper env
  refine ⟨_, pss_cons (ps_set (i := 1) sc__law_refused.nd rfl (.inl rfl) (pe_lst pa_nil))
    (pss_cons (ps_try_as (X := (gotCx X ["_law_deed", "_law_marks", "e"] "_law_refused" (defScope s__law_refused) g cdg s H).nox) (i := 2) (c := .ref CE) (tb := fun W D σ H => σ[0]? = some (some (.ref fl)) ∧ H fl = some (LamO fl ob) ∧ H cd = some (LamX.CodeO cd (lamQ X)) ∧ tl (WE W σ) H (fun _ H' => D.nx σ H')) (ts := fun a cls d => tSeq (tAsg (tLst (tCons (tCB (rIsX X.K a cls d) (tCons (tVar 2) (tCons (tC (.ref CN)) tNil))) (tCons (tCB (rIsX X.K a cls d) (tCons (tVar 2) (tCons (tC (.ref CB)) tNil))) (tCons (tCB (rIsX X.K a cls d) (tCons (tVar 2) (tCons (tC (.ref CU)) tNil))) (tCons (tCB (rIsX X.K a cls d) (tCons (tVar 2) (tCons (tC (.ref CT)) tNil))) tNil))))) (gName 1)) (tAsg (tOp rCat (tVar 1) (tLst (tCons (tCB (rIsX X.K a cls d) (tCons (tVar 2) (tCons (tC (.ref CM)) tNil))) (tCons (tCB (rIsX X.K a cls d) (tCons (tVar 2) (tCons (tC (.ty "ArithmeticError")) tNil))) (tCons (tCB (rIsX X.K a cls d) (tCons (tVar 2) (tCons (tC (.ty "ValueError")) tNil))) tNil))))) (gName 1))) rfl rfl sc__law_refused.nd rfl rfl ⟨rfl, by decide, .inl XX.gE⟩ takes0 (fun W pn xe tk _ => pss_one (ps_expr (act W pn xe _ _ tk)))
      (fun a oe cls d pn hz hf => (pss_cons (ps_set (i := 1) sc__law_refused.nd rfl (.inl rfl) (pe_lst (pa_cons (pe_callB (call_isX hz hf) (by rfl) zi (by decide +kernel) (pa_cons (pv 2) (pa_cons (pe_glob (v := .ref CN) (by rfl) XX.gN rfl) pa_nil))) (pa_cons (pe_callB (call_isX hz hf) (by rfl) zi (by decide +kernel) (pa_cons (pv 2) (pa_cons (pe_glob (v := .ref CB) (by rfl) XX.gB rfl) pa_nil))) (pa_cons (pe_callB (call_isX hz hf) (by rfl) zi (by decide +kernel) (pa_cons (pv 2) (pa_cons (pe_glob (v := .ref CU) (by rfl) XX.gU rfl) pa_nil))) (pa_cons (pe_callB (call_isX hz hf) (by rfl) zi (by decide +kernel) (pa_cons (pv 2) (pa_cons (pe_glob (v := .ref CT) (by rfl) XX.gT rfl) pa_nil))) pa_nil))))))
      (pss_one (ps_set (i := 1) sc__law_refused.nd rfl (.inl rfl) (pe_op op_cat (pv 1) (pe_lst (pa_cons (pe_callB (call_isX hz hf) (by rfl) zi (by decide +kernel) (pa_cons (pv 2) (pa_cons (pe_glob (v := .ref CM) (by rfl) XX.gM rfl) pa_nil))) (pa_cons (pe_callB (call_isX hz hf) (by rfl) zi (by decide +kernel) (pa_cons (pv 2) (pa_cons (pe_bltn (v := .ty "ArithmeticError") (by rfl) XX.zA (by decide +kernel) rfl) pa_nil))) (pa_cons (pe_callB (call_isX hz hf) (by rfl) zi (by decide +kernel) (pa_cons (pv 2) (pa_cons (pe_bltn (v := .ty "ValueError") (by rfl) zV (by decide +kernel) rfl) pa_nil))) pa_nil))))))))))
      (pss_one (ps_ret (pe_cmpR (op_eqD (by exact (hr (envOfC "_law_refused" (defScope s__law_refused) s.heap.objs.size g cdg)).units)) (pv 1) (pe_lst (pa_cons pe_bl (pa_cons pe_bl (pa_cons pe_bl (pa_cons pe_bl (pa_cons pe_bl (pa_cons pe_bl (pa_cons pe_bl pa_nil)))))))) (nomark _))))), ?_⟩
  refine ⟨(by show 0 ≤ sizeLine; decide), fun l1 hl1 => ?_⟩
  have s1 := same_new (o := .lst []) hl1
  refine ⟨rfl, s1 _ _ hfl, s1 _ _ hc, ?_⟩
  refine h _ s1 _ _ fun G sG q => ⟨true, XX.ex, fun _ a ha => ?_, fun z => nomatch z⟩
  refine ⟨_, rfl, CN, _, _, true, rfl, XX.XN, rfl, (fun u h => h), (fun dd e => nomatch e), XX.kN, _, rfl, CN, _, _, false, rfl, XX.XN, rfl, (fun u h => h), (fun dd e => nomatch e), XX.kB, _, rfl, CN, _, _, false, rfl, XX.XN, rfl, (fun u h => h), (fun dd e => nomatch e), XX.kU, _, rfl, CN, _, _, false, rfl, XX.XN, rfl, (fun u h => h), (fun dd e => nomatch e), XX.kT, (by show 4 ≤ sizeLine; decide), fun l2 hl2 => ?_⟩
  have s2 := same_new (o := .lst [.bl true, .bl false, .bl false, .bl false]) hl2
  refine ⟨_, rfl, _, rfl, CN, _, _, false, rfl, XX.XN, rfl, (fun u h => h), (fun dd e => nomatch e), XX.kM, _, rfl, CN, _, _, true, rfl, XX.XN, rfl, (fun u h => h), (fun dd e => nomatch e), XX.kA, _, rfl, CN, _, _, false, rfl, XX.XN, rfl, (fun u h => h), (fun dd e => nomatch e), XX.kV, (by show 3 ≤ sizeLine; decide), fun l3 hl3 => ?_⟩
  have s3 := same_new (o := .lst [.bl false, .bl true, .bl false]) hl3
  refine ⟨l2, l3, _, _, rfl, rfl, s3 _ _ upd_same, upd_same, (by show 4 + 3 ≤ sizeLine; decide), fun l4 hl4 => ?_⟩
  have s4 := same_new (o := .lst [.bl true, .bl false, .bl false, .bl false, .bl false, .bl true, .bl false]) hl4
  refine ⟨_, rfl, (by show 7 ≤ sizeLine; decide), fun l5 hl5 => ?_⟩
  have s5 := same_new (o := .lst [.bl true, .bl false, .bl false, .bl false, .bl false, .bl true, .bl false]) hl5
  refine ⟨.list [.bool true, .bool false, .bool false, .bool false, .bool false, .bool true, .bool false], .list [.bool true, .bool false, .bool false, .bool false, .bool false, .bool true, .bool false], .lst (SqL.of (s5 _ _ upd_same)) (.cons (.bl _) (.cons (.bl _) (.cons (.bl _) (.cons (.bl _) (.cons (.bl _) (.cons (.bl _) (.cons (.bl _) .nil))))))), .lst (SqL.of upd_same) (.cons (.bl _) (.cons (.bl _) (.cons (.bl _) (.cons (.bl _) (.cons (.bl _) (.cons (.bl _) (.cons (.bl _) .nil))))))), (by decide +kernel), (by decide +kernel), ?_⟩
  have ev : PyData.eqv (.list [.bool true, .bool false, .bool false, .bool false, .bool false, .bool true, .bool false]) (.list [.bool true, .bool false, .bool false, .bool false, .bool false, .bool true, .bool false]) = true := SeqAt.eqv_refl _ (by decide +kernel)
  rw [ev]
  exact q _ (s2.trans (s3.trans (s4.trans s5)))
end E1

namespace E1
open PySem PySem.Spec PyProof.Rows L2
theorem low_gcd {t b : Int} (hb : b ≠ 0) : gI (lowT t b) (lowB t b) = 1 := by
  have h1 : ∀ {x y : Int}, y ≠ 0 → gI (x / gI x y) (y / gI x y) = 1 := fun {x y} h => by
    have := Int.gcd_ediv_gcd_ediv_gcd (i := x) (j := y) (Int.gcd_pos_of_ne_zero_right x h)
    unfold gI
    rw [this]
    rfl
  unfold lowT lowB
  split
  · rw [← gI_neg t b]
    exact h1 (by omega)
  · exact h1 hb
abbrev lawQ : Str := (envOfC "law" (defScope s_law) 0 0 .none).qual ++ "<lambda>"
def spLaw (K : PySem.W.Frag) (Pt : Addr) : Sp := fun vs H Q _ => ∃ (a : Addr) (ns : List Int), vs = [.ref a] ∧ SqL K H a (ns.map V.int) ∧ ns.length ≤ 63 ∧ H Pt = some (.tbl #[]) ∧ ∀ H', Q (.bl true) H'
/-- a lambda of the law that is refused with NoFraction -/
def Rf (x : V) (pw wh : Int) (CN : Addr) (t : XK → TE) : Prop := ∀ (σ : L2.St) (E : XK) (H : Hp) (Q : VK), σ[5]? = some (some x) → σ[6]? = some (some (.int pw)) → σ[7]? = some (some (.int wh)) → Bd H x → (∀ H', Same H H' → E (.ref CN) none H') → t E σ H Q
structure Deeds (X : Cx) (T : List (Addr × Str)) (x : V) (pw wh : Int) (CN : Addr) (H : Hp) (L : Addr) (fls : List Addr) : Prop where
  at_ : H L = some (.lst (fls.map V.ref))
  all : ∀ fl ∈ fls, ∃ t, IsLam X 5 H fl t ∧ Rf x pw wh CN t
  tab : LamX.Tabs T H
  bad : Bd H x
  off : x ≠ .ref L
  few : fls.length ≤ 20
theorem tabs_upd {T : List (Addr × Str)} {H : Hp} {L : Addr} {xs ys : List V} (t : LamX.Tabs T H) (h : H L = some (.lst xs)) : LamX.Tabs T (upd H L (.lst ys)) := fun p hp => by
  obtain ⟨ps, a1, a2, a3⟩ := t p hp
  have n1 : p.1 ≠ L := ne_of a1 h (fun z => nomatch z)
  refine ⟨ps, by rw [upd_ne n1]; exact a1, a2, fun q cv hc => ?_⟩
  obtain ⟨c, e1, e2⟩ := a3 q cv hc
  have n2 : c ≠ L := ne_of e2 h (fun z => by unfold LamX.CodeO at z; cases z)
  exact ⟨c, e1, by rw [upd_ne n2]; exact e2⟩
theorem IsLam.upd {X : Cx} {k : Nat} {H : Hp} {fl L : Addr} {t : XK → TE} {xs ys : List V} (i : IsLam X k H fl t) (h : H L = some (.lst xs)) : IsLam X k (L2.upd H L (.lst ys)) fl t := by
  obtain ⟨pr, bd, sc, nm, cd, ctx, h1, h2, h3⟩ := i
  have n1 : fl ≠ L := ne_of h2 h (fun z => by unfold LamO at z; cases z)
  have n2 : cd ≠ L := ne_of h3 h (fun z => by unfold LamX.CodeO at z; cases z)
  exact ⟨pr, bd, sc, nm, cd, ctx, h1, by rw [upd_ne n1]; exact h2, by rw [upd_ne n2]; exact h3⟩
theorem Deeds.more {X : Cx} {T : List (Addr × Str)} {x : V} {pw wh : Int} {CN : Addr} {H H1 : Hp} {L fl : Addr} {fls : List Addr} {t : XK → TE} (D : Deeds X T x pw wh CN H L fls) (e : LamX.ExtN H H1) (T1 : LamX.Tabs T H1) (i : IsLam X 5 H1 fl t) (r : Rf x pw wh CN t) (l : fls.length < 20) :
    Deeds X T x pw wh CN (upd H1 L (.lst (fls.map V.ref ++ [.ref fl]))) L (fls ++ [fl]) := by
  have h1 := e _ _ D.at_ (fun _ z => nomatch z)
  refine ⟨by rw [upd_same, List.map_append]; rfl, fun f hf => ?_, tabs_upd T1 h1, ?_, D.off, by rw [List.length_append]; show fls.length + 1 ≤ 20; omega⟩
  · rcases List.mem_append.mp hf with hf | hf
    · obtain ⟨t', i', r'⟩ := D.all f hf
      exact ⟨t', (i'.ext e).upd h1, r'⟩
    · rw [List.mem_singleton.mp hf]
      exact ⟨t, i.upd h1, r⟩
  · refine D.bad.keep fun p o ex eo no => ?_
    have n : p ≠ L := fun z => D.off (by rw [ex, z])
    rw [upd_ne n]
    exact e _ _ eo no
def tRef (X : Cx) (CN : Addr) (σ : L2.St) : TE := fun τ G Q2 => ∃ (fl : Addr) (t : XK → TE), τ[9]? = some (some (.ref fl)) ∧ IsLam X 5 G fl t ∧ ∀ cd, TTref CN fl cd (fun E G' Q' => t E σ G' Q') G Q2
/-- no fraction, whatever else is laid -/
def NoFr (K : PySem.W.Frag) (H : Hp) (x : V) : Prop := ∀ H', Same H H' → FracIs K H' x false
def IsFr (K : PySem.W.Frag) (H : Hp) (x : V) : Prop := ∀ H', Same H H' → FracIs K H' x true
theorem dp_bls {K : PySem.W.Frag} {H : Hp} (b : Bool) : ∀ n : Nat, DpAll K H (List.replicate n (V.bl b)) (List.replicate n (PyData.bool b))
  | 0 => .nil
  | n + 1 => .cons (.bl b) (dp_bls b n)
theorem two_gcd {t : Int} : gI (2 * t) 2 ≠ 1 := by
  unfold gI
  have e : Int.gcd (2 * t) 2 = 2 := by
    have h := Int.gcd_mul_left 2 t 1
    rw [Int.mul_one, Int.gcd_one] at h
    exact h
  rw [e]
  decide
section
variable {P : Program} {w : World} {K : PySem.W.Frag} {mg : Str → Option Value} {base : Heap}
theorem rf_0 {x : V} {pw wh : Int} {CN : Addr} (hp : 400 < pw) : Rf x pw wh CN (fun E => tCall (spFracX K CN) [] E (tCons (tVar 7) (tCons (tC (.int 0)) tNil))) := by
  intro σ E H Q h5 h6 h7 hb q
  exact ⟨_, h7, .int wh, .int 0, true, true, rfl, .int wh, .int 0, .inr ⟨.inr (.inr rfl), q _ (Same.refl _)⟩⟩
theorem rf_1 {x : V} {pw wh : Int} {CN : Addr} (hp : 400 < pw) : Rf x pw wh CN (fun E => tCallN 1 (["bottom"] : List Str).length (spFracX K CN) (fun vs zs => vs ++ zs) E (tCons (tC (.int 0)) tNil) (tCons (tC (.int 0)) tNil)) := by
  intro σ E H Q h5 h6 h7 hb q
  exact ⟨rfl, rfl, .int 0, .int 0, true, true, rfl, .int 0, .int 0, .inr ⟨.inr (.inr rfl), q _ (Same.refl _)⟩⟩
theorem rf_2 {x : V} {pw wh : Int} {CN : Addr} (hp : 400 < pw) : Rf x pw wh CN (fun E => tCall (spDivX K CN) [] E (tCons (tTup (tCons (tVar 7) (tCons (tC (.int 1)) tNil))) (tCons (tTup (tCons (tC (.int 0)) (tCons (tC (.int 1)) tNil))) tNil))) := by
  intro σ E H Q h5 h6 h7 hb q
  exact ⟨_, h7, (by show 2 ≤ sizeLine; decide), fun p1 h1 => ⟨(by show 2 ≤ sizeLine; decide), fun p2 h2 => ⟨p1, p2, .int 1, rfl, SqT.of upd_same, q _ ((same_new h1).trans (same_new h2))⟩⟩⟩
theorem rf_3 {x : V} {pw wh : Int} {CN : Addr} (hp : 400 < pw) : Rf x pw wh CN (fun E => tCallN 0 (["other", "one"] : List Str).length (spDivX K CN) (fun vs zs => vs ++ zs.reverse) E tNil (tCons (tTup (tCons (tC (.int 0)) (tCons (tC (.int 1)) tNil))) (tCons (tTup (tCons (tC (.int 0)) (tCons (tC (.int 1)) tNil))) tNil))) := by
  intro σ E H Q h5 h6 h7 hb q
  exact ⟨(by show 2 ≤ sizeLine; decide), fun p1 h1 => ⟨(by show 2 ≤ sizeLine; decide), fun p2 h2 => ⟨rfl, rfl, p2, p1, .int 1, rfl, SqT.of (same_new h2 _ _ upd_same), q _ ((same_new h1).trans (same_new h2))⟩⟩⟩
theorem rf_4 {x : V} {pw wh : Int} {CN : Addr} (hp : 400 < pw) : Rf x pw wh CN (fun E => tCall (spTwoX K CN) [] E (tCons (tVar 6) tNil)) := by
  intro σ E H Q h5 h6 h7 hb q
  exact ⟨_, h6, _, rfl, .inr ⟨_, rfl, by split <;> omega⟩, q _ (Same.refl _)⟩
theorem rf_5 {x : V} {pw wh : Int} {CN : Addr} (hp : 400 < pw) : Rf x pw wh CN (fun E => tCallN 0 (["many"] : List Str).length (spTwoX K CN) (fun vs zs => vs ++ zs) E tNil (tCons (tOp (rI0 fun i j => V.int (i - j)) (tC (.int 0)) (tVar 6)) tNil)) := by
  intro σ E H Q h5 h6 h7 hb q
  exact ⟨_, h6, _, _, rfl, rfl, rfl, rfl, _, rfl, .inr ⟨_, rfl, by split <;> omega⟩, q _ (Same.refl _)⟩
theorem rf_6 {x : V} {pw wh : Int} {CN : Addr} (hp : 400 < pw) : Rf x pw wh CN (fun E => tCall (spFracX K CN) [] E (tCons (tVar 5) (tCons (tVar 7) tNil))) := by
  intro σ E H Q h5 h6 h7 hb q
  exact ⟨_, h5, _, h7, x, .int wh, false, true, rfl, hb.whole, .int wh, .inr ⟨.inl rfl, q _ (Same.refl _)⟩⟩
theorem rf_7 {x : V} {pw wh : Int} {CN : Addr} (hp : 400 < pw) : Rf x pw wh CN (fun E => tCall (spFracX K CN) [.int 1] E (tCons (tVar 5) tNil)) := by
  intro σ E H Q h5 h6 h7 hb q
  exact ⟨_, h5, x, .int 1, false, true, rfl, hb.whole, .int 1, .inr ⟨.inl rfl, q _ (Same.refl _)⟩⟩
theorem rf_8 {x : V} {pw wh : Int} {CN : Addr} (hp : 400 < pw) : Rf x pw wh CN (fun E => tCall (spFracX K CN) [] E (tCons (tVar 7) (tCons (tVar 5) tNil))) := by
  intro σ E H Q h5 h6 h7 hb q
  exact ⟨_, h7, _, h5, .int wh, x, true, false, rfl, .int wh, hb.whole, .inr ⟨.inr (.inl rfl), q _ (Same.refl _)⟩⟩
theorem rf_9 {x : V} {pw wh : Int} {CN : Addr} (hp : 400 < pw) : Rf x pw wh CN (fun E => tCallN 0 (["bottom", "top"] : List Str).length (spFracX K CN) (fun vs zs => vs ++ zs.reverse) E tNil (tCons (tVar 5) (tCons (tVar 7) tNil))) := by
  intro σ E H Q h5 h6 h7 hb q
  exact ⟨_, h5, _, h7, rfl, rfl, .int wh, x, true, false, rfl, .int wh, hb.whole, .inr ⟨.inr (.inl rfl), q _ (Same.refl _)⟩⟩
theorem rf_10 {x : V} {pw wh : Int} {CN : Addr} (hp : 400 < pw) : Rf x pw wh CN (fun E => tCall (spFracX K CN) [] E (tCons (tVar 5) (tCons (tC (.int 0)) tNil))) := by
  intro σ E H Q h5 h6 h7 hb q
  exact ⟨_, h5, x, .int 0, false, true, rfl, hb.whole, .int 0, .inr ⟨.inl rfl, q _ (Same.refl _)⟩⟩
theorem rf_11 {x : V} {pw wh : Int} {CN : Addr} (hp : 400 < pw) : Rf x pw wh CN (fun E => tCall (spFracX K CN) [] E (tCons (tVar 5) (tCons (tVar 5) tNil))) := by
  intro σ E H Q h5 h6 h7 hb q
  exact ⟨_, h5, _, h5, x, x, false, false, rfl, hb.whole, hb.whole, .inr ⟨.inl rfl, q _ (Same.refl _)⟩⟩
theorem rf_12 {x : V} {pw wh : Int} {CN : Addr} (hp : 400 < pw) : Rf x pw wh CN (fun E => tCall (spTwoX K CN) [] E (tCons (tVar 5) tNil)) := by
  intro σ E H Q h5 h6 h7 hb q
  exact ⟨_, h5, _, rfl, .inl hb.whole, q _ (Same.refl _)⟩
end
end E1

namespace E1
open PySem PySem.Spec PyProof.Rows L2
section
variable {P : Program} {w : World} {K : PySem.W.Frag} {mg : Str → Option Value} {base : Heap}
theorem sc_law : FnScope ["_law_script", "_law_well_here", "_law_sort", "_law_deeds", "_law_some", "_law_bad_here", "_law_power", "_law_whole", "_law_this", "_law_deed"] ["_law_script"] (defScope s_law) := ⟨rfl, rfl, rfl, by decide +kernel, rfl, by decide +kernel, by decide +kernel⟩
theorem small {fls : List Addr} (h : fls.length ≤ 20) : (fls.map V.ref).length < sizeLine := by
  rw [List.length_map]
  exact Nat.lt_of_le_of_lt h (by decide)
theorem ok_law {f : Addr} {fd : FuncData} {CE CN CB CU CT CM c Pt gT : Addr} {fdT : FuncData} (F : FunC K "law" s_law f fd c) (z : Zs mg) (XX : Errs K mg CE CN CB CU CT CM) (TB : LamX.TabB base mg c Pt) (FT : Fun K "_law_refused" "_law_refused" s__law_refused gT fdT) (gm : mg "_law_refused" = some (.ref gT)) (bT : Binds K fdT ["_law_deed"] []) (c__law_cell_at : Cal P w K mg base 1 "_law_cell_at" ["_law_script", "_law_k"] (spCell K)) (c__law_well : Cal P w K mg base 1 "_law_well" ["_law_cell"] spWell) (c__law_draw : Cal P w K mg base 1 "_law_draw" ["_law_well_here", "_law_much"] spDraw) (c__law_bad : Cal P w K mg base 1 "_law_bad" ["_law_at", "_law_whole"] spBad) (c_is_fraction : Cal P w K mg base 2 "is_fraction" ["thing"] (spIsF K)) (c_fraction : CalX P w K mg base 3 "fraction" ["top", "bottom"] [] (spFracX K CN)) (c_fraction_1 : CalX P w K mg base 3 "fraction" ["top", "bottom"] [.int 1] (spFracX K CN)) (c_fraction_1_bottom : CalXK P w K mg base 3 "fraction" ["top", "bottom"] 1 ["bottom"] (fun vs zs => vs ++ zs) (spFracX K CN)) (c_fraction_0_bottom_top : CalXK P w K mg base 3 "fraction" ["top", "bottom"] 0 ["bottom", "top"] (fun vs zs => vs ++ zs.reverse) (spFracX K CN)) (c_divided : CalX P w K mg base 1 "divided" ["one", "other"] [] (spDivX K CN)) (c_divided_0_other_one : CalXK P w K mg base 1 "divided" ["one", "other"] 0 ["other", "one"] (fun vs zs => vs ++ zs.reverse) (spDivX K CN)) (c_two_to : CalX P w K mg base 2 "two_to" ["many"] [] (spTwoX K CN)) (c_two_to_0_many : CalXK P w K mg base 2 "two_to" ["many"] 0 ["many"] (fun vs zs => vs ++ zs) (spTwoX K CN)) : FnOk P w K mg base CX0 8 f fd ["_law_script"] (spLaw K Pt) := by
  obtain ⟨cdg, GT⟩ := got_of (Ng := ["_law_deed", "_law_marks", "e"]) FT gm bT sc__law_refused rfl (.inl rfl)
  refine F.ok sc_law (fun vs H Q E h => ?_) (fun A outer s H vs Q E hr h => ?_)
  · obtain ⟨a, ns, rfl, _⟩ := h
    rfl
  · obtain ⟨as, ns, rfl, hS, hlen, hPt, q⟩ := h
    refine ⟨_, (pss_cons (ps_set (i := 1) sc_law.nd rfl (.inl rfl) (pe_cal c__law_well hr (pa_cons (pe_cal c__law_cell_at hr (pa_cons (pv 0) (pa_cons pe_int pa_nil))) pa_nil)))
      (pss_cons (ps_set (i := 2) sc_law.nd rfl (.inl rfl) (pe_cal c__law_draw hr (pa_cons (pv 1) (pa_cons pe_int pa_nil))))
      (pss_cons (ps_set (i := 5) sc_law.nd rfl (.inr rfl) (pe_cal c__law_bad hr (pa_cons (pe_cal c__law_draw hr (pa_cons (pv 1) (pa_cons pe_int pa_nil))) (pa_cons pe_int pa_nil))))
      (pss_cons (ps_set (i := 6) sc_law.nd rfl (.inr rfl) (pe_op op_add pe_int (pe_op op_mul (pe_op op_pow (pe_cal c__law_draw hr (pa_cons (pv 1) (pa_cons pe_int pa_nil))) pe_int) (pe_op op_sub pe_int (pe_cal c__law_draw hr (pa_cons (pv 1) (pa_cons pe_int pa_nil)))))))
      (pss_cons (ps_set (i := 7) sc_law.nd rfl (.inr rfl) (pe_op op_add pe_int (pe_op op_mul (pe_cal c__law_draw hr (pa_cons (pv 1) (pa_cons (pe_op op_pow pe_int pe_int) pa_nil))) (pe_op op_add pe_int (pe_cal c__law_draw hr (pa_cons (pv 1) (pa_cons (pe_op op_pow pe_int pe_int) pa_nil)))))))
      (pss_cons (ps_set (i := 7) sc_law.nd rfl (.inr rfl) (pe_op op_mul (pv 7) (pe_op op_sub pe_int (pe_op op_mul pe_int (pe_cal c__law_draw hr (pa_cons (pv 1) (pa_cons pe_int pa_nil)))))))
      (pss_cons (ps_set (i := 3) sc_law.nd rfl (.inl rfl) (pe_lst (pa_cons (pe_lamV (T := [(Pt, lawQ)]) (k := 5) (t := fun E => tCall (spFracX K CN) [] E (tCons (tVar 7) (tCons (tC (.int 0)) tNil))) ⟨LamX.lamS_by (by show LamX.lamSB (defScope s_law) _ = true; decide +kernel), (by intros; rfl), (fun E A out s H fl cd rm => by exact (pe_calxL c_fraction rm takesLam (pa_cons (pv 7) (pa_cons pe_int pa_nil))))⟩ TB) pa_nil)))
      (pss_cons (ps_expr (pe_bm PySem.F.plainAttrs_list PySem.F.slot_list_append PySem.F.type_list_append mt_append (pv 3) (pa_cons (pe_lamV (T := [(Pt, lawQ)]) (k := 5) (t := fun E => tCallN 1 (["bottom"] : List Str).length (spFracX K CN) (fun vs zs => vs ++ zs) E (tCons (tC (.int 0)) tNil) (tCons (tC (.int 0)) tNil)) ⟨LamX.lamS_by (by show LamX.lamSB (defScope s_law) _ = true; decide +kernel), (by intros; rfl), (fun E A out s H fl cd rm => by exact (pe_calxLk c_fraction_1_bottom rm takesLam (pa_cons pe_int pa_nil) (pk_cons pe_int pk_nil)))⟩ TB) pa_nil)))
      (pss_cons (ps_expr (pe_bm PySem.F.plainAttrs_list PySem.F.slot_list_append PySem.F.type_list_append mt_append (pv 3) (pa_cons (pe_lamV (T := [(Pt, lawQ)]) (k := 5) (t := fun E => tCall (spDivX K CN) [] E (tCons (tTup (tCons (tVar 7) (tCons (tC (.int 1)) tNil))) (tCons (tTup (tCons (tC (.int 0)) (tCons (tC (.int 1)) tNil))) tNil))) ⟨LamX.lamS_by (by show LamX.lamSB (defScope s_law) _ = true; decide +kernel), (by intros; rfl), (fun E A out s H fl cd rm => by exact (pe_calxL c_divided rm takesLam (pa_cons (pe_tup (pa_cons (pv 7) (pa_cons pe_int pa_nil))) (pa_cons (pe_tup (pa_cons pe_int (pa_cons pe_int pa_nil))) pa_nil))))⟩ TB) pa_nil)))
      (pss_cons (ps_expr (pe_bm PySem.F.plainAttrs_list PySem.F.slot_list_append PySem.F.type_list_append mt_append (pv 3) (pa_cons (pe_lamV (T := [(Pt, lawQ)]) (k := 5) (t := fun E => tCallN 0 (["other", "one"] : List Str).length (spDivX K CN) (fun vs zs => vs ++ zs.reverse) E tNil (tCons (tTup (tCons (tC (.int 0)) (tCons (tC (.int 1)) tNil))) (tCons (tTup (tCons (tC (.int 0)) (tCons (tC (.int 1)) tNil))) tNil))) ⟨LamX.lamS_by (by show LamX.lamSB (defScope s_law) _ = true; decide +kernel), (by intros; rfl), (fun E A out s H fl cd rm => by exact (pe_calxL0 c_divided_0_other_one rm takesLam (pk_cons (pe_tup (pa_cons pe_int (pa_cons pe_int pa_nil))) (pk_cons (pe_tup (pa_cons pe_int (pa_cons pe_int pa_nil))) pk_nil))))⟩ TB) pa_nil)))
      (pss_cons (ps_expr (pe_bm PySem.F.plainAttrs_list PySem.F.slot_list_append PySem.F.type_list_append mt_append (pv 3) (pa_cons (pe_lamV (T := [(Pt, lawQ)]) (k := 5) (t := fun E => tCall (spTwoX K CN) [] E (tCons (tVar 6) tNil)) ⟨LamX.lamS_by (by show LamX.lamSB (defScope s_law) _ = true; decide +kernel), (by intros; rfl), (fun E A out s H fl cd rm => by exact (pe_calxL c_two_to rm takesLam (pa_cons (pv 6) pa_nil)))⟩ TB) pa_nil)))
      (pss_cons (ps_expr (pe_bm PySem.F.plainAttrs_list PySem.F.slot_list_append PySem.F.type_list_append mt_append (pv 3) (pa_cons (pe_lamV (T := [(Pt, lawQ)]) (k := 5) (t := fun E => tCallN 0 (["many"] : List Str).length (spTwoX K CN) (fun vs zs => vs ++ zs) E tNil (tCons (tOp (rI0 fun i j => V.int (i - j)) (tC (.int 0)) (tVar 6)) tNil)) ⟨LamX.lamS_by (by show LamX.lamSB (defScope s_law) _ = true; decide +kernel), (by intros; rfl), (fun E A out s H fl cd rm => by exact (pe_calxL0 c_two_to_0_many rm takesLam (pk_cons (pe_op op_sub pe_int (pv 6)) pk_nil)))⟩ TB) pa_nil)))
      (C8.pss_cut (ps_if (pt_cmpR op_lt (pv 2) pe_int (nomark _)) (pss_cons (ps_expr (pe_bm PySem.F.plainAttrs_list PySem.F.slot_list_append PySem.F.type_list_append mt_append (pv 3) (pa_cons (pe_lamV (T := [(Pt, lawQ)]) (k := 5) (t := fun E => tCall (spFracX K CN) [] E (tCons (tVar 5) (tCons (tVar 7) tNil))) ⟨LamX.lamS_by (by show LamX.lamSB (defScope s_law) _ = true; decide +kernel), (by intros; rfl), (fun E A out s H fl cd rm => by exact (pe_calxL c_fraction rm takesLam (pa_cons (pv 5) (pa_cons (pv 7) pa_nil))))⟩ TB) pa_nil)))
      (pss_cons (ps_expr (pe_bm PySem.F.plainAttrs_list PySem.F.slot_list_append PySem.F.type_list_append mt_append (pv 3) (pa_cons (pe_lamV (T := [(Pt, lawQ)]) (k := 5) (t := fun E => tCall (spFracX K CN) [.int 1] E (tCons (tVar 5) tNil)) ⟨LamX.lamS_by (by show LamX.lamSB (defScope s_law) _ = true; decide +kernel), (by intros; rfl), (fun E A out s H fl cd rm => by exact (pe_calxL c_fraction_1 rm takesLam (pa_cons (pv 5) pa_nil)))⟩ TB) pa_nil)))
      (pss_cons (ps_expr (pe_bm PySem.F.plainAttrs_list PySem.F.slot_list_append PySem.F.type_list_append mt_append (pv 3) (pa_cons (pe_lamV (T := [(Pt, lawQ)]) (k := 5) (t := fun E => tCall (spFracX K CN) [] E (tCons (tVar 7) (tCons (tVar 5) tNil))) ⟨LamX.lamS_by (by show LamX.lamSB (defScope s_law) _ = true; decide +kernel), (by intros; rfl), (fun E A out s H fl cd rm => by exact (pe_calxL c_fraction rm takesLam (pa_cons (pv 7) (pa_cons (pv 5) pa_nil))))⟩ TB) pa_nil)))
      (pss_one (ps_expr (pe_bm PySem.F.plainAttrs_list PySem.F.slot_list_append PySem.F.type_list_append mt_append (pv 3) (pa_cons (pe_lamV (T := [(Pt, lawQ)]) (k := 5) (t := fun E => tCallN 0 (["bottom", "top"] : List Str).length (spFracX K CN) (fun vs zs => vs ++ zs.reverse) E tNil (tCons (tVar 5) (tCons (tVar 7) tNil))) ⟨LamX.lamS_by (by show LamX.lamSB (defScope s_law) _ = true; decide +kernel), (by intros; rfl), (fun E A out s H fl cd rm => by exact (pe_calxL0 c_fraction_0_bottom_top rm takesLam (pk_cons (pv 5) (pk_cons (pv 7) pk_nil))))⟩ TB) pa_nil))))))) (pss_cons (ps_expr (pe_bm PySem.F.plainAttrs_list PySem.F.slot_list_append PySem.F.type_list_append mt_append (pv 3) (pa_cons (pe_lamV (T := [(Pt, lawQ)]) (k := 5) (t := fun E => tCall (spFracX K CN) [] E (tCons (tVar 5) (tCons (tC (.int 0)) tNil))) ⟨LamX.lamS_by (by show LamX.lamSB (defScope s_law) _ = true; decide +kernel), (by intros; rfl), (fun E A out s H fl cd rm => by exact (pe_calxL c_fraction rm takesLam (pa_cons (pv 5) (pa_cons pe_int pa_nil))))⟩ TB) pa_nil)))
      (pss_cons (ps_expr (pe_bm PySem.F.plainAttrs_list PySem.F.slot_list_append PySem.F.type_list_append mt_append (pv 3) (pa_cons (pe_lamV (T := [(Pt, lawQ)]) (k := 5) (t := fun E => tCall (spFracX K CN) [] E (tCons (tVar 5) (tCons (tVar 5) tNil))) ⟨LamX.lamS_by (by show LamX.lamSB (defScope s_law) _ = true; decide +kernel), (by intros; rfl), (fun E A out s H fl cd rm => by exact (pe_calxL c_fraction rm takesLam (pa_cons (pv 5) (pa_cons (pv 5) pa_nil))))⟩ TB) pa_nil)))
      (pss_one (ps_expr (pe_bm PySem.F.plainAttrs_list PySem.F.slot_list_append PySem.F.type_list_append mt_append (pv 3) (pa_cons (pe_lamV (T := [(Pt, lawQ)]) (k := 5) (t := fun E => tCall (spTwoX K CN) [] E (tCons (tVar 5) tNil)) ⟨LamX.lamS_by (by show LamX.lamSB (defScope s_law) _ = true; decide +kernel), (by intros; rfl), (fun E A out s H fl cd rm => by exact (pe_calxL c_two_to rm takesLam (pa_cons (pv 5) pa_nil)))⟩ TB) pa_nil)))))))
      (pss_cons (ps_if (pt_not (pt_val (pe_callB (cr_all rfl) (by rfl) z.all (by decide +kernel) (pa_cons (pe_lcM (own := [("_law_deed", 9)]) (g := gName 9) (te := tRef (cxOf CX0 P w K mg base ["_law_script", "_law_well_here", "_law_sort", "_law_deeds", "_law_some", "_law_bad_here", "_law_power", "_law_whole", "_law_this", "_law_deed"] "law" (defScope s_law) f (.ref c) A outer s H E).nox CN) (by rfl) sc_law.nd (pi_list (pv 3)) (blkOk_by (own := [("_law_deed", 9)]) (N := ["_law_script", "_law_well_here", "_law_sort", "_law_deeds", "_law_some", "_law_bad_here", "_law_power", "_law_whole", "_law_this", "_law_deed"]) (sc := defScope s_law) (by decide +kernel)) (fun _ _ _ _ _ => by exact (pg_name (i := 9) sc_law.nd rfl (.inl rfl))) (fun ps σ H s fp C cl S => by exact (pe_lamT (k := 5) (i := 9) S GT (ref_gives XX z.isinstance z.ValueError hr) hr (pv 9)))) pa_nil)))) (pss_one (ps_ret pe_bl)) pss_nil)
      (pss_cons (ps_set (i := 4) sc_law.nd rfl (.inl rfl) (pe_lst (pa_cons (pv 5) (pa_cons (pv 7) (pa_cons (pe_tup (pa_cons (pv 7) (pa_cons pe_int pa_nil))) (pa_cons (pe_tup (pa_cons (pv 7) (pa_cons (pe_un un_neg pe_int) pa_nil))) (pa_cons (pe_tup (pa_cons (pe_op op_mul pe_int (pv 7)) (pa_cons pe_int pa_nil))) (pa_cons (pe_tup (pa_cons (pv 5) (pa_cons pe_int pa_nil))) (pa_cons (pe_tup (pa_cons (pv 7) (pa_cons (pv 5) pa_nil))) (pa_cons (pe_lst (pa_cons (pv 7) (pa_cons pe_int pa_nil))) (pa_cons (pe_tup (pa_cons (pv 7) pa_nil)) pa_nil)))))))))))
      (pss_cons (ps_set (i := 4) sc_law.nd rfl (.inl rfl) (pe_op op_cat (pv 4) (pe_lst (pa_cons (pe_tup (pa_cons (pv 7) (pa_cons pe_int (pa_cons pe_int pa_nil)))) (pa_cons (pe_tup (pa_cons pe_int (pa_cons pe_int pa_nil))) (pa_cons (pe_tup (pa_cons pe_bl (pa_cons pe_int pa_nil))) (pa_cons (pe_tup (pa_cons pe_int (pa_cons pe_bl pa_nil))) pa_nil)))))))
      (pss_cons (ps_if (pt_cmpR (op_neD hr.units) (pe_lc (own := [("_law_this", 8)]) (g := gName 8) (tt := tYes) (by rfl) sc_law.nd (pi_list (pv 4)) (blkOk_by (own := [("_law_this", 8)]) (N := ["_law_script", "_law_well_here", "_law_sort", "_law_deeds", "_law_some", "_law_bad_here", "_law_power", "_law_whole", "_law_this", "_law_deed"]) (sc := defScope s_law) (by decide +kernel)) (fun _ _ _ _ _ => by exact (pg_name (i := 8) sc_law.nd rfl (.inl rfl))) (fun _ _ _ _ _ => by exact pts_nil) (fun _ _ _ _ _ => by exact (pe_cal c_is_fraction hr (pa_cons (pv 8) pa_nil)))) (pe_op op_rep (pe_lst (pa_cons pe_bl pa_nil)) (pe_callB call_len_seq (by rfl) z.len PySem.boot_len (pa_cons (pv 4) pa_nil))) (nomark _)) (pss_one (ps_ret pe_bl)) pss_nil)
      (pss_one (ps_ret (pe_cmpR (op_eqD hr.units) (pe_lc (own := [("_law_this", 8)]) (g := gName 8) (tt := tYes) (by rfl) sc_law.nd (pi_list (pe_lst (pa_cons (pe_tup (pa_cons (pv 7) (pa_cons pe_int pa_nil))) (pa_cons (pe_tup (pa_cons pe_int (pa_cons pe_int pa_nil))) (pa_cons (pe_tup (pa_cons pe_int (pa_cons (pe_callB call_abs (by rfl) z.abs (by decide +kernel) (pa_cons (pv 7) pa_nil)) pa_nil))) (pa_cons (pe_calx c_fraction hr (pa_cons (pv 7) (pa_cons pe_int pa_nil))) pa_nil)))))) (blkOk_by (own := [("_law_this", 8)]) (N := ["_law_script", "_law_well_here", "_law_sort", "_law_deeds", "_law_some", "_law_bad_here", "_law_power", "_law_whole", "_law_this", "_law_deed"]) (sc := defScope s_law) (by decide +kernel)) (fun _ _ _ _ _ => by exact (pg_name (i := 8) sc_law.nd rfl (.inl rfl))) (fun _ _ _ _ _ => by exact pts_nil) (fun _ _ _ _ _ => by exact (pe_cal c_is_fraction hr (pa_cons (pv 8) pa_nil)))) (pe_op op_rep (pe_lst (pa_cons pe_bl pa_nil)) pe_int) (nomark _))))))))))))))))))))), ?_⟩
    refine ⟨_, rfl, as, ns, 0, rfl, hS, _, rfl, fun w1 hw1 H1 s1 k1 => ?_⟩
    refine ⟨_, rfl, w1, 0, 4, rfl, k1, by decide, by decide, by decide, fun r2 H2 r20 r21 d2 d2' w2 => ?_⟩
    refine ⟨_, rfl, w1, 0 + 1, 9, rfl, w2, by decide, by decide, by decide, fun r3 H3 r30 r31 d3 d3' w3 => ⟨_, rfl, fun x H4 s4 hb4 hf4 => ?_⟩⟩
    have w4 := w3.same s4
    have xw : x ≠ .ref w1 := fun e => by
      obtain ⟨_, _, _, zz, _⟩ := w3
      rw [hf4 _ e] at zz
      cases zz
    refine ⟨_, rfl, w1, 0 + 1 + 1, 1000, rfl, w4, by decide, by decide, by decide, fun r5 H5 r50 r51 d5 d5' w5 => ⟨_, _, rfl, rfl, ⟨by decide, by decide, by omega⟩, _, rfl, w1, 0 + 1 + 1 + 1, 2, rfl, w5, by decide, by decide, by decide, fun r6 H6 r60 r61 d6 d6' w6 => ⟨_, _, rfl, rfl, _, _, rfl, rfl, .inr ⟨by omega, by omega⟩, _, _, rfl, rfl, ?_⟩⟩⟩
    refine ⟨_, rfl, _, _, rfl, rfl, ⟨by decide, by decide, by decide⟩, w1, 0 + 1 + 1 + 1 + 1, _, rfl, w6, by decide, by decide, by decide, fun r7 H7 r70 r71 d7 d7' w7 => ?_⟩
    have e9 : (10 : Int) ^ (9 : Int).toNat = 1000000000 := by decide
    have e31 : (10 : Int) ^ (31 : Int).toNat = 10000000000000000000000000000000 := by decide
    rw [e9] at r71
    refine ⟨_, rfl, _, _, rfl, rfl, ⟨by decide, by decide, by decide⟩, w1, 0 + 1 + 1 + 1 + 1 + 1, _, rfl, w7, by decide, by decide, by decide, fun r8 H8 r80 r81 d8 d8' w8 => ?_⟩
    rw [e31] at r81
    refine ⟨_, _, rfl, rfl, _, _, rfl, rfl, .inl ⟨by omega, by omega⟩, _, _, rfl, rfl, ?_⟩
    refine ⟨_, rfl, _, rfl, w1, 0 + 1 + 1 + 1 + 1 + 1 + 1, 2, rfl, w8, by decide, by decide, by decide, fun r9 H9 r90 r91 d9 d9' w9 => ⟨_, _, rfl, rfl, .inl ⟨by decide, by decide⟩, _, _, rfl, rfl, _, _, rfl, rfl, .inr ⟨by omega, by omega⟩, ?_⟩⟩
    have hpw : 400 < 401 + r5 ^ (2 : Int).toNat * (1 - r6) := by
      have h1 : 0 ≤ r5 ^ (2 : Int).toNat * (1 - r6) := Int.mul_nonneg (Int.pow_nonneg r50) (by omega)
      omega
    have hw0 : 1 ≤ 1 + r7 * (1 + r8) := by
      have h1 : 0 ≤ r7 * (1 + r8) := Int.mul_nonneg r70 (by omega)
      omega
    have hw1' : 1 + r7 * (1 + r8) < 2 ^ 140 := by
      have h1 : r7 * (1 + r8) ≤ 1000000000 * 10000000000000000000000000000000 := Int.mul_le_mul (by omega) (by omega) (by omega) (by decide)
      have h2 : (1000000000 : Int) * 10000000000000000000000000000000 + 1 < 2 ^ 140 := by decide
      omega
    have hwh : (1 + r7 * (1 + r8)) * (1 - 2 * r9) ≠ 0 ∧ ((1 + r7 * (1 + r8)) * (1 - 2 * r9)).natAbs < 2 ^ 140 := by
      rcases (by omega : r9 = 0 ∨ r9 = 1) with rfl | rfl
      · rw [show (1 : Int) - 2 * 0 = 1 by decide, Int.mul_one]
        constructor <;> omega
      · rw [show (1 : Int) - 2 * 1 = -1 by decide, Int.mul_neg, Int.mul_one]
        constructor <;> omega
    dsimp only [gName]
    generalize 401 + r5 ^ (2 : Int).toNat * (1 - r6) = pw at *
    generalize (1 + r7 * (1 + r8)) * (1 - 2 * r9) = wh at *
    have hb9 : Bd H9 x := by
      have B : SameBut w1 H4 H9 := (((d5.trans d6).trans d7).trans d8).trans d9
      exact hb4.keep fun p o ex eo _ => B p o (fun zz => xw (by rw [ex, zz])) eo
    have T9 : LamX.Tabs [(Pt, lawQ)] H9 := by
      have n1 : Pt ≠ w1 := ne_of_none hPt hw1
      have e : H9 Pt = some (.tbl #[]) := d9 _ _ n1 (d8 _ _ n1 (d7 _ _ n1 (d6 _ _ n1 (d5 _ _ n1 (s4 _ _ (d3 _ _ n1 (d2 _ _ n1 (s1 _ _ hPt))))))))
      intro p hp
      cases List.mem_singleton.mp hp
      exact LamX.TabS.nil e
    refine ⟨T9, fun f0 G0 e0 T0 n0 l0 => ⟨(by show 1 ≤ sizeLine; decide), fun Ld hLd => ?_⟩⟩
    have sd := same_new (o := .lst [V.ref f0]) hLd
    have xL : x ≠ .ref Ld := fun e => by
      cases hb9 with
      | non => cases e
      | bl b => cases e
      | str y => cases e
      | two q' => cases e; exact absurd hLd (by rw [e0 _ _ q' (fun _ z => nomatch z)]; intro z; cases z)
      | bare q' => cases e; exact absurd hLd (by rw [e0 _ _ q' (fun _ z => nomatch z)]; intro z; cases z)
      | lst q' => cases e; exact absurd hLd (by rw [e0 _ _ q' (fun _ z => nomatch z)]; intro z; cases z)
      | dK q' => cases e; exact absurd hLd (by rw [e0 _ _ q' (fun _ z => nomatch z)]; intro z; cases z)
    have D0 : Deeds (cxOf CX0 P w K mg base ["_law_script", "_law_well_here", "_law_sort", "_law_deeds", "_law_some", "_law_bad_here", "_law_power", "_law_whole", "_law_this", "_law_deed"] "law" (defScope s_law) f (.ref c) A outer s H E).nox [(Pt, lawQ)] x pw wh CN (upd G0 Ld (.lst [V.ref f0])) Ld [f0] := by
      refine ⟨upd_same, fun fl hfl => ?_, T0.ext sd, hb9.keep fun p o _ eo no => sd _ _ (e0 _ _ eo no), xL, by simp⟩
      rw [List.mem_singleton.mp hfl]
      exact ⟨_, l0.ext (.of sd), rf_0 hpw⟩
    refine ⟨_, rfl, .inl ⟨rfl, _, SqL.of D0.at_⟩, D0.tab, fun f1 G1 e1 T1 n1 l1 => ⟨Ld, _, _, rfl, rfl, e1 _ _ D0.at_ (fun _ z => nomatch z), small D0.few, ?_⟩⟩
    have D1 := D0.more e1 T1 l1 (rf_1 hpw) (by simp)
    refine ⟨_, rfl, .inl ⟨rfl, _, SqL.of D1.at_⟩, D1.tab, fun f2 G2 e2 T2 n2 l2 => ⟨Ld, _, _, rfl, rfl, e2 _ _ D1.at_ (fun _ z => nomatch z), small D1.few, ?_⟩⟩
    have D2 := D1.more e2 T2 l2 (rf_2 hpw) (by simp)
    refine ⟨_, rfl, .inl ⟨rfl, _, SqL.of D2.at_⟩, D2.tab, fun f3 G3 e3 T3 n3 l3 => ⟨Ld, _, _, rfl, rfl, e3 _ _ D2.at_ (fun _ z => nomatch z), small D2.few, ?_⟩⟩
    have D3 := D2.more e3 T3 l3 (rf_3 hpw) (by simp)
    refine ⟨_, rfl, .inl ⟨rfl, _, SqL.of D3.at_⟩, D3.tab, fun f4 G4 e4 T4 n4 l4 => ⟨Ld, _, _, rfl, rfl, e4 _ _ D3.at_ (fun _ z => nomatch z), small D3.few, ?_⟩⟩
    have D4 := D3.more e4 T4 l4 (rf_4 hpw) (by simp)
    refine ⟨_, rfl, .inl ⟨rfl, _, SqL.of D4.at_⟩, D4.tab, fun f5 G5 e5 T5 n5 l5 => ⟨Ld, _, _, rfl, rfl, e5 _ _ D4.at_ (fun _ z => nomatch z), small D4.few, ?_⟩⟩
    have D5 := D4.more e5 T5 l5 (rf_5 hpw) (by simp)
    refine ⟨fun σ H' => σ = [some (.ref as), some (.ref w1), some (.int r2), some (.ref Ld), none, some x, some (.int pw), some (.int wh), none, none] ∧ ∃ fls : List Addr, Deeds (cxOf CX0 P w K mg base ["_law_script", "_law_well_here", "_law_sort", "_law_deeds", "_law_some", "_law_bad_here", "_law_power", "_law_whole", "_law_this", "_law_deed"] "law" (defScope s_law) f (.ref c) A outer s H E).nox [(Pt, lawQ)] x pw wh CN H' Ld fls, ?_, fun σ H' hM => ?_⟩
    · refine ⟨_, rfl, _, _, rfl, rfl, _, rfl, ite2 (fun c => ?_) (fun c => ?_)⟩
      · refine ⟨_, rfl, .inl ⟨rfl, _, SqL.of D5.at_⟩, D5.tab, fun f6 G6 e6 T6 n6 l6 => ⟨Ld, _, _, rfl, rfl, e6 _ _ D5.at_ (fun _ z => nomatch z), small D5.few, ?_⟩⟩
        have D6 := D5.more e6 T6 l6 (rf_6 hpw) (by simp)
        refine ⟨_, rfl, .inl ⟨rfl, _, SqL.of D6.at_⟩, D6.tab, fun f7 G7 e7 T7 n7 l7 => ⟨Ld, _, _, rfl, rfl, e7 _ _ D6.at_ (fun _ z => nomatch z), small D6.few, ?_⟩⟩
        have D7 := D6.more e7 T7 l7 (rf_7 hpw) (by simp)
        refine ⟨_, rfl, .inl ⟨rfl, _, SqL.of D7.at_⟩, D7.tab, fun f8 G8 e8 T8 n8 l8 => ⟨Ld, _, _, rfl, rfl, e8 _ _ D7.at_ (fun _ z => nomatch z), small D7.few, ?_⟩⟩
        have D8 := D7.more e8 T8 l8 (rf_8 hpw) (by simp)
        refine ⟨_, rfl, .inl ⟨rfl, _, SqL.of D8.at_⟩, D8.tab, fun f9 G9 e9 T9 n9 l9 => ⟨Ld, _, _, rfl, rfl, e9 _ _ D8.at_ (fun _ z => nomatch z), small D8.few, ?_⟩⟩
        have D9 := D8.more e9 T9 l9 (rf_9 hpw) (by simp)
        exact ⟨rfl, _, D9⟩
      · refine ⟨_, rfl, .inl ⟨rfl, _, SqL.of D5.at_⟩, D5.tab, fun f10 G10 e10 T10 n10 l10 => ⟨Ld, _, _, rfl, rfl, e10 _ _ D5.at_ (fun _ z => nomatch z), small D5.few, ?_⟩⟩
        have D10 := D5.more e10 T10 l10 (rf_10 hpw) (by simp)
        refine ⟨_, rfl, .inl ⟨rfl, _, SqL.of D10.at_⟩, D10.tab, fun f11 G11 e11 T11 n11 l11 => ⟨Ld, _, _, rfl, rfl, e11 _ _ D10.at_ (fun _ z => nomatch z), small D10.few, ?_⟩⟩
        have D11 := D10.more e11 T11 l11 (rf_11 hpw) (by simp)
        refine ⟨_, rfl, .inl ⟨rfl, _, SqL.of D11.at_⟩, D11.tab, fun f12 G12 e12 T12 n12 l12 => ⟨Ld, _, _, rfl, rfl, e12 _ _ D11.at_ (fun _ z => nomatch z), small D11.few, ?_⟩⟩
        have D12 := D11.more e12 T12 l12 (rf_12 hpw) (by simp)
        exact ⟨rfl, _, D12⟩
    · obtain ⟨rfl, fls, DD⟩ := hM
      clear D5 D4 D3 D2 D1 D0 l5 l4 l3 l2 l1 l0 n5 n4 n3 n2 n1 n0 T5 T4 T3 T2 T1 T0 e5 e4 e3 e2 e1 e0 T9 hb9 w9 w8 w7 w6 w5 w4 w3 w2
      refine ⟨_, rfl, Ld, rfl, ⟨_, SqL.of DD.at_⟩, fun D hD => lc_list (K := K) (a := Ld) (xs := fls.map V.ref) (g := gName 9) (tt := tYes) (te := tRef (cxOf CX0 P w K mg base ["_law_script", "_law_well_here", "_law_sort", "_law_deeds", "_law_some", "_law_bad_here", "_law_power", "_law_whole", "_law_this", "_law_deed"] "law" (defScope s_law) f (.ref c) A outer s H E).nox CN [some (.ref as), some (.ref w1), some (.int r2), some (.ref Ld), none, some x, some (.int pw), some (.int wh), none, none]) (vs := [9]) (σ := [some (.ref as), some (.ref w1), some (.int r2), some (.ref Ld), none, some x, some (.int pw), some (.int wh), none, none]) (fun i G => Same H' G ∧ G D = some (.lst (List.replicate i (V.bl true)))) ⟨same_new hD, upd_same⟩ (fun i G _ hP => SqL.of (hP.1 _ _ DD.at_)) (fun i y G hy hP => ?_) (fun G hP => ?_)⟩
      · obtain ⟨sG, hG⟩ := hP
        rw [List.getElem?_map] at hy
        obtain ⟨fl, hfl, rfl⟩ := Option.map_eq_some_iff.mp hy
        obtain ⟨t, it, rt⟩ := DD.all fl (List.mem_of_getElem? hfl)
        refine ⟨rfl, fl, t, rfl, it.ext (.of sG), fun cd G1 s1' E1 Q1 hE => ?_⟩
        refine rt _ _ _ _ rfl rfl rfl ((DD.bad.same sG).same s1') fun G2 s2' => hE G2 s2' fun G3 s3' => ?_
        have S3 := (s1'.trans s2').trans s3'
        refine ⟨_, S3 _ _ hG, ?_, fun b o e => ?_, ?_⟩
        · rw [List.length_replicate]
          have := (List.getElem?_eq_some_iff.mp hfl).1
          have := DD.few
          exact Nat.lt_of_le_of_lt (show i ≤ 20 by omega) (by decide)
        · rw [upd_ne (ne_of_none e hD)]
          exact S3 _ _ (sG _ _ e)
        · rw [upd_same, List.replicate_succ']
      · obtain ⟨sG, hG⟩ := hP
        refine ⟨D, List.replicate _ true, rfl, SqL.of (by rw [List.map_replicate]; exact hG), ?_⟩
        have ea : ∀ n, (List.replicate n true).all id = true := fun n => by
          rw [List.all_eq_true]
          intro y hy
          exact (List.mem_replicate.mp hy).2
        rw [ea]
        refine ⟨_, rfl, iteF ?_⟩
        have hbG := DD.bad.same sG
        clear DD sG hG ea
        have hwn := hwh.1
        have hwl := hwh.2
        refine ⟨_, rfl, _, rfl, _, rfl, (by show 2 ≤ sizeLine; decide), fun p1 h1 => ?_⟩
        have s1 := same_new (o := .tup [.int wh, .int 0]) h1
        refine ⟨_, rfl, _, rfl, (by show 2 ≤ sizeLine; decide), fun p2 h2 => ?_⟩
        have s2 := same_new (o := .tup [.int wh, .int (-1)]) h2
        refine ⟨_, rfl, _, _, rfl, rfl, .inl ⟨by decide, by decide⟩, (by show 2 ≤ sizeLine; decide), fun p3 h3 => ?_⟩
        have s3 := same_new (o := .tup [.int (2 * wh), .int 2]) h3
        refine ⟨_, rfl, (by show 2 ≤ sizeLine; decide), fun p4 h4 => ?_⟩
        have s4 := same_new (o := .tup [x, .int 1]) h4
        refine ⟨_, rfl, _, rfl, (by show 2 ≤ sizeLine; decide), fun p5 h5 => ?_⟩
        have s5 := same_new (o := .tup [.int wh, x]) h5
        refine ⟨_, rfl, (by show 2 ≤ sizeLine; decide), fun p6 h6 => ?_⟩
        have s6 := same_new (o := .lst [.int wh, .int 1]) h6
        refine ⟨_, rfl, (by show 1 ≤ sizeLine; decide), fun p7 h7 => ?_⟩
        have s7 := same_new (o := .tup [.int wh]) h7
        refine ⟨(by show 9 ≤ sizeLine; decide), fun L1 hL1 => ?_⟩
        have t1 := same_new (o := .lst [x, .int wh, .ref p1, .ref p2, .ref p3, .ref p4, .ref p5, .ref p6, .ref p7]) hL1
        refine ⟨_, rfl, _, rfl, (by show 3 ≤ sizeLine; decide), fun p8 h8 => ?_⟩
        have s8 := same_new (o := .tup [.int wh, .int 1, .int 1]) h8
        refine ⟨(by show 2 ≤ sizeLine; decide), fun p9 h9 => ?_⟩
        have s9 := same_new (o := .tup [.int 0, .int 2]) h9
        refine ⟨(by show 2 ≤ sizeLine; decide), fun p10 h10 => ?_⟩
        have s10 := same_new (o := .tup [.bl true, .int 1]) h10
        refine ⟨(by show 2 ≤ sizeLine; decide), fun p11 h11 => ?_⟩
        have s11 := same_new (o := .tup [.int 1, .bl true]) h11
        refine ⟨(by show 4 ≤ sizeLine; decide), fun L2 hL2 => ?_⟩
        have t2 := same_new (o := .lst [.ref p8, .ref p9, .ref p10, .ref p11]) hL2
        have u4 := s8.trans (s9.trans (s10.trans (s11.trans t2)))
        refine ⟨L1, L2, _, _, rfl, rfl, u4 _ _ upd_same, upd_same, (by show 9 + 4 ≤ sizeLine; decide), fun L3 hL3 => ?_⟩
        have t3 := same_new (o := .lst [x, .int wh, .ref p1, .ref p2, .ref p3, .ref p4, .ref p5, .ref p6, .ref p7, .ref p8, .ref p9, .ref p10, .ref p11]) hL3
        have v11 := t2.trans t3
        have v10 := s11.trans v11
        have v9 := s10.trans v10
        have v8 := s9.trans v9
        have v7 := t1.trans (s8.trans v8)
        have v6 := s7.trans v7
        have v5 := s6.trans v6
        have v4 := s5.trans v5
        have v3 := s4.trans v4
        have v2 := s3.trans v3
        have v1 := s2.trans v2
        have v0 := s1.trans v1
        generalize hG9 : upd _ L3 _ = G9
        have k1 : G9 p1 = some (.tup [.int wh, .int 0]) := by rw [← hG9]; exact v1 _ _ upd_same
        have k2 : G9 p2 = some (.tup [.int wh, .int (-1)]) := by rw [← hG9]; exact v2 _ _ upd_same
        have k3 : G9 p3 = some (.tup [.int (2 * wh), .int 2]) := by rw [← hG9]; exact v3 _ _ upd_same
        have k4 : G9 p4 = some (.tup [x, .int 1]) := by rw [← hG9]; exact v4 _ _ upd_same
        have k5 : G9 p5 = some (.tup [.int wh, x]) := by rw [← hG9]; exact v5 _ _ upd_same
        have k6 : G9 p6 = some (.lst [.int wh, .int 1]) := by rw [← hG9]; exact v6 _ _ upd_same
        have k7 : G9 p7 = some (.tup [.int wh]) := by rw [← hG9]; exact v7 _ _ upd_same
        have k8 : G9 p8 = some (.tup [.int wh, .int 1, .int 1]) := by rw [← hG9]; exact v8 _ _ upd_same
        have k9 : G9 p9 = some (.tup [.int 0, .int 2]) := by rw [← hG9]; exact v9 _ _ upd_same
        have k10 : G9 p10 = some (.tup [.bl true, .int 1]) := by rw [← hG9]; exact v10 _ _ upd_same
        have k11 : G9 p11 = some (.tup [.int 1, .bl true]) := by rw [← hG9]; exact v11 _ _ upd_same
        have kb : Bd G9 x := by rw [← hG9]; exact hbG.same v0
        have kL : G9 L3 = some (.lst [x, .int wh, .ref p1, .ref p2, .ref p3, .ref p4, .ref p5, .ref p6, .ref p7, .ref p8, .ref p9, .ref p10, .ref p11]) := by rw [← hG9]; exact upd_same
        clear s1 s2 s3 s4 s5 s6 s7 s8 s9 s10 s11 t1 t2 t3 u4 v0 v1 v2 v3 v4 v5 v6 v7 v8 v9 v10 v11
        clear hG9
        have none_ : ∀ y ∈ [x, .int wh, .ref p1, .ref p2, .ref p3, .ref p4, .ref p5, .ref p6, .ref p7, .ref p8, .ref p9, .ref p10, .ref p11], NoFr K G9 y := by
          intro y hy
          simp only [List.mem_cons, List.not_mem_nil, or_false] at hy
          rcases hy with rfl | rfl | rfl | rfl | rfl | rfl | rfl | rfl | rfl | rfl | rfl | rfl | rfl
          · exact fun H' s' => (kb.same s').frac
          · exact fun H' s' => .inl ⟨rfl, _, .base (.int _), by decide +kernel⟩
          · exact fun H' s' => .inr (.inr (.inr ⟨_, _, _, rfl, s' _ _ k1, rfl⟩))
          · exact fun H' s' => .inr (.inr (.inr ⟨_, _, _, rfl, s' _ _ k2, rfl⟩))
          · exact fun H' s' => .inr (.inr (.inr ⟨_, _, _, rfl, s' _ _ k3, by rw [decide_eq_false two_gcd, Bool.and_false]⟩))
          · exact fun H' s' => .inr (.inr (.inl ⟨rfl, _, _, _, false, true, rfl, s' _ _ k4, (kb.same s').whole, .int 1, .inl rfl⟩))
          · exact fun H' s' => .inr (.inr (.inl ⟨rfl, _, _, _, true, false, rfl, s' _ _ k5, .int wh, (kb.same s').whole, .inr rfl⟩))
          · exact fun H' s' => .inl ⟨rfl, _, .base (.lst (s' _ _ k6)), by decide +kernel⟩
          · exact fun H' s' => .inr (.inl ⟨rfl, _, _, rfl, s' _ _ k7, by show (1 : Nat) ≠ 2; decide⟩)
          · exact fun H' s' => .inr (.inl ⟨rfl, _, _, rfl, s' _ _ k8, by show (3 : Nat) ≠ 2; decide⟩)
          · exact fun H' s' => .inr (.inr (.inr ⟨_, _, _, rfl, s' _ _ k9, by decide +kernel⟩))
          · exact fun H' s' => .inr (.inr (.inl ⟨rfl, _, _, _, false, true, rfl, s' _ _ k10, .inr (.inl ⟨true, rfl, rfl⟩), .int 1, .inl rfl⟩))
          · exact fun H' s' => .inr (.inr (.inl ⟨rfl, _, _, _, true, false, rfl, s' _ _ k11, .int 1, .inr (.inl ⟨true, rfl, rfl⟩), .inr rfl⟩))
        clear k1 k2 k3 k4 k5 k6 k7 k8 k9 k10 k11
        refine ⟨_, rfl, L3, rfl, ⟨_, SqL.of kL⟩, fun D2 hD2 => lc_list (K := K) (a := L3) (xs := [x, .int wh, .ref p1, .ref p2, .ref p3, .ref p4, .ref p5, .ref p6, .ref p7, .ref p8, .ref p9, .ref p10, .ref p11]) (fun i G => Same G9 G ∧ G D2 = some (.lst (List.replicate i (V.bl false)))) ⟨same_new hD2, upd_same⟩ (fun i G _ hP => SqL.of (hP.1 _ _ kL)) (fun i y G2 hy hP => ?_) (fun G2 hP => ?_)⟩
        · obtain ⟨sG, hG⟩ := hP
          have hi := (List.getElem?_eq_some_iff.mp hy).1
          refine ⟨rfl, _, rfl, y, false, rfl, none_ y (List.mem_of_getElem? hy) _ sG, ?_⟩
          refine ⟨_, hG, ?_, fun b o e => ?_, ?_⟩
          · rw [List.length_replicate]
            exact Nat.lt_of_lt_of_le hi (by show 13 ≤ sizeLine; decide)
          · rw [upd_ne (ne_of_none e hD2)]
            exact sG _ _ e
          · rw [upd_same, List.replicate_succ']
        · obtain ⟨sG, hG⟩ := hP
          refine ⟨(by show 1 ≤ sizeLine; decide), fun q1 hq1 => ?_⟩
          have m1 := same_new (o := .lst [V.bl false]) hq1
          refine ⟨_, rfl, L3, _, rfl, .inl (SqL.of (m1 _ _ (sG _ _ kL))), q1, _, _, rfl, rfl, upd_same, (by show -(2 ^ 63) ≤ (13 : Int); decide), (by show (13 : Int) < 2 ^ 63; decide), (by show 1 * 13 ≤ sizeLine; decide), fun q2 hq2 => ?_⟩
          have m2 := same_new (o := .lst (List.replicate 13 (V.bl false))) hq2
          refine ⟨.list (List.replicate 13 (.bool false)), .list (List.replicate 13 (.bool false)), .lst (SqL.of (m2 _ _ (m1 _ _ hG))) (dp_bls false 13), .lst (SqL.of upd_same) (dp_bls false 13), (by decide +kernel), (by decide +kernel), _, rfl, ?_⟩
          have ev : PyData.eqv (.list (List.replicate 13 (.bool false))) (.list (List.replicate 13 (.bool false))) = true := SeqAt.eqv_refl _ (by decide +kernel)
          rw [ev]
          refine iteF ?_
          refine ⟨_, rfl, (by show 2 ≤ sizeLine; decide), fun a1_ g1 => ?_⟩
          have s1 := same_new (o := .tup [.int wh, .int 1]) g1
          refine ⟨(by show 2 ≤ sizeLine; decide), fun a2_ g2 => ?_⟩
          have s2 := same_new (o := .tup [.int 0, .int 1]) g2
          refine ⟨_, rfl, _, rfl, (by show 2 ≤ sizeLine; decide), fun a3_ g3 => ?_⟩
          have s3 := same_new (o := .tup [.int 1, .int (if wh < 0 then -wh else wh)]) g3
          refine ⟨_, rfl, .int wh, .int 3, true, true, rfl, .int wh, .int 3, .inl ⟨wh, 3, rfl, rfl, by decide, by decide, fun a4_ g4 => ?_⟩⟩
          have s4 := same_new (o := .tup [.int (lowT wh 3), .int (lowB wh 3)]) g4
          refine ⟨(by show 4 ≤ sizeLine; decide), fun L4 hL4 => ?_⟩
          have s5 := same_new (o := .lst [.ref a1_, .ref a2_, .ref a3_, .ref a4_]) hL4
          generalize hG5 : upd _ L4 _ = G5
          have k1 : G5 a1_ = some (.tup [.int wh, .int 1]) := by rw [← hG5]; exact s5 _ _ (s4 _ _ (s3 _ _ (s2 _ _ upd_same)))
          have k2 : G5 a2_ = some (.tup [.int 0, .int 1]) := by rw [← hG5]; exact s5 _ _ (s4 _ _ (s3 _ _ upd_same))
          have k3 : G5 a3_ = some (.tup [.int 1, .int (if wh < 0 then -wh else wh)]) := by rw [← hG5]; exact s5 _ _ (s4 _ _ upd_same)
          have k4 : G5 a4_ = some (.tup [.int (lowT wh 3), .int (lowB wh 3)]) := by rw [← hG5]; exact s5 _ _ upd_same
          have kL4 : G5 L4 = some (.lst [.ref a1_, .ref a2_, .ref a3_, .ref a4_]) := by rw [← hG5]; exact upd_same
          clear hG5 s1 s2 s3 s4 s5
          have all_ : ∀ y ∈ [V.ref a1_, .ref a2_, .ref a3_, .ref a4_], IsFr K G5 y := by
            intro y hy
            simp only [List.mem_cons, List.not_mem_nil, or_false] at hy
            rcases hy with rfl | rfl | rfl | rfl
            · exact fun H' s' => .inr (.inr (.inr ⟨_, _, _, rfl, s' _ _ k1, by unfold gI; rw [Int.gcd_one]; rfl⟩))
            · exact fun H' s' => .inr (.inr (.inr ⟨_, _, _, rfl, s' _ _ k2, by decide +kernel⟩))
            · refine fun H' s' => .inr (.inr (.inr ⟨_, _, _, rfl, s' _ _ k3, ?_⟩))
              have e1 : 1 ≤ (if wh < 0 then -wh else wh) := by split <;> omega
              unfold gI
              rw [Int.one_gcd, decide_eq_true e1]
              rfl
            · refine fun H' s' => .inr (.inr (.inr ⟨_, _, _, rfl, s' _ _ k4, ?_⟩))
              have e1 : 1 ≤ lowB wh 3 := by
                have g0 := gI_pos (t := wh) (b := 3) (by decide)
                have dv : gI wh 3 ∣ 3 := by
                  unfold gI
                  exact Int.gcd_dvd_right ..
                unfold lowB
                rw [if_neg (by decide)]
                have := Int.ediv_pos_of_pos_of_dvd (show (0 : Int) < 3 by decide) (show 0 ≤ gI wh 3 by omega) dv
                omega
              rw [low_gcd (by decide), decide_eq_true e1]
              rfl
          clear k1 k2 k3 k4
          refine ⟨L4, rfl, ⟨_, SqL.of kL4⟩, fun D3 hD3 => lc_list (K := K) (a := L4) (xs := [.ref a1_, .ref a2_, .ref a3_, .ref a4_]) (fun i G => Same G5 G ∧ G D3 = some (.lst (List.replicate i (V.bl true)))) ⟨same_new hD3, upd_same⟩ (fun i G _ hP => SqL.of (hP.1 _ _ kL4)) (fun i y G6 hy hP => ?_) (fun G6 hP => ?_)⟩
          · obtain ⟨sG6, hG6⟩ := hP
            have hi := (List.getElem?_eq_some_iff.mp hy).1
            refine ⟨rfl, _, rfl, y, true, rfl, all_ y (List.mem_of_getElem? hy) _ sG6, ?_⟩
            refine ⟨_, hG6, ?_, fun b o e => ?_, ?_⟩
            · rw [List.length_replicate]
              exact Nat.lt_of_lt_of_le hi (by show 4 ≤ sizeLine; decide)
            · rw [upd_ne (ne_of_none e hD3)]
              exact sG6 _ _ e
            · rw [upd_same, List.replicate_succ']
          · obtain ⟨sG6, hG6⟩ := hP
            refine ⟨(by show 1 ≤ sizeLine; decide), fun q3 hq3 => ?_⟩
            have m3 := same_new (o := .lst [V.bl true]) hq3
            refine ⟨q3, _, _, rfl, rfl, upd_same, (by decide), (by decide), (by show 1 * 4 ≤ sizeLine; decide), fun q4 hq4 => ?_⟩
            have m4 := same_new (o := .lst (List.replicate 4 (V.bl true))) hq4
            refine ⟨.list (List.replicate 4 (.bool true)), .list (List.replicate 4 (.bool true)), .lst (SqL.of (m4 _ _ (m3 _ _ hG6))) (dp_bls true 4), .lst (SqL.of upd_same) (dp_bls true 4), (by decide +kernel), (by decide +kernel), ?_⟩
            have ev2 : PyData.eqv (.list (List.replicate 4 (.bool true))) (.list (List.replicate 4 (.bool true))) = true := SeqAt.eqv_refl _ (by decide +kernel)
            rw [ev2]
            exact q _
end
end E1

namespace E1
open PySem PySem.Spec PyProof.Rows L2

theorem Vals.rev : ∀ {xs : List V} {us : List Value}, Vals xs us → Vals xs.reverse us.reverse
  | _, _, .nil => .nil
  | _, _, .cons r t => by
    rw [List.reverse_cons, List.reverse_cons]
    exact Vals.append (Vals.rev t) (.cons r .nil)
section
variable {P : Program} {w : World} {K : PySem.W.Frag} {mg : Str → Option Value} {base : Heap} {x : Str} {st : Stmt} {f : Addr} {fd : FuncData} {ps ks : List Str} {k n : Nat} {sp : Sp}
/-- a def without defaults: its arguments by keywords alone or behind others -/
theorem Fun.kbn {qual : Str} (F : Fun K x qual st f fd) {g : List Value → List Value → List Value} {gV : List V → List V → List V} (hrel : ∀ {vs : List V} {us : List Value} {zs : List V} {ws : List Value}, Vals vs us → Vals zs ws → Vals (gV vs zs) (g us ws))
    (h : ∀ (kV doc pm : Value) (an : Option Addr) (cdv ct : Value) (us ws : List Value), us.length = n → ws.length = ks.length → bindArgs (PySem.W.fnOf x qual (defArgs st) (defBody st) (defScope st) .none kV doc pm an cdv ct) ⟨us, ks.zip ws⟩ = pure (ps.zip (g us ws))) : KBn K fd ps n ks g gV := by
  rcases F.ex with ⟨_, _, v1, v2, v3, v4, v5, v6, _, same, _, _⟩
  subst same
  exact ⟨fun s us ws _ l1 l2 => .of_eq (h v1 v2 v3 v4 v5 v6 us ws l1 l2), hrel⟩
/-- a def with defaults, all arguments given -/
theorem FunD.kbn {qual : Str} {params : Arguments} {body : List Stmt} {scope : Scope} {dvs : List V} {kws : List (Str × V)} (F : FunD K x qual params body scope dvs kws f fd) (hd : dvs ≠ []) {g : List Value → List Value → List Value} {gV : List V → List V → List V} (hrel : ∀ {vs : List V} {us : List Value} {zs : List V} {ws : List Value}, Vals vs us → Vals zs ws → Vals (gV vs zs) (g us ws))
    (h : ∀ (T : Addr) (kV doc pm : Value) (an : Option Addr) (cdv ct : Value) (us ws its : List Value), us.length = n → ws.length = ks.length → its.length = dvs.length → ∃ k, bindArgs (PySem.W.fnOf x qual params body scope (.ref T) kV doc pm an cdv ct) ⟨us, ks.zip ws⟩ = seqItems? (.ref T) >>= k ∧ k (some its.toArray) = pure (ps.zip (g us ws))) : KBn K fd ps n ks g gV := by
  rcases F.ex with ⟨_, _, _, v1, v2, v3, v4, v5, v6, _, same, _, _, bare | given, _⟩
  · exact absurd bare.1 hd
  · rcases given with ⟨_, T, _, its, _, dv, at_, it, rel⟩
    subst same dv
    refine ⟨fun s us ws inn l1 l2 => BindsTo.of_looks fun M => ?_, hrel⟩
    rcases h T v1 v2 v3 v4 v5 v6 us ws its l1 l2 rel.length.symm with ⟨go, b1, b2⟩
    rw [b1]
    exact looks_items inn at_ it (.of_pure b2)
end
theorem all_mk {l : PySem.W.OpenLaw} {w : World} {K : PySem.W.Frag} {h : Heap} {mg : Str → Option Value} {fa : Addr} {f_is_whole f_is_fraction f_shared_divisor f_lowest f_fraction T_fraction f_divided f_two_to f__law_cell_at f__law_well f__law_draw f__law_refused f__law_bad f_law cLaw Pt CE CB CU CT CM CN : Addr} (X : K.In h) (G : h.Ns mainGlobals mg) (hfa : mg "law" = some (.ref fa))
    {od_is_whole an_is_whole : Option Addr} {sl_is_whole : Array (Option Value)} {oc_is_whole kV_is_whole dc_is_whole pm_is_whole cd_is_whole ct_is_whole : Value}
    (a_is_whole : PySem.W.nsIn K mainGlobals "is_whole" = some (some (.ref f_is_whole)))
    (l_is_whole : K.lookup f_is_whole = some ⟨oc_is_whole, od_is_whole, .func (PySem.W.fnOf "is_whole" "is_whole" (defArgs s_is_whole) (defBody s_is_whole) (defScope s_is_whole) .none kV_is_whole dc_is_whole pm_is_whole an_is_whole cd_is_whole ct_is_whole), sl_is_whole⟩)
    (c_is_whole : PySem.W.codeIn K cd_is_whole "is_whole" = true)
    (k_is_whole : PySem.W.keepIn K (.ref f_is_whole) = true)
    {od_is_fraction an_is_fraction : Option Addr} {sl_is_fraction : Array (Option Value)} {oc_is_fraction kV_is_fraction dc_is_fraction pm_is_fraction cd_is_fraction ct_is_fraction : Value}
    (a_is_fraction : PySem.W.nsIn K mainGlobals "is_fraction" = some (some (.ref f_is_fraction)))
    (l_is_fraction : K.lookup f_is_fraction = some ⟨oc_is_fraction, od_is_fraction, .func (PySem.W.fnOf "is_fraction" "is_fraction" (defArgs s_is_fraction) (defBody s_is_fraction) (defScope s_is_fraction) .none kV_is_fraction dc_is_fraction pm_is_fraction an_is_fraction cd_is_fraction ct_is_fraction), sl_is_fraction⟩)
    (c_is_fraction : PySem.W.codeIn K cd_is_fraction "is_fraction" = true)
    (k_is_fraction : PySem.W.keepIn K (.ref f_is_fraction) = true)
    {od_shared_divisor an_shared_divisor : Option Addr} {sl_shared_divisor : Array (Option Value)} {oc_shared_divisor kV_shared_divisor dc_shared_divisor pm_shared_divisor cd_shared_divisor ct_shared_divisor : Value}
    (a_shared_divisor : PySem.W.nsIn K mainGlobals "shared_divisor" = some (some (.ref f_shared_divisor)))
    (l_shared_divisor : K.lookup f_shared_divisor = some ⟨oc_shared_divisor, od_shared_divisor, .func (PySem.W.fnOf "shared_divisor" "shared_divisor" (defArgs s_shared_divisor) (defBody s_shared_divisor) (defScope s_shared_divisor) .none kV_shared_divisor dc_shared_divisor pm_shared_divisor an_shared_divisor cd_shared_divisor ct_shared_divisor), sl_shared_divisor⟩)
    (c_shared_divisor : PySem.W.codeIn K cd_shared_divisor "shared_divisor" = true)
    (k_shared_divisor : PySem.W.keepIn K (.ref f_shared_divisor) = true)
    {od_lowest an_lowest : Option Addr} {sl_lowest : Array (Option Value)} {oc_lowest kV_lowest dc_lowest pm_lowest cd_lowest ct_lowest : Value}
    (a_lowest : PySem.W.nsIn K mainGlobals "lowest" = some (some (.ref f_lowest)))
    (l_lowest : K.lookup f_lowest = some ⟨oc_lowest, od_lowest, .func (PySem.W.fnOf "lowest" "lowest" (defArgs s_lowest) (defBody s_lowest) (defScope s_lowest) .none kV_lowest dc_lowest pm_lowest an_lowest cd_lowest ct_lowest), sl_lowest⟩)
    (c_lowest : PySem.W.codeIn K cd_lowest "lowest" = true)
    (k_lowest : PySem.W.keepIn K (.ref f_lowest) = true)
    {od_fraction an_fraction : Option Addr} {sl_fraction : Array (Option Value)} {oc_fraction kV_fraction dc_fraction pm_fraction cd_fraction ct_fraction : Value}
    {to_fraction : Value} {td_fraction : Option Addr} {tn_fraction : Nat} {ts_fraction : Array (Option Value)} {tk_fraction_0 : Tok}
    (a_fraction : PySem.W.nsIn K mainGlobals "fraction" = some (some (.ref f_fraction)))
    (l_fraction : K.lookup f_fraction = some ⟨oc_fraction, od_fraction, .func (PySem.W.fnOf "fraction" "fraction" (defArgs s_fraction) (defBody s_fraction) (defScope s_fraction) (.ref T_fraction) kV_fraction dc_fraction pm_fraction an_fraction cd_fraction ct_fraction), sl_fraction⟩)
    (c_fraction : PySem.W.codeIn K cd_fraction "fraction" = true)
    (k_fraction : PySem.W.keepIn K (.ref f_fraction) = true)
    (t_fraction : K.lookup T_fraction = some ⟨to_fraction, td_fraction, .seq [Value.int 1 tk_fraction_0].toArray tn_fraction, ts_fraction⟩)
    {od_divided an_divided : Option Addr} {sl_divided : Array (Option Value)} {oc_divided kV_divided dc_divided pm_divided cd_divided ct_divided : Value}
    (a_divided : PySem.W.nsIn K mainGlobals "divided" = some (some (.ref f_divided)))
    (l_divided : K.lookup f_divided = some ⟨oc_divided, od_divided, .func (PySem.W.fnOf "divided" "divided" (defArgs s_divided) (defBody s_divided) (defScope s_divided) .none kV_divided dc_divided pm_divided an_divided cd_divided ct_divided), sl_divided⟩)
    (c_divided : PySem.W.codeIn K cd_divided "divided" = true)
    (k_divided : PySem.W.keepIn K (.ref f_divided) = true)
    {od_two_to an_two_to : Option Addr} {sl_two_to : Array (Option Value)} {oc_two_to kV_two_to dc_two_to pm_two_to cd_two_to ct_two_to : Value}
    (a_two_to : PySem.W.nsIn K mainGlobals "two_to" = some (some (.ref f_two_to)))
    (l_two_to : K.lookup f_two_to = some ⟨oc_two_to, od_two_to, .func (PySem.W.fnOf "two_to" "two_to" (defArgs s_two_to) (defBody s_two_to) (defScope s_two_to) .none kV_two_to dc_two_to pm_two_to an_two_to cd_two_to ct_two_to), sl_two_to⟩)
    (c_two_to : PySem.W.codeIn K cd_two_to "two_to" = true)
    (k_two_to : PySem.W.keepIn K (.ref f_two_to) = true)
    {od__law_cell_at an__law_cell_at : Option Addr} {sl__law_cell_at : Array (Option Value)} {oc__law_cell_at kV__law_cell_at dc__law_cell_at pm__law_cell_at cd__law_cell_at ct__law_cell_at : Value}
    (a__law_cell_at : PySem.W.nsIn K mainGlobals "_law_cell_at" = some (some (.ref f__law_cell_at)))
    (l__law_cell_at : K.lookup f__law_cell_at = some ⟨oc__law_cell_at, od__law_cell_at, .func (PySem.W.fnOf "_law_cell_at" "_law_cell_at" (defArgs s__law_cell_at) (defBody s__law_cell_at) (defScope s__law_cell_at) .none kV__law_cell_at dc__law_cell_at pm__law_cell_at an__law_cell_at cd__law_cell_at ct__law_cell_at), sl__law_cell_at⟩)
    (c__law_cell_at : PySem.W.codeIn K cd__law_cell_at "_law_cell_at" = true)
    (k__law_cell_at : PySem.W.keepIn K (.ref f__law_cell_at) = true)
    {od__law_well an__law_well : Option Addr} {sl__law_well : Array (Option Value)} {oc__law_well kV__law_well dc__law_well pm__law_well cd__law_well ct__law_well : Value}
    (a__law_well : PySem.W.nsIn K mainGlobals "_law_well" = some (some (.ref f__law_well)))
    (l__law_well : K.lookup f__law_well = some ⟨oc__law_well, od__law_well, .func (PySem.W.fnOf "_law_well" "_law_well" (defArgs s__law_well) (defBody s__law_well) (defScope s__law_well) .none kV__law_well dc__law_well pm__law_well an__law_well cd__law_well ct__law_well), sl__law_well⟩)
    (c__law_well : PySem.W.codeIn K cd__law_well "_law_well" = true)
    (k__law_well : PySem.W.keepIn K (.ref f__law_well) = true)
    {od__law_draw an__law_draw : Option Addr} {sl__law_draw : Array (Option Value)} {oc__law_draw kV__law_draw dc__law_draw pm__law_draw cd__law_draw ct__law_draw : Value}
    (a__law_draw : PySem.W.nsIn K mainGlobals "_law_draw" = some (some (.ref f__law_draw)))
    (l__law_draw : K.lookup f__law_draw = some ⟨oc__law_draw, od__law_draw, .func (PySem.W.fnOf "_law_draw" "_law_draw" (defArgs s__law_draw) (defBody s__law_draw) (defScope s__law_draw) .none kV__law_draw dc__law_draw pm__law_draw an__law_draw cd__law_draw ct__law_draw), sl__law_draw⟩)
    (c__law_draw : PySem.W.codeIn K cd__law_draw "_law_draw" = true)
    (k__law_draw : PySem.W.keepIn K (.ref f__law_draw) = true)
    {od__law_refused an__law_refused : Option Addr} {sl__law_refused : Array (Option Value)} {oc__law_refused kV__law_refused dc__law_refused pm__law_refused cd__law_refused ct__law_refused : Value}
    (a__law_refused : PySem.W.nsIn K mainGlobals "_law_refused" = some (some (.ref f__law_refused)))
    (l__law_refused : K.lookup f__law_refused = some ⟨oc__law_refused, od__law_refused, .func (PySem.W.fnOf "_law_refused" "_law_refused" (defArgs s__law_refused) (defBody s__law_refused) (defScope s__law_refused) .none kV__law_refused dc__law_refused pm__law_refused an__law_refused cd__law_refused ct__law_refused), sl__law_refused⟩)
    (c__law_refused : PySem.W.codeIn K cd__law_refused "_law_refused" = true)
    (k__law_refused : PySem.W.keepIn K (.ref f__law_refused) = true)
    {od__law_bad an__law_bad : Option Addr} {sl__law_bad : Array (Option Value)} {oc__law_bad kV__law_bad dc__law_bad pm__law_bad cd__law_bad ct__law_bad : Value}
    (a__law_bad : PySem.W.nsIn K mainGlobals "_law_bad" = some (some (.ref f__law_bad)))
    (l__law_bad : K.lookup f__law_bad = some ⟨oc__law_bad, od__law_bad, .func (PySem.W.fnOf "_law_bad" "_law_bad" (defArgs s__law_bad) (defBody s__law_bad) (defScope s__law_bad) .none kV__law_bad dc__law_bad pm__law_bad an__law_bad cd__law_bad ct__law_bad), sl__law_bad⟩)
    (c__law_bad : PySem.W.codeIn K cd__law_bad "_law_bad" = true)
    (k__law_bad : PySem.W.keepIn K (.ref f__law_bad) = true)
    {od_law an_law cdd_law : Option Addr} {sl_law ccs_law : Array (Option Value)} {oc_law kV_law dc_law pm_law ct_law ccl_law : Value} {vs_law : Array Value}
    (a_law : PySem.W.nsIn K mainGlobals "law" = some (some (.ref f_law)))
    (l_law : K.lookup f_law = some ⟨oc_law, od_law, .func (PySem.W.fnOf "law" "law" (defArgs s_law) (defBody s_law) (defScope s_law) .none kV_law dc_law pm_law an_law (.ref cLaw) ct_law), sl_law⟩)
    (c_law : PySem.W.codeIn K (.ref cLaw) "law" = true)
    (k_law : PySem.W.keepIn K (.ref f_law) = true)
    (lc_law : K.lookup cLaw = some ⟨ccl_law, cdd_law, .fields vs_law, ccs_law⟩)
    (v11_law : vs_law[11]? = some (.ref Pt))
    (hd_law : PySem.W.codeHdIn K cLaw Pt = true)
    (nT_law : K.lookup Pt = none)
    (hT_law : h.get? Pt = some { cls := .none, data := .fields #[] })
    {tk_GREATEST_POWER : Tok}
    (g_GREATEST_POWER : PySem.W.nsIn K mainGlobals "GREATEST_POWER" = some (some (.int 400 tk_GREATEST_POWER)))
    (aC_CE : PySem.W.nsIn K mainGlobals "EchoError" = some (some (.ref CE)))
    (aC_CB : PySem.W.nsIn K mainGlobals "BadForm" = some (some (.ref CB)))
    (aC_CU : PySem.W.nsIn K mainGlobals "Unfit" = some (some (.ref CU)))
    (aC_CT : PySem.W.nsIn K mainGlobals "NoText" = some (some (.ref CT)))
    (aC_CM : PySem.W.nsIn K mainGlobals "NoMatrix" = some (some (.ref CM)))
    (aC_CN : PySem.W.nsIn K mainGlobals "NoFraction" = some (some (.ref CN)))
    (xN : PySem.W.excIn K CN E1.bmA "ArithmeticError.__new__" = true)
    (kN : PySem.W.keepIn K (.ref CN) = true)
    (bN : PySem.W.subIn K (.ref CN) (.type "BaseException") = some true)
    (tN : PySem.W.typeIn K (.ref CN) = some (.type "type"))
    (gaN : PySem.W.findIn K (.ref CN) "__getattribute__" = some (some (.builtin "BaseException.__getattribute__")))
    (ggN : PySem.W.findIn K (.ref CN) "__getattr__" = some none)
    (hdN : PySem.W.hasDictIn K CN = true)
    (haN : PySem.W.findIn K (.ref CN) "__class__" = some (some (.builtin "object.__class__")))
    (hnN : PySem.W.specialIn K (.builtin "object.__class__") "__get__" = some (some (.builtin "getset_descriptor.__get__")))
    (htN : PySem.W.takesIn K (.builtin "object.__class__") = some true)
    (hmN : PySem.W.mroIn K CN (.type "object") = some true)
    (xm : PySem.W.exmOne K (.ref CN) (.ref CE) = some true)
    (ki_N : PySem.W.kitOne K (.ref CN) (.ref CN) = some true)
    (ki_B : PySem.W.kitOne K (.ref CN) (.ref CB) = some false)
    (ki_U : PySem.W.kitOne K (.ref CN) (.ref CU) = some false)
    (ki_T : PySem.W.kitOne K (.ref CN) (.ref CT) = some false)
    (ki_M : PySem.W.kitOne K (.ref CN) (.ref CM) = some false)
    (ki_A : PySem.W.kitOne K (.ref CN) (.type "ArithmeticError") = some true)
    (ki_V : PySem.W.kitOne K (.ref CN) (.type "ValueError") = some false)
    (z_isinstance : PySem.W.nsIn K mainGlobals "isinstance" = some none)
    (z_int : PySem.W.nsIn K mainGlobals "int" = some none)
    (z_bool : PySem.W.nsIn K mainGlobals "bool" = some none)
    (z_tuple : PySem.W.nsIn K mainGlobals "tuple" = some none)
    (z_len : PySem.W.nsIn K mainGlobals "len" = some none)
    (z_abs : PySem.W.nsIn K mainGlobals "abs" = some none)
    (z_ValueError : PySem.W.nsIn K mainGlobals "ValueError" = some none)
    (z_str : PySem.W.nsIn K mainGlobals "str" = some none)
    (z_all : PySem.W.nsIn K mainGlobals "all" = some none)
    (z_A : PySem.W.nsIn K mainGlobals "ArithmeticError" = some none) :
    LamX.LawAtS l w K CX0 8 63 "_law_script" mg fa h := by
  have F_is_whole := fun_mk (st := s_is_whole) l_is_whole c_is_whole k_is_whole
  have b_is_whole := F_is_whole.binds (ps := ["thing"]) fun _ _ _ _ _ _ us hl => match us, hl with | [_], _ => rfl
  have F_is_fraction := fun_mk (st := s_is_fraction) l_is_fraction c_is_fraction k_is_fraction
  have b_is_fraction := F_is_fraction.binds (ps := ["thing"]) fun _ _ _ _ _ _ us hl => match us, hl with | [_], _ => rfl
  have F_shared_divisor := fun_mk (st := s_shared_divisor) l_shared_divisor c_shared_divisor k_shared_divisor
  have b_shared_divisor := F_shared_divisor.binds (ps := ["top", "bottom"]) fun _ _ _ _ _ _ us hl => match us, hl with | [_, _], _ => rfl
  have F_lowest := fun_mk (st := s_lowest) l_lowest c_lowest k_lowest
  have b_lowest := F_lowest.binds (ps := ["top", "bottom"]) fun _ _ _ _ _ _ us hl => match us, hl with | [_, _], _ => rfl
  have F_fraction : FunD K "fraction" "fraction" (defArgs s_fraction) (defBody s_fraction) (defScope s_fraction) [V.int 1] [] f_fraction _ := ⟨⟨_, _, _, _, _, _, _, _, _, _, rfl, l_fraction, c_fraction, .inr ⟨by simp, T_fraction, _, [Value.int 1 tk_fraction_0], _, rfl, t_fraction, rfl, (.cons ⟨_, rfl⟩ .nil)⟩, .inl rfl⟩, k_fraction⟩
  obtain ⟨ds_fraction, dv_fraction, b_fraction⟩ := F_fraction.binds1 (ps := ["top", "bottom"]) 2 1 (by simp) rfl fun _ _ _ _ _ _ _ us its h1 h2 => match us, its, h1, h2 with | [_, _], [_], _, _ => ⟨_, rfl, rfl⟩
  cases dv_fraction
  obtain ⟨ds_fraction1, dv_fraction1, b_fraction1⟩ := F_fraction.binds1 (ps := ["top", "bottom"]) 1 0 (by simp) rfl fun _ _ _ _ _ _ _ us its h1 h2 => match us, its, h1, h2 with | [_], [_], _, _ => ⟨_, rfl, rfl⟩
  have F_divided := fun_mk (st := s_divided) l_divided c_divided k_divided
  have b_divided := F_divided.binds (ps := ["one", "other"]) fun _ _ _ _ _ _ us hl => match us, hl with | [_, _], _ => rfl
  have F_two_to := fun_mk (st := s_two_to) l_two_to c_two_to k_two_to
  have b_two_to := F_two_to.binds (ps := ["many"]) fun _ _ _ _ _ _ us hl => match us, hl with | [_], _ => rfl
  have F__law_cell_at := fun_mk (st := s__law_cell_at) l__law_cell_at c__law_cell_at k__law_cell_at
  have b__law_cell_at := F__law_cell_at.binds (ps := ["_law_script", "_law_k"]) fun _ _ _ _ _ _ us hl => match us, hl with | [_, _], _ => rfl
  have F__law_well := fun_mk (st := s__law_well) l__law_well c__law_well k__law_well
  have b__law_well := F__law_well.binds (ps := ["_law_cell"]) fun _ _ _ _ _ _ us hl => match us, hl with | [_], _ => rfl
  have F__law_draw := fun_mk (st := s__law_draw) l__law_draw c__law_draw k__law_draw
  have b__law_draw := F__law_draw.binds (ps := ["_law_well_here", "_law_much"]) fun _ _ _ _ _ _ us hl => match us, hl with | [_, _], _ => rfl
  have F__law_refused := fun_mk (st := s__law_refused) l__law_refused c__law_refused k__law_refused
  have b__law_refused := F__law_refused.binds (ps := ["_law_deed"]) fun _ _ _ _ _ _ us hl => match us, hl with | [_], _ => rfl
  have F__law_bad := fun_mk (st := s__law_bad) l__law_bad c__law_bad k__law_bad
  have b__law_bad := F__law_bad.binds (ps := ["_law_at", "_law_whole"]) fun _ _ _ _ _ _ us hl => match us, hl with | [_, _], _ => rfl
  have F_law : FunC K "law" s_law f_law (PySem.W.fnOf "law" "law" (defArgs s_law) (defBody s_law) (defScope s_law) .none kV_law dc_law pm_law an_law (.ref cLaw) ct_law) cLaw := ⟨_, _, _, _, _, _, _, _, rfl, l_law, c_law⟩
  have kbf1 := FunD.kbn (n := 1) (ks := ["bottom"]) (ps := ["top", "bottom"]) F_fraction (by simp) (g := fun us ws => us ++ ws) (gV := fun vs zs => vs ++ zs) (fun r s => Vals.append r s) fun _ _ _ _ _ _ _ us ws its h1 h2 h3 => match us, ws, its, h1, h2, h3 with | [_], [_], [_], _, _, _ => ⟨_, rfl, rfl⟩
  have kbf0 := FunD.kbn (n := 0) (ks := ["bottom", "top"]) (ps := ["top", "bottom"]) F_fraction (by simp) (g := fun us ws => us ++ ws.reverse) (gV := fun vs zs => vs ++ zs.reverse) (fun r s => Vals.append r (Vals.rev s)) fun _ _ _ _ _ _ _ us ws its h1 h2 h3 => match us, ws, its, h1, h2, h3 with | [], [_, _], [_], _, _, _ => ⟨_, rfl, rfl⟩
  have kbd := Fun.kbn (n := 0) (ks := ["other", "one"]) (ps := ["one", "other"]) F_divided (g := fun us ws => us ++ ws.reverse) (gV := fun vs zs => vs ++ zs.reverse) (fun r s => Vals.append r (Vals.rev s)) fun _ _ _ _ _ _ us ws h1 h2 => match us, ws, h1, h2 with | [], [_, _], _, _ => rfl
  have kbt := Fun.kbn (n := 0) (ks := ["many"]) (ps := ["many"]) F_two_to (g := fun us ws => us ++ ws) (gV := fun vs zs => vs ++ zs) (fun r s => Vals.append r s) fun _ _ _ _ _ _ us ws h1 h2 => match us, ws, h1, h2 with | [], [_], _, _ => rfl
  have z : Zs mg := ⟨PySem.W.mg_none_of X G z_isinstance, PySem.W.mg_none_of X G z_int, PySem.W.mg_none_of X G z_bool, PySem.W.mg_none_of X G z_tuple, PySem.W.mg_none_of X G z_len, PySem.W.mg_none_of X G z_abs, PySem.W.mg_none_of X G z_ValueError, PySem.W.mg_none_of X G z_str, PySem.W.mg_none_of X G z_all⟩
  have e := hfa.symm.trans (PySem.W.mg_of X G a_law)
  cases e
  have one : ∀ {p : Addr × Addr}, p ∈ [(cLaw, Pt)] → p = (cLaw, Pt) := fun h => List.mem_singleton.mp h
  refine ⟨PySem.W.fnOf "law" "law" (defArgs s_law) (defBody s_law) (defScope s_law) .none kV_law dc_law pm_law an_law (.ref cLaw) ct_law, [(cLaw, Pt)], spLaw K Pt, fun p hp => by rw [one hp]; exact hT_law, fun p hp => by rw [one hp]; exact nT_law, fun p hp => by rw [one hp]; exact PySem.W.codeHd_of_K X hd_law, fun s v => .of_eq rfl, fun H a ns hl _ hH hS => ⟨a, ns, rfl, hS, hl, hH _ List.mem_cons_self, fun _ => rfl⟩, fun base _ _ TBs => ?_⟩
  have TB := TBs _ List.mem_cons_self
  have c_is_whole : Cal l.prog w K mg base 1 "is_whole" ["thing"] _ := ⟨f_is_whole, _, PySem.W.mg_of X G a_is_whole, k_is_whole, b_is_whole, ok_is_whole (k := 0) F_is_whole z⟩
  have c_shared_divisor : Cal l.prog w K mg base 1 "shared_divisor" ["top", "bottom"] _ := ⟨f_shared_divisor, _, PySem.W.mg_of X G a_shared_divisor, k_shared_divisor, b_shared_divisor, ok_shared_divisor (k := 0) F_shared_divisor z⟩
  have c_lowest : Cal l.prog w K mg base 2 "lowest" ["top", "bottom"] _ := ⟨f_lowest, _, PySem.W.mg_of X G a_lowest, k_lowest, b_lowest, ok_lowest F_lowest c_shared_divisor⟩
  have NF : NoF K mg CN := ⟨PySem.W.mg_of X G aC_CN, xN, kN, bN, tN⟩
  have XX : Errs K mg CE CN CB CU CT CM := ⟨PySem.W.mg_of X G aC_CE, PySem.W.mg_of X G aC_CN, PySem.W.mg_of X G aC_CB, PySem.W.mg_of X G aC_CU, PySem.W.mg_of X G aC_CT, PySem.W.mg_of X G aC_CM, PySem.W.mg_none_of X G z_A, ⟨gaN, ggN, bN, hdN, haN, hnN, htN, hmN⟩, xm, ki_N, ki_B, ki_U, ki_T, ki_M, ki_A, ki_V⟩
  have okF := ok_fraction (base := base) NF F_fraction c_is_whole c_lowest
  have okD := ok_divided (P := l.prog) (w := w) (base := base) NF F_divided
  have okT := ok_two_to (base := base) NF F_two_to z c_is_whole ⟨_, PySem.W.mg_of X G g_GREATEST_POWER⟩
  have c_fraction : CalX l.prog w K mg base 3 "fraction" ["top", "bottom"] [] _ := ⟨f_fraction, _, _, PySem.W.mg_of X G a_fraction, k_fraction, .nil, b_fraction, okF⟩
  have c_fraction_1 : CalX l.prog w K mg base 3 "fraction" ["top", "bottom"] [V.int 1] _ := ⟨f_fraction, _, _, PySem.W.mg_of X G a_fraction, k_fraction, dv_fraction1, b_fraction1, okF⟩
  have c_f1 : CalXK l.prog w K mg base 3 "fraction" ["top", "bottom"] 1 ["bottom"] _ _ := ⟨f_fraction, _, _, PySem.W.mg_of X G a_fraction, k_fraction, kbf1, okF⟩
  have c_f0 : CalXK l.prog w K mg base 3 "fraction" ["top", "bottom"] 0 ["bottom", "top"] _ _ := ⟨f_fraction, _, _, PySem.W.mg_of X G a_fraction, k_fraction, kbf0, okF⟩
  have c_divided : CalX l.prog w K mg base 1 "divided" ["one", "other"] [] _ := ⟨f_divided, _, _, PySem.W.mg_of X G a_divided, k_divided, .nil, b_divided, okD⟩
  have c_d0 : CalXK l.prog w K mg base 1 "divided" ["one", "other"] 0 ["other", "one"] _ _ := ⟨f_divided, _, _, PySem.W.mg_of X G a_divided, k_divided, kbd, okD⟩
  have c_two_to : CalX l.prog w K mg base 2 "two_to" ["many"] [] _ := ⟨f_two_to, _, _, PySem.W.mg_of X G a_two_to, k_two_to, .nil, b_two_to, okT⟩
  have c_t0 : CalXK l.prog w K mg base 2 "two_to" ["many"] 0 ["many"] _ _ := ⟨f_two_to, _, _, PySem.W.mg_of X G a_two_to, k_two_to, kbt, okT⟩
  have c_is_fraction : Cal l.prog w K mg base 2 "is_fraction" ["thing"] _ := ⟨f_is_fraction, _, PySem.W.mg_of X G a_is_fraction, k_is_fraction, b_is_fraction, ok_is_fraction F_is_fraction z c_is_whole c_shared_divisor⟩
  have c__law_cell_at : Cal l.prog w K mg base 1 "_law_cell_at" ["_law_script", "_law_k"] _ := ⟨f__law_cell_at, _, PySem.W.mg_of X G a__law_cell_at, k__law_cell_at, b__law_cell_at, ok_cell (k := 0) F__law_cell_at z.len⟩
  have c__law_well : Cal l.prog w K mg base 1 "_law_well" ["_law_cell"] _ := ⟨f__law_well, _, PySem.W.mg_of X G a__law_well, k__law_well, b__law_well, ok_well (k := 0) F__law_well z.int⟩
  have c__law_draw : Cal l.prog w K mg base 1 "_law_draw" ["_law_well_here", "_law_much"] _ := ⟨f__law_draw, _, PySem.W.mg_of X G a__law_draw, k__law_draw, b__law_draw, ok_draw (k := 0) F__law_draw⟩
  have c__law_bad : Cal l.prog w K mg base 1 "_law_bad" ["_law_at", "_law_whole"] _ := ⟨f__law_bad, _, PySem.W.mg_of X G a__law_bad, k__law_bad, b__law_bad, ok__law_bad (k := 0) F__law_bad z⟩
  exact ok_law F_law z XX TB F__law_refused (PySem.W.mg_of X G a__law_refused) b__law_refused c__law_cell_at c__law_well c__law_draw c__law_bad c_is_fraction c_fraction c_fraction_1 c_f1 c_f0 c_divided c_d0 c_two_to c_t0

end E1

open PySem PySem.W PyProof.Rows
set_option maxRecDepth 100000 in
set_option maxHeartbeats 0 in
theorem PySem.Challenge.cw_echobound_k02_what_makes_no_fraction_holds : PySem.Challenge.rw_echobound_k02_what_makes_no_fraction.Holds := by
  w_on; o_law; km_head; (case hw => w_witness2)
  k_fill
  refine LamX.walk_ofTs (l := PySem.Challenge.rw_echobound_k02_what_makes_no_fraction) (n := 63) (k := 8) (x := "_law_script") (CX := fun _ => L2.CX0) rfl (by decide) rfl ⟨rfl, by decide, by decide⟩ (fun w h Y => PySem.W.km_in_of Y) ?F (fun _ _ _ _ _ h => h)
  case F =>
    intro w mg fa h Y KX G hmg
    refine' E1.all_mk KX G hmg ?a_is_whole ?l_is_whole ?c_is_whole ?k_is_whole ?a_is_fraction ?l_is_fraction ?c_is_fraction ?k_is_fraction ?a_shared_divisor ?l_shared_divisor ?c_shared_divisor ?k_shared_divisor ?a_lowest ?l_lowest ?c_lowest ?k_lowest ?a_fraction ?l_fraction ?c_fraction ?k_fraction ?t_fraction ?a_divided ?l_divided ?c_divided ?k_divided ?a_two_to ?l_two_to ?c_two_to ?k_two_to ?a__law_cell_at ?l__law_cell_at ?c__law_cell_at ?k__law_cell_at ?a__law_well ?l__law_well ?c__law_well ?k__law_well ?a__law_draw ?l__law_draw ?c__law_draw ?k__law_draw ?a__law_refused ?l__law_refused ?c__law_refused ?k__law_refused ?a__law_bad ?l__law_bad ?c__law_bad ?k__law_bad ?a_law ?l_law ?c_law ?k_law ?lc_law ?v11_law ?hd_law ?nT_law ?hT_law ?g_GREATEST_POWER ?aC_CE ?aC_CB ?aC_CU ?aC_CT ?aC_CM ?aC_CN ?xN ?kN ?bN ?tN ?gaN ?ggN ?hdN ?haN ?hnN ?htN ?hmN ?xm ?ki_N ?ki_B ?ki_U ?ki_T ?ki_M ?ki_A ?ki_V ?z_isinstance ?z_int ?z_bool ?z_tuple ?z_len ?z_abs ?z_ValueError ?z_str ?z_all ?z_A
    (case a_is_whole => k_is)
    (case l_is_whole => k_is)
    (case c_is_whole => k_is)
    (case k_is_whole => k_is)
    (case a_is_fraction => k_is)
    (case l_is_fraction => k_is)
    (case c_is_fraction => k_is)
    (case k_is_fraction => k_is)
    (case a_shared_divisor => k_is)
    (case l_shared_divisor => k_is)
    (case c_shared_divisor => k_is)
    (case k_shared_divisor => k_is)
    (case a_lowest => k_is)
    (case l_lowest => k_is)
    (case c_lowest => k_is)
    (case k_lowest => k_is)
    (case a_fraction => k_is)
    (case l_fraction => k_is)
    (case c_fraction => k_is)
    (case k_fraction => k_is)
    (case t_fraction => k_is)
    (case a_divided => k_is)
    (case l_divided => k_is)
    (case c_divided => k_is)
    (case k_divided => k_is)
    (case a_two_to => k_is)
    (case l_two_to => k_is)
    (case c_two_to => k_is)
    (case k_two_to => k_is)
    (case a__law_cell_at => k_is)
    (case l__law_cell_at => k_is)
    (case c__law_cell_at => k_is)
    (case k__law_cell_at => k_is)
    (case a__law_well => k_is)
    (case l__law_well => k_is)
    (case c__law_well => k_is)
    (case k__law_well => k_is)
    (case a__law_draw => k_is)
    (case l__law_draw => k_is)
    (case c__law_draw => k_is)
    (case k__law_draw => k_is)
    (case a__law_refused => k_is)
    (case l__law_refused => k_is)
    (case c__law_refused => k_is)
    (case k__law_refused => k_is)
    (case a__law_bad => k_is)
    (case l__law_bad => k_is)
    (case c__law_bad => k_is)
    (case k__law_bad => k_is)
    (case a_law => k_is)
    (case l_law => k_is)
    (case c_law => k_is)
    (case k_law => k_is)
    (case lc_law => k_is)
    (case v11_law => rfl)
    (case hd_law => first | kernel_rfl | rfl | decide +kernel)
    (case nT_law => first | kernel_rfl | rfl | decide +kernel)
    (case hT_law => exact PySem.W.km_tabs_of Y _ (by first | k_mem | decide | simp))
    (case g_GREATEST_POWER => k_is)
    (case aC_CE => k_is)
    (case aC_CB => k_is)
    (case aC_CU => k_is)
    (case aC_CT => k_is)
    (case aC_CM => k_is)
    (case aC_CN => k_is)
    (case xN => k_exc)
    (case kN => k_is)
    (case bN => k_is)
    (case tN => k_is)
    (case gaN => k_is)
    (case ggN => k_is)
    (case hdN => k_is)
    (case haN => k_is)
    (case hnN => k_is)
    (case htN => k_is)
    (case hmN => k_is)
    (case xm => kts_exm)
    (case ki_N => kit_is)
    (case ki_B => kit_is)
    (case ki_U => kit_is)
    (case ki_T => kit_is)
    (case ki_M => kit_is)
    (case ki_A => kit_is)
    (case ki_V => kit_is)
    (case z_isinstance => k_is)
    (case z_int => k_is)
    (case z_bool => k_is)
    (case z_tuple => k_is)
    (case z_len => k_is)
    (case z_abs => k_is)
    (case z_ValueError => k_is)
    (case z_str => k_is)
    (case z_all => k_is)
    (case z_A => k_is)
