import PyProof.Rows.All
import Wide.All
import OpenK.AllK
import Wide.FinOn
import PyProof.EqAt
import PyProof.EqKinds
import PyProof.TupleCall
import HandS.ForMost
import HandS.Wide
import HandS.Codes
import HandS.TupLe
import HandS.Star
import HandS.StrMore
import HandS.FStr
import HandS.Evl
import HandS.Exc
import HandS.TryMany
import HandS.ExcInit
import HandS.ExcField
import HandS.WideBits
import HandS.WordsExc
import HandS.Walk
import HandS.SortRule
import KE.SortData
import HandS.Dict
import KE.DataCmp
import KE.GoesEnum
import HandS.IsInst
import HandS.DictComp
import HandS.More
import PySem.Challenge.RW_suffixhouse_k17_orders_with_and_without
set_option Elab.async false
set_option linter.all false
set_option maxRecDepth 100000
set_option maxHeartbeats 4000000
namespace SH
open PySem PySem.Spec PyProof.Rows L2
section
variable {P : Program} {w : World} {K : PySem.W.Frag} {mg : Str → Option Value} {base : Heap}
/-- a def of the top as it stands: its text, its name's value, how it binds -/
structure Dd (K : PySem.W.Frag) (mg : Str → Option Value) (x : Str) (st : Stmt) (ps : List Str) : Prop where
  ex : ∃ (f : Addr) (fd : FuncData), Fun K x x st f fd ∧ mg x = some (.ref f) ∧ Binds K fd ps []
/-- a def that lets nothing out, callable by its name -/
abbrev Cl (P : Program) (w : World) (K : PySem.W.Frag) (mg : Str → Option Value) (base : Heap) (k : Nat) (x : Str) (sp : Sp) : Prop := C8.Cal P w K mg base k x sp []
/-- a def that may raise -/
structure ClX (P : Program) (w : World) (K : PySem.W.Frag) (mg : Str → Option Value) (base : Heap) (k : Nat) (x : Str) (sp : Sp) : Prop where
  ex : ∃ (f : Addr) (fd : FuncData) (ps : List Str), FnOk P w K mg base (L2.CX P w) k f fd ps sp ∧ mg x = some (.ref f) ∧ PySem.W.keepIn K (.ref f) = true ∧ Binds K fd ps []
theorem cl_of {x : Str} {st : Stmt} {ps N : List Str} {k : Nat} {sp : Sp} (D : Dd K mg x st ps) (S : FnScope N ps (defScope st)) (len : ∀ vs H Q E, sp vs H Q E → vs.length = ps.length)
    (hbody : ∀ (f : Addr) (cdv : Value) (A : Around) (outer : List Env) (s : Shared) (H : Hp) (vs : List V) (Q : VK) (E : XK), Room k (A.deeper (envOfC x (defScope st) s.heap.objs.size f cdv)) → sp vs H Q E →
      ∃ t, PSs (cxOf CX0 P w K mg base N x (defScope st) f cdv A outer s H E).nox (defBody st) t ∧ t { nx := fun _ H' => Q .non H', rt := Q } (start N vs) H) : Cl P w K mg base (k + 1) x sp := by
  obtain ⟨f, fd, F, hm, b⟩ := D.ex
  exact ⟨f, fd, ps, [], F.ok S len (fun cdv A outer s H vs Q E hr h => hbody f cdv A outer s H vs Q E hr h), hm, F.kp, b, .nil⟩
theorem clx_of {x : Str} {st : Stmt} {ps N : List Str} {k : Nat} {sp : Sp} (D : Dd K mg x st ps) (S : FnScope N ps (defScope st)) (len : ∀ vs H Q E, sp vs H Q E → vs.length = ps.length)
    (hbody : ∀ (f : Addr) (cdv : Value) (A : Around) (outer : List Env) (s : Shared) (H : Hp) (vs : List V) (Q : VK) (E : XK), Room k (A.deeper (envOfC x (defScope st) s.heap.objs.size f cdv)) → sp vs H Q E →
      ∃ t, PSs (cxOf (L2.CX P w) P w K mg base N x (defScope st) f cdv A outer s H E) (defBody st) t ∧ t { nx := fun _ H' => Q .non H', rt := Q } (start N vs) H) : ClX P w K mg base (k + 1) x sp := by
  obtain ⟨f, fd, F, hm, b⟩ := D.ex
  exact ⟨f, fd, ps, F.okX S len (fun cdv A outer s H vs Q E hr h => hbody f cdv A outer s H vs Q E hr h), hm, F.kp, b⟩
end
section
variable {X : Cx} {k j : Nat} {x : Str} {sp : Sp} {p pos : Pos} {e : Expr} {es : List Expr} {t : TA}
/-- f(e, ..) of a def that may raise, in a try's body or where it passes on -/
theorem pe_cx (c : ClX X.prog X.w X.K X.mg X.base k x sp) {E : L2.St → XK} (hr : Room j X.A) (hk : k ≤ j) (hx : ∀ σ, PassesAt (L2.CX X.prog X.w) X σ (E σ)) (hg : Gl X x) (ha : PA X (e :: es) t)
    (hdb : (x == ("__debug__" : Str)) = false := by decide) (he : starEach (e :: es) X.env = (false, eval e X.env) :: starEach es X.env := by rfl) (hpl : (backTo pos (starEach es X.env)).any (·.1) = false := by rfl) :
    PE X (.Call (.Name x p) (e :: es) [] pos) (tCallS sp E t) := by
  obtain ⟨f, fd, ps, F, hm, kp, b⟩ := c.ex
  exact pe_callS F (hr.mono hk) hg hm kp b hx ha hdb he hpl
end
theorem ixt {X : Cx} {K : PySem.W.Frag} (h : X.K = K := by rfl) : IxR X (rIxT K) := h ▸ ix_tup
theorem ixl {X : Cx} {K : PySem.W.Frag} (h : X.K = K := by rfl) : IxR X (rIxL K) := h ▸ ix_list
/-- a module's number -/
theorem pe_k {X : Cx} {x : Str} {pos : Pos} {v : Int} (h : ∃ t, X.mg x = some (.int v t)) (hg : Gl X x := by rfl) (hdb : (x == ("__debug__" : Str)) = false := by decide) : PE X (.Name x pos) (tC (.int v)) := by
  obtain ⟨t, h⟩ := h
  exact pe_glob hg h ⟨t, rfl⟩ hdb
/-! ### numbers drawn: a list of small numbers -/
def Dr (ns : List Int) : Prop := ns.length ≤ 4000 ∧ ∀ n ∈ ns, 0 ≤ n ∧ n < 65536
/-- r(draws, k, many): a number from 0 below many -/
def spDraw (K : PySem.W.Frag) : Sp := fun vs H Q _ => ∃ (a : Addr) (ns : List Int) (k many : Int), vs = [.ref a, .int k, .int many] ∧ SqL K H a (ns.map V.int) ∧ Dr ns ∧ 0 ≤ k ∧ k < 100000 ∧ 0 < many ∧ ∀ r : Int, 0 ≤ r → r < many → Q (.int r) H
theorem at_ints {ns : List Int} {i : Int} (h0 : 0 ≤ i) (h1 : i < ns.length) : ∃ z, atI (ns.map V.int) i = some (.int z) ∧ z ∈ ns := by
  obtain ⟨j, rfl⟩ : ∃ j : Nat, i = j := ⟨i.toNat, by omega⟩
  have hj : j < ns.length := by omega
  refine ⟨ns[j], ?_, List.getElem_mem hj⟩
  refine atI_nat ?_
  rw [List.getElem?_map, List.getElem?_eq_getElem hj]
  rfl
/-! ### heaps -/
theorem same_new {H : Hp} {p : Addr} {o : HO} (h : H p = none) : Same H (upd H p o) := fun b x e => by
  rw [upd_ne (ne_of_none e h)]
  exact e
theorem same_mut {H H' : Hp} {p : Addr} {o : HO} (e : Same H H') (h : H p = none) : Same H (upd H' p o) := fun b x hb => by
  rw [upd_ne (ne_of_none hb h)]
  exact e b x hb
theorem same_tup {K : PySem.W.Frag} {H H' : Hp} {a : Addr} {xs : List V} (e : Same H H') (h : SqT K H a xs) : SqT K H' a xs := by
  rcases h with (h | ⟨o, h⟩) | h
  · exact .inl (.inl (e _ _ h))
  · exact .inl (.inr ⟨o, e _ _ h⟩)
  · exact .inr h
/-! ### texts of letters -/
def okc (c : Nat) : Bool := decide (32 ≤ c) && (decide (c ≤ 126) && decide (c ≠ 37))
def IsLet (z : Str) : Prop := z.cps.toList.all okc = true
instance (z : Str) : Decidable (IsLet z) := inferInstanceAs (Decidable (_ = true))
theorem str_at {z : Str} {i : Int} (h0 : 0 ≤ i) (h1 : i < (z.cps.toList.length : Int)) : ∃ c, atI z.cps.toList i = some c ∧ c ∈ z.cps.toList := by
  obtain ⟨j, rfl⟩ : ∃ j : Nat, i = j := ⟨i.toNat, by omega⟩
  have hj : j < z.cps.toList.length := by omega
  exact ⟨z.cps.toList[j], atI_nat (List.getElem?_eq_getElem hj), List.getElem_mem hj⟩
theorem let_at {z : Str} {c : Nat} (h : IsLet z) (hc : c ∈ z.cps.toList) : IsLet ⟨#[c]⟩ := by
  have := List.all_eq_true.mp h c hc
  show ([c].all okc) = true
  simp [this]
theorem let_app {a b : Str} (ha : IsLet a) (hb : IsLet b) : IsLet (a ++ b) := by
  have e : (a ++ b).cps.toList = a.cps.toList ++ b.cps.toList := TL.tl_append a b
  show (a ++ b).cps.toList.all okc = true
  rw [e, List.all_append, Bool.and_eq_true]
  exact ⟨ha, hb⟩
theorem len_app (a b : Str) : (a ++ b).length = a.length + b.length := by
  have e : (a ++ b).cps.toList = a.cps.toList ++ b.cps.toList := TL.tl_append a b
  have e2 := congrArg List.length e
  rw [List.length_append] at e2
  simpa [Str.length] using e2
theorem at_map {α : Type} (f : α → V) {xs : List α} {i : Int} (h0 : 0 ≤ i) (h1 : i < xs.length) : ∃ x, atI (xs.map f) i = some (f x) ∧ x ∈ xs := by
  obtain ⟨j, rfl⟩ : ∃ j : Nat, i = j := ⟨i.toNat, by omega⟩
  have hj : j < xs.length := by omega
  refine ⟨xs[j], ?_, List.getElem_mem hj⟩
  refine atI_nat ?_
  rw [List.getElem?_map, List.getElem?_eq_getElem hj]
  rfl
theorem ixs_let {z : Str} {j : Int} {H : Hp} {Q : VK} (hz : IsLet z) (hl : z.length ≤ sizeLine) (h0 : 0 ≤ j) (h1 : j < (z.cps.toList.length : Int)) (h : ∀ c, okc c = true → Q (.str ⟨#[c]⟩) H) : rIxS (.str z) (.int j) H Q := by
  obtain ⟨c, hc, hm⟩ := str_at h0 h1
  exact ⟨z, j, c, rfl, rfl, hl, hc, h c (List.all_eq_true.mp hz c hm)⟩
theorem let_one {c : Nat} (h : okc c = true) : IsLet ⟨#[c]⟩ := by
  show ([c].all okc) = true
  simp [h]
/-! ### houses: pairs of a number and a text, each at its address -/
abbrev PL := List (Addr × Int × Str)
def refs (L : PL) : List V := L.map fun q => V.ref q.1
def PairsAt (K : PySem.W.Frag) (H : Hp) (L : PL) : Prop := ∀ q ∈ L, SqT K H q.1 [.int q.2.1, .str q.2.2]
def HsAt (K : PySem.W.Frag) (H : Hp) (a : Addr) (L : PL) : Prop := SqL K H a (refs L) ∧ PairsAt K H L
theorem PairsAt.same {K : PySem.W.Frag} {H H' : Hp} {L : PL} (e : Same H H') (h : PairsAt K H L) : PairsAt K H' L := fun q hq => same_tup e (h q hq)
theorem HsAt.same {K : PySem.W.Frag} {H H' : Hp} {a : Addr} {L : PL} (e : Same H H') (h : HsAt K H a L) : HsAt K H' a L := ⟨e.seq h.1, h.2.same e⟩
/-- numbers ascending from 0 to 99, texts of at most m letters -/
structure IsHs (m : Nat) (h : List (Int × Str)) : Prop where
  asc : (h.map (·.1)).Pairwise (· < ·)
  num : ∀ q ∈ h, 0 ≤ q.1 ∧ q.1 ≤ 99
  txt : ∀ q ∈ h, IsLet q.2 ∧ q.2.length ≤ m
/-- == of data, the frame said -/
theorem op_eqDK {X : Cx} {K : PySem.W.Frag} (hu : X.A.units + 64 < cLine) (h : X.K = K := by rfl) : OpR X (compareOp .Eq) (rEqD K) := h ▸ op_eqD hu
theorem op_neDK {X : Cx} {K : PySem.W.Frag} (hu : X.A.units + 64 < cLine) (h : X.K = K := by rfl) : OpR X (compareOp .NotEq) (rNeD K) := h ▸ op_neD hu
end SH
set_option Elab.async false
set_option linter.all false
set_option maxRecDepth 100000
set_option maxHeartbeats 4000000
/-! except clauses, any number, with and without a name -/
namespace SH
open PySem PySem.Spec PyProof.Rows L2
abbrev Suite := Addr → Value → Option Addr → TS
/-- behind a suite whose name is forgotten -/
def gone (i : Nat) (D : Ends) : Ends :=
  ⟨fun τ G => D.nx (τ.set i none) G, D.rt, fun τ G => D.bk (τ.set i none) G, fun τ G => D.ct (τ.set i none) G⟩
/-- how a suite is entered: with its name in slot i, or without one -/
def enter (o : Option Nat) (ts : Suite) (a : Addr) (c : Value) (d : Option Addr) (D : Ends) (τ : L2.St) (G : Hp) : Prop :=
  match o with
  | none => ts a c d D τ G
  | some i => ts a c d (gone i D) (τ.set i (some (.ref a))) G
/-- the clauses' wishes: the first that matches -/
def wHds (K : PySem.W.Frag) (Wo : WX) (D : Ends) : List (Value × Option Nat × Suite) → WX
  | [] => Wo
  | q :: r => fun c d τ G => ∃ b, PySem.W.exmOne K c q.1 = some b ∧ (b = true → ∀ a, G a = none → enter q.2.1 q.2.2 a c d D τ G) ∧ (b = false → wHds K Wo D r c d τ G)
/-- a suite's text does what ts says -/
def SuiteOk (X : Cx) (sts : List Stmt) (ts : Suite) : Prop :=
  ∀ (a : Addr) (o : Obj) (c : Value) (d : Option Addr) (l : List (Addr × Obj)), Zc c d o → (∃ f, o.data = .fields f) → PSs (X.suite a ((a, o) :: l)) sts (ts a c d)
inductive HdsN (X : Cx) : List ExceptHandler → List (Value × Option Nat × Suite) → Prop
  | nil : HdsN X [] []
  | cons {x : Str} {c : Value} {ts : Suite} {u : Stmt} {us : List Stmt} {p p' : Pos} {hs : List ExceptHandler} {l : List (Value × Option Nat × Suite)} :
      Names X x c → SuiteOk X (u :: us) ts → HdsN X hs l → HdsN X (.ExceptHandler (some (.Name x p)) none (u :: us) p' :: hs) ((c, none, ts) :: l)
  | named {x n : Str} {i : Nat} {c : Value} {ts : Suite} {u : Stmt} {us : List Stmt} {p p' : Pos} {hs : List ExceptHandler} {l : List (Value × Option Nat × Suite)} :
      Names X x c → X.N.Nodup → X.N[i]? = some n → X.env.kindOf n = some .local → SuiteOk X (u :: us) ts → HdsN X hs l → HdsN X (.ExceptHandler (some (.Name x p)) (some n) (u :: us) p' :: hs) ((c, some i, ts) :: l)
/-- an exception that has come down to this frame: at a, of the class c, with its dict d, over the ground B -/
structure Down (X : Cx) (pins : List (Addr × Obj)) (B : Heap) (a : Addr) (c : Value) (d : Option Addr) (τ : L2.St) (G : Hp) (s : Shared) : Prop where
  st : X.stack = X.env :: X.outer
  fr : X.env.frame = some X.env.locals
  fl : HandSPX.FlyingZ B (X.env :: X.outer) a (Zc c d) s.heap
  on : ∀ h, B.StaysIn h → s.heap.UpToSlots h → Inv X pins τ G { s with heap := h }
  ok : Inv X pins τ G s
  no : G a = none
  out : ∀ (h : Heap) (W : WX), HandSPX.HeldZ B (X.env :: X.outer) a (Zc c d) X.env.locals h → s.heap.UpToSlots h → W c d τ G → XE X W (.ref a) { s with heap := h }
section
variable {X : Cx} {pins : List (Addr × Obj)} {B : Heap} {a : Addr} {c : Value} {d : Option Addr} {τ : L2.St} {G : Hp} {s : Shared}
theorem Down.inner (Y : Down X pins B a c d τ G s) : ∃ o, s.heap.get? a = some o ∧ Zc c d o ∧ (∃ f, o.data = .fields f) ∧ Inv (X.suite a ((a, o) :: (X.pn ++ pins))) [] τ G s := by
  obtain ⟨o, f, ga, za, da⟩ := Y.fl.there
  have away : a ∉ frs (X.env :: X.outer) := by
    intro m
    obtain ⟨-, o', g', nf⟩ := Y.fl.2.2.1.mem m
    cases ga.symm.trans g'
    exact nf _ da
  refine ⟨o, ga, za, ⟨f, da⟩, Y.ok.suite ga da Y.no ?_ ?_⟩
  · intro z
    refine away (List.mem_filterMap.mpr ⟨X.env, List.mem_cons_self, ?_⟩)
    rw [Y.fr, z]
  · intro m
    obtain ⟨e, me, q⟩ := List.mem_filterMap.mp m
    exact away (List.mem_filterMap.mpr ⟨e, List.mem_cons_of_mem _ me, q⟩)
/-- the clause's name is asked, and whether the exception is of it -/
theorem Down.asked (Y : Down X pins B a c d τ G s) {x : Str} {p : Pos} {cl : Value} {b : Bool} (nm : Names X x cl) (hb : PySem.W.exmOne X.K c cl = some b) {Q : Bool → Shared → Prop} {E : Value → Shared → Prop} (q : Q b s) :
    wpAny (model X.prog X.w) (X.A.mark (some (.ref a))) (eval (.Name x p) X.env) (fun u s1 => wpAny (model X.prog X.w) (X.A.mark (some (.ref a))) (excMatches (.ref a) u) Q E s1) E s := by
  obtain ⟨o, ga, za, -, S⟩ := Y.inner
  have ty : PySem.W.Looks (model X.prog X.w) s.heap (typeOf (.ref a)) c := fun _ _ _ _ k z => wpAny_typeOf_ref (k _ _ ga) (by rw [za.1]; exact z)
  have mt := (PySem.W.exm_one (M := model X.prog X.w) Y.ok.kIn ty hb).here (A := X.A.mark (some (.ref a))) (Q := Q) (E := E) q
  obtain ⟨g, nd, hm | ⟨hm, hv, nn⟩⟩ := nm
  · exact ld_glob (X := X.suite a ((a, o) :: (X.pn ++ pins))) S g hm mt nd
  · exact ld_blt (X := X.suite a ((a, o) :: (X.pn ++ pins))) S g hm hv mt nn nd
/-- once more at the suite's beginning -/
theorem Down.again (Y : Down X pins B a c d τ G s) {h : Heap} (f : HandSPX.FlyingZ B (X.env :: X.outer) a (Zc c d) h) (u : s.heap.UpToSlots h) : Down X pins B a c d τ G { s with heap := h } :=
  ⟨Y.st, Y.fr, f, fun g k v => Y.on g k (u.trans v), Y.on h f.1 u, Y.no, fun g W k v w => Y.out g W k (u.trans v) w⟩
theorem Down.handle (Y : Down X pins B a c d τ G s) {D : Ends} {Wo : WX} (tk : Takes X Wo) {hs : List ExceptHandler} {l : List (Value × Option Nat × Suite)} (hk : HdsN X hs l) :
    wHds X.K Wo D l c d τ G → wpAny (model X.prog X.w) X.A (handleBy (.ref a) X.env hs) (SP X pins D) X.xe s := by
  induction hk with
  | nil =>
    intro wish
    refine wpAny_handleBy_nil ?_
    obtain ⟨-, -, -, o, f, T, -, -, go, -, dat, f1, -⟩ := id Y.fl
    unfold PySem.passOn
    refine wpAny_bind (wpAny_field go dat f1 ?_)
    rw [if_neg (by simp : ¬ ((Value.ref T == Value.none) = true))]
    have up : wpAny (model X.prog X.w) X.A (setFlight (.ref a) X.env.frame) (fun _ s4 => wpAny (model X.prog X.w) X.A (throw (.ref a) : Sem Flow) (SP X pins D) X.xe s4) X.xe s := by
      rw [Y.fr]
      exact HandSPX.setFlight_upZ Y.fl fun h held u => wpAny_throw (tk _ _ (Y.out h _ held u wish))
    first
      | exact wpAny_bind (wpAny_pure (wpAny_bind up))
      | exact wpAny_bind up
  | @cons x cl ts u us p p' hs l nm so r ih =>
    rintro ⟨b, hb, yes, no⟩
    refine wpAny_handleBy_cons (codeAny_handlers_test (Y.asked nm hb ?_)) (fun z => nomatch z)
    match b, yes, no with
    | false, _, no => exact ih (no rfl)
    | true, yes, _ =>
      refine codeAny_handlers_suite (HandSPX.lands_againZ Y.fl fun h f v => ?_)
      obtain ⟨o, -, zo, fo, S⟩ := (Y.again f v).inner
      refine wpAny_mono ((so a o c d (X.pn ++ pins) zo fo).run [] _ _ G _ S (yes rfl a Y.no)) ?_ (fun _ _ z => z.elim)
      intro g s6 hsp
      match g, hsp with
      | .next, ⟨τ6, G6, S6, z⟩ => exact ⟨τ6, G6, S6.unsuite Y.ok.ok, z⟩
      | .brk, ⟨τ6, G6, S6, z⟩ => exact ⟨τ6, G6, S6.unsuite Y.ok.ok, z⟩
      | .cont, ⟨τ6, G6, S6, z⟩ => exact ⟨τ6, G6, S6.unsuite Y.ok.ok, z⟩
      | .ret u, ⟨v6, τ6, G6, S6, r6, z⟩ => exact ⟨v6, τ6, G6, S6.unsuite Y.ok.ok, r6, z⟩
  | @named x n i cl ts u us p p' hs l nm hN hi ho so r ih =>
    rintro ⟨b, hb, yes, no⟩
    refine wpAny_handleBy_cons (codeAny_handlers_test (Y.asked nm hb ?_)) (fun z => nomatch z)
    match b, yes, no with
    | false, _, no => exact ih (no rfl)
    | true, yes, _ =>
      refine codeAny_handlers_suite_as (HandSPX.lands_againZ Y.fl fun h f v => ?_)
      obtain ⟨o, -, zo, fo, S⟩ := (Y.again f v).inner
      refine store_ok (X := X.suite a ((a, o) :: (X.pn ++ pins))) (v := .ref a) S hN hi (.inl ho) rfl (fun s5 S5 => ?_) (.inr ho)
      refine wpAny_mono ((so a o c d (X.pn ++ pins) zo fo).run [] s5 _ G _ S5 (yes rfl a Y.no)) ?_ (fun _ _ z => z.elim)
      intro g s6 hsp
      match g, hsp with
      | .next, ⟨τ6, G6, S6, z⟩ => exact gone_ok (S6.unsuite Y.ok.ok) hN hi ho fun s7 J => ⟨τ6.set i none, G6, J, z⟩
      | .brk, ⟨τ6, G6, S6, z⟩ => exact gone_ok (S6.unsuite Y.ok.ok) hN hi ho fun s7 J => ⟨τ6.set i none, G6, J, z⟩
      | .cont, ⟨τ6, G6, S6, z⟩ => exact gone_ok (S6.unsuite Y.ok.ok) hN hi ho fun s7 J => ⟨τ6.set i none, G6, J, z⟩
      | .ret u, ⟨v6, τ6, G6, S6, r6, z⟩ => exact gone_ok (S6.unsuite Y.ok.ok) hN hi ho fun s7 J => ⟨v6, τ6.set i none, G6, J, r6, z⟩
end
/-- try: body, any clauses -/
theorem ps_try_hds {X : Cx} {body : List Stmt} {h₀ : ExceptHandler} {hs : List ExceptHandler} {l : List (Value × Option Nat × Suite)} {pos : Pos} {tb : WX → TS} {Wo : WX}
    (st : X.stack = X.env :: X.outer) (fr : X.env.frame = some X.env.locals) (tk : Takes X Wo)
    (bo : ∀ (W : WX) (pn : List (Addr × Obj)) (xe : Value → Shared → Prop), Takes (X.tr pn xe) W → PassesOwn (model X.prog X.w) X.A X.env xe → PSs (X.tr pn xe) body (tb W))
    (hk : HdsN X (h₀ :: hs) l) : PS X (.Try body (h₀ :: hs) [] [] pos) (fun D τ G => tb (wHds X.K Wo D l) D τ G) := by
  constructor
  intro pins s τ G D I q
  have ok := I.ok
  refine wpAny_Try_except (wpAny_mono ((bo (wHds X.K Wo D l) (X.pn ++ pins) _ ?_ PassesOwn.looking).run [] s τ G D (I.toTry _) q) (fun f s1 r => ?_) (fun e s1 r => r))
  · rintro u s2 ⟨a, B, sI, pins', τ2, G2, c, d, rfl, J', nb, up, sky, na, os, ag, wish⟩
    have J := J'.ofTry ok
    have sky2 : Sky B (X.env :: X.outer) a (Zc c d) X.env.locals s2.heap := st ▸ sky
    refine Sky.land Zc.steady (by rw [ok.frames, st]) fr sky2 (fun h f v => ?_)
    refine Down.handle (B := B) (a := a) (c := c) (d := d) (τ := τ2) (G := G2) (s := { s2 with heap := h }) ⟨st, fr, f, fun g k z => J.landed nb k ((up.trans v).trans z) os ag, J.landed nb f.1 (up.trans v) os ag, na, fun g W k z w => ?_⟩ tk hk wish
    exact ⟨a, B, sI, pins, τ2, G2, c, d, rfl, J, nb, (up.trans v).trans z, .inr (.inr (by rw [st]; exact k)), na, os, ag, w⟩
  · match f, r with
    | .next, ⟨τ2, G2, J, z⟩ => exact wpAny_execs_nil ⟨τ2, G2, J.ofTry ok, z⟩
    | .brk, ⟨τ2, G2, J, z⟩ => exact ⟨τ2, G2, J.ofTry ok, z⟩
    | .cont, ⟨τ2, G2, J, z⟩ => exact ⟨τ2, G2, J.ofTry ok, z⟩
    | .ret u, ⟨v, τ2, G2, J, r2, z⟩ => exact ⟨v, τ2, G2, J.ofTry ok, r2, z⟩
end SH
set_option Elab.async false
set_option linter.all false
set_option maxRecDepth 100000
set_option maxHeartbeats 4000000
/-! errors with a number: made by the base's __init__, raised, caught, asked for their number -/
namespace SH
open PySem PySem.Spec PyProof.Rows L2
/-- numbers that an error is made with here -/
def Small (n : Int) : Prop := n.natAbs < 2 ^ 200
theorem small_bits {n : Int} (h : Small n) : decide ((1000 : Int) < ((Builtin.Int.intBits n : Nat) : Int)) = false := by
  have a := PySem.Flt.log2_lt_of (by decide : 0 < 200) h
  have b : Builtin.Int.intBits n ≤ n.natAbs.log2 + 1 := by
    unfold Builtin.Int.intBits
    split <;> omega
  refine decide_eq_false ?_
  omega
theorem small_of {n : Int} (h0 : -1000000 ≤ n) (h1 : n ≤ 1000000) : Small n := Nat.lt_of_le_of_lt (by omega : n.natAbs ≤ 1000000) (by decide)
/-- __init__(self, at) at a new exception: its dict gets the number -/
def spInitAt (K : PySem.W.Frag) : Sp := fun vs H Q _ => ∃ (a C : Addr) (n : Int), vs = [.ref a, .int n] ∧ OexC K C ∧ PySem.W.findIn K (.ref C) "at" = some none ∧ Small n ∧ H a = some (exo a C none) ∧
  ∀ dx : Addr, H dx = none → dx ≠ a → Q .non (upd (upd H dx (exd dx [(("at" : Str), .int n)])) a (exo a C (some dx)))
/-- what the top says of an error's class -/
structure ErrC (K : PySem.W.Frag) (mg : Str → Option Value) (x : Str) (C fI : Addr) : Prop where
  g : mg x = some (.ref C)
  o : OexC K C
  i : PySem.W.findIn K (.ref C) "__init__" = some (some (.ref fI))
  no : PySem.W.findIn K (.ref C) "at" = some none
  f : XfC K C
/-- .. and of the __init__ -/
structure InitOk (P : Program) (w : World) (K : PySem.W.Frag) (mg : Str → Option Value) (base : Heap) (fI : Addr) : Prop where
  ex : ∃ fd : FuncData, FnOk P w K mg base CX0 1 fI fd ["self", "at"] (spInitAt K) ∧ Binds K fd ["self", "at"] [] ∧ PySem.W.typeIn K (.ref fI) = some (.type "function")
/-- .. as it stands in the text -/
structure DdI (K : PySem.W.Frag) (q : Str) (st : Stmt) (fI : Addr) : Prop where
  ex : ∃ fd : FuncData, Fun K "__init__" q st fI fd ∧ Binds K fd ["self", "at"] [] ∧ PySem.W.typeIn K (.ref fI) = some (.type "function")
section
variable {X : Cx} {k : Nat} {x : Str} {C fI : Addr} {e : Expr} {ta : TA} {p pos : Pos}
/-- x(e): a new error of the class at C -/
theorem pmk_at (T : ErrC X.K X.mg x C fI) (I : InitOk X.prog X.w X.K X.mg X.base fI) (hr : Room k X.A) (hk : 2 ≤ k) (hg : Gl X x) (ha : PA X (e :: []) ta)
    (hd : (x == ("__debug__" : Str)) = false := by decide) (he : starEach (e :: []) X.env = (false, eval e X.env) :: starEach [] X.env := by rfl) (hp : (backTo pos (starEach [] X.env)).any (·.1) = false := by rfl) :
    PMk X (.Call (.Name x p) (e :: []) [] pos) (tMkO C (spInitAt X.K) [] ta) := by
  obtain ⟨fd, F, b, t⟩ := I.ex
  exact pmk_oex T.o T.i t F (hr.mono hk) b .nil pass0 hg T.g ha hd he hp
end
/-- the reading of a made error, behind its argument -/
theorem mk_at {K : PySem.W.Frag} {C : Addr} {H1 : Hp} {n : Int} {Q : XK} (To : OexC K C) (Tn : PySem.W.findIn K (.ref C) "at" = some none) (hs : Small n)
    (go : ∀ (d : Addr) (H2 : Hp), Same H1 H2 → H1 d = none → H2 d = some (.xd [(("at" : Str), .int n)]) → Q (.ref C) (some d) H2) :
    [V.int n].length ≤ 1000 ∧ ∀ a, H1 a = none → spInitAt K (.ref a :: ([V.int n] ++ [])) (upd H1 a (exo a C none))
      (fun v H2 => v = .non ∧ ∃ (d : Addr) (fs : List (Str × V)), H2 a = some (exo a C (some d)) ∧ H2 d = some (exd d fs) ∧ H1 d = none ∧ Q (.ref C) (some d) (upd (del H2 a) d (.xd fs))) (fun _ _ _ => False) := by
  refine ⟨(by show 1 ≤ 1000; decide), fun a na => ⟨a, C, n, rfl, To, Tn, hs, upd_same, fun dx ndx ne => ⟨rfl, dx, [(("at" : Str), V.int n)], upd_same, ?_, ?_, ?_⟩⟩⟩
  · rw [upd_ne ne, upd_same]
  · rw [upd_ne ne] at ndx
    exact ndx
  · rw [upd_ne ne] at ndx
    refine go dx _ (fun b o hb => ?_) ndx upd_same
    have b1 : b ≠ dx := ne_of_none hb ndx
    have b2 : b ≠ a := ne_of_none hb na
    rw [upd_ne b1, del_ne b2, upd_ne b2, upd_ne b1, upd_ne b2]
    exact hb
theorem wHds_skip {K : PySem.W.Frag} {Wo : WX} {D : Ends} {q : Value × Option Nat × Suite} {r : List (Value × Option Nat × Suite)} {c : Value} {d : Option Addr} {τ : L2.St} {G : Hp} (h : PySem.W.exmOne K c q.1 = some false)
    (go : wHds K Wo D r c d τ G) : wHds K Wo D (q :: r) c d τ G := ⟨false, h, (fun z => Bool.noConfusion z), fun _ => go⟩
theorem wHds_take {K : PySem.W.Frag} {Wo : WX} {D : Ends} {q : Value × Option Nat × Suite} {r : List (Value × Option Nat × Suite)} {c : Value} {d : Option Addr} {τ : L2.St} {G : Hp} (h : PySem.W.exmOne K c q.1 = some true)
    (go : ∀ a, G a = none → enter q.2.1 q.2.2 a c d D τ G) : wHds K Wo D (q :: r) c d τ G := ⟨true, h, (fun _ => go), (fun z => Bool.noConfusion z)⟩
theorem exm_of {K : PySem.W.Frag} {C D : Addr} {b : Bool} (h1 : PySem.W.subIn K (.ref D) (.type "BaseException") = some true) (h2 : PySem.W.isClsIn K D = true) (h3 : PySem.W.typeIn K (.ref D) = some (.type "type"))
    (h4 : PySem.W.subIn K (.ref C) (.ref D) = some b) : PySem.W.exmOne K (.ref C) (.ref D) = some b := by
  have c1 : (PySem.W.subIn K (.ref D) (.type "BaseException") == some true) = true := by rw [h1]; rfl
  have c2 : ((PySem.W.clsIn K D).isSome && PySem.W.typeIn K (.ref D) == some (.type "type")) = true := by
    have h2' : (PySem.W.clsIn K D).isSome = true := h2
    rw [h3, h2']; rfl
  unfold PySem.W.exmOne
  rw [if_pos c1]
  show (if ((PySem.W.clsIn K D).isSome && PySem.W.typeIn K (.ref D) == some (.type "type")) = true then PySem.W.subIn K (.ref C) (.ref D) else none) = some b
  rw [if_pos c2]
  exact h4
end SH
set_option Elab.async false
set_option linter.all false
set_option maxRecDepth 100000
set_option maxHeartbeats 4000000
namespace SH
open PySem PySem.Spec PyProof.Rows L2
/-! comprehensions whose steps only add to the heap: RL tells what the list made so far is -/
/-- all but what stands at D is as it was -/
def But (D : Addr) (H H' : Hp) : Prop := ∀ b o, b ≠ D → H b = some o → H' b = some o
theorem but_upd {D : Addr} {H : Hp} {o : HO} : But D H (upd H D o) := fun b x n e => by
  rw [upd_ne n]
  exact e
theorem but_tup {K : PySem.W.Frag} {D t : Addr} {H H' : Hp} {l xs : List V} (hD : H D = some (.lst l)) (e : But D H H') (h : SqT K H t xs) : SqT K H' t xs := by
  rcases h with h | h
  · rcases h with h | h
    · refine Or.inl (Or.inl (e _ _ (fun z => ?_) h))
      rw [z, hD] at h
      cases h
    · obtain ⟨o, h⟩ := h
      refine Or.inl (Or.inr ⟨o, e _ _ (fun z => ?_) h⟩)
      rw [z, hD] at h
      cases h
  · exact Or.inr h
theorem but_pairs {K : PySem.W.Frag} {D : Addr} {H H' : Hp} {l : List V} {L : PL} (hD : H D = some (.lst l)) (e : But D H H') (h : PairsAt K H L) : PairsAt K H' L := fun q hq => but_tup hD e (h q hq)
section
variable {J : It} {n : Nat} {G : Hp → Prop} {Y : Nat → Hp → V → Hp → Prop}
theorem lc_w (w : Walk J n G Y) {g : TG} {tt : TT} {te : TE} {vs : List Nat} {τ : L2.St} {H1 : Hp} {D : Addr} {Qd : Hp → Prop} (hD : H1 D = none) (hn : n ≤ 100000) (hG : ∀ H, Same H1 H → G H)
    (RL : Nat → List V → Hp → Prop) (h0 : ∀ H, Same H1 H → RL 0 [] H) (mono : ∀ i acc H H' l, H D = some (.lst l) → But D H H' → RL i acc H → RL i acc H')
    (hY : ∀ i H x H', Y i H x H' → Same H H')
    (hs : ∀ (i : Nat) (x : V) (acc : List V) (H H' : Hp) (Qn : VK) (Qf : Hp → Prop), i < n → Same H1 H' → Y i H x H' → RL i acc H' → H' D = some (.lst acc) → (∀ y H4, Same H' H4 → RL (i + 1) (acc ++ [y]) H4 → Qn y H4) → (∀ H3, Same H' H3 → RL (i + 1) acc H3 → Qf H3) →
      g x (wipe τ vs) H' fun τ2 H2 => wipe τ2 vs = wipe τ vs ∧ tt τ2 H2 fun b H3 => if b = true then te τ2 H3 Qn else Qf H3)
    (hd : ∀ acc H, Same H1 H → H D = some (.lst acc) → acc.length ≤ n → RL n acc H → Qd H) :
    ∃ W : Nat → Nat → Hp → Prop, (∃ m, W 0 m (upd H1 D (.lst []))) ∧ ∀ i m H, W i m H →
      (J.stop i H ∧ Qd H) ∨ (J.go i H ∧ ∃ Nx : Hp → Prop, (∀ H', Nx H' → ∃ m', m' < m ∧ W (i + 1) m' H') ∧ ∀ x H', J.yld i H x H' → g x (wipe τ vs) H' fun τ2 H2 => wipe τ2 vs = wipe τ vs ∧ tt τ2 H2 fun b H3 =>
        if b = true then te τ2 H3 fun y H4 => ∃ acc, H4 D = some (.lst acc) ∧ acc.length < sizeLine ∧ Nx (upd H4 D (.lst (acc ++ [y]))) else Nx H3) := by
  refine lc_it w (fun i H => ∃ acc, Same H1 H ∧ H D = some (.lst acc) ∧ acc.length ≤ i ∧ RL i acc H) ⟨[], same_new hD, upd_same, Nat.le_refl _, h0 _ (same_new hD)⟩ (fun i H _ p => ?_) (fun i x H H' hi p y => ?_) (fun H p => ?_)
  · obtain ⟨acc, e, _⟩ := p
    exact hG H e
  · obtain ⟨acc, e, at_, hl, r⟩ := p
    have e1 := hY i H x H' y
    have at1 := e1 _ _ at_
    refine hs i x acc H H' _ _ hi (e.trans e1) y (mono i acc H H' acc at_ (fun b o _ h => e1 b o h) r) at1 (fun z H4 e2 r2 => ?_) (fun H3 e2 r2 => ?_)
    · have at2 := e2 _ _ at1
      refine ⟨acc, at2, Nat.lt_of_le_of_lt (Nat.le_trans hl (Nat.le_of_lt (Nat.lt_of_lt_of_le hi hn))) (by decide), acc ++ [z], same_mut ((e.trans e1).trans e2) hD, upd_same, by simp; omega, mono _ _ H4 _ acc at2 but_upd r2⟩
    · exact ⟨acc, (e.trans e1).trans e2, e2 _ _ at1, by omega, r2⟩
  · obtain ⟨acc, e, at_, hl, r⟩ := p
    exact hd acc H e at_ hl r
end
/-! ### numbers and texts -/
theorem lt1 (c d : Nat) : decide (([c] : List Nat) < [d]) = decide (c < d) := by
  by_cases h : c < d
  · rw [decide_eq_true h]
    exact decide_eq_true (List.Lex.rel h)
  · rw [decide_eq_false h]
    refine decide_eq_false fun z => ?_
    cases z with
    | rel q => exact h q
    | cons q => cases q
/-- a text of the document: not too long, of letters -/
def isTxt (z : Str) : Bool := decide (z.length ≤ 40) && z.cps.toList.all okc
/-- a house of the document, behind a number -/
def chk (before : Int) : List (Int × Str) → Bool
  | [] => true
  | q :: r => decide (before < q.1) && decide (q.1 ≤ 99) && isTxt q.2 && chk q.1 r
def isH (h : List (Int × Str)) : Bool := decide (h.length ≤ 8) && chk (-1) h
theorem chk_of {m : Nat} (hm : m ≤ 40) : ∀ (h : List (Int × Str)) (b : Int), (∀ q ∈ h, b < q.1) → IsHs m h → chk b h = true
  | [], _, _, _ => rfl
  | q :: r, b, hb, a => by
    have t := a.txt q (List.mem_cons_self ..)
    have n := a.num q (List.mem_cons_self ..)
    have asc := a.asc
    rw [List.map_cons, List.pairwise_cons] at asc
    have ih := chk_of hm r q.1 (fun x hx => asc.1 x.1 (List.mem_map_of_mem hx)) ⟨asc.2, fun x hx => a.num x (List.mem_cons_of_mem _ hx), fun x hx => a.txt x (List.mem_cons_of_mem _ hx)⟩
    show (decide (b < q.1) && decide (q.1 ≤ 99) && isTxt q.2 && chk q.1 r) = true
    have e1 := hb q (List.mem_cons_self ..)
    have e2 : isTxt q.2 = true := by
      unfold isTxt
      rw [decide_eq_true (Nat.le_trans t.2 hm)]
      exact t.1
    rw [ih, e2, decide_eq_true e1, decide_eq_true n.2]
    rfl
end SH
set_option Elab.async false
set_option linter.all false
set_option maxRecDepth 100000
set_option maxHeartbeats 4000000
/-! sorted(xs), xs a list of pairs of a number and a text; pairs with one number have one text -/
namespace SH
open PySem PySem.Spec PyProof.Rows L2
def NT (h : Heap) (v : Value) (p : Int × Str) : Prop := ∃ (a : Addr) (o : Obj) (t u : Tok) (c : Nat), v = .ref a ∧ h.get? a = some o ∧ o.cls = .type "tuple" ∧ o.data = .seq #[.int p.1 t, .str p.2 u] c
theorem NT.on {h h' : Heap} {v : Value} {p : Int × Str} (x : NT h v p) (k : ∀ b o, h.get? b = some o → o.cls = .type "tuple" → h'.get? b = some o) : NT h' v p := by
  obtain ⟨a, o, t, u, c, rfl, g, q, r⟩ := x
  exact ⟨a, o, t, u, c, rfl, k a o g q, q, r⟩
theorem nt_firsts {h : Heap} {k : Value → Int × Str} : ∀ (vs : List Value), (∀ v ∈ vs, NT h v (k v)) → ∃ fs, PySem.W.KatTups h vs fs ∧ fs.length = vs.length ∧ ∀ f ∈ fs, ∃ n t, f = Value.int n t
  | [], _ => ⟨[], PySem.W.KatTups.nil, rfl, fun _ m => nomatch m⟩
  | v :: r, x => by
    obtain ⟨fs, k1, k2, k3⟩ := nt_firsts r (fun u m => x u (List.mem_cons_of_mem _ m))
    obtain ⟨a, o, t, u, c, rfl, g, q, d⟩ := x v (List.mem_cons_self ..)
    refine ⟨_, PySem.W.KatTups.cons g q d rfl k1, by simp [k2], fun f m => ?_⟩
    rcases List.mem_cons.mp m with e | m
    · exact ⟨_, _, e⟩
    · exact k3 f m
def ltN (k : Value → Int × Str) (v u : Value) : Bool := decide ((k v).1 < (k u).1)
theorem ltN_swo (k : Value → Int × Str) : SrtO.Swo (ltN k) :=
  ⟨fun x y h => decide_eq_false (by have := of_decide_eq_true h; omega), fun x y z h1 h2 => decide_eq_false (by have a := of_decide_eq_false h1; have b := of_decide_eq_false h2; omega)⟩
section
variable {prog : Program} {w : World} {A : Around} {s : Shared}
theorem nt_cmp {vs : List Value} {k : Value → Int × Str} (hp : ∀ v ∈ vs, NT s.heap v (k v)) (one : ∀ v ∈ vs, ∀ u ∈ vs, (k v).1 = (k u).1 → (k v).2 = (k u).2) :
    SrtO.Cmp prog w A s (tuples' true) (fun p => p.1 ∈ vs) (SrtO.lt2 (ltN k)) := by
  rintro ⟨x, kx⟩ ⟨y, ky⟩ mp mq
  have same := one _ mp _ mq
  show wpAny (model prog w) A (keyLt' (tuples' true) x y) (fun r s' => s' = s ∧ r = decide ((k x).1 < (k y).1)) (fun _ _ => False) s
  obtain ⟨a, o, t, u, c, e, g, cl, d⟩ := hp _ mp
  obtain ⟨a', o', t', u', c', e', g', cl', d'⟩ := hp _ mq
  have ex : x = .ref a := e
  have ey : y = .ref a' := e'
  subst ex ey
  refine PySem.W.kat_lt g d g' d' (PySem.W.kat_cons (SeqAt.EqAt.int_int _ t _ t' prog w _ _ (PySem.W.kat_go (fun e1 => ?_) (fun e1 => ?_))))
  · have en : (k (.ref a)).1 = (k (.ref a')).1 := by simpa using e1
    have ez := same en
    refine PySem.W.kat_yes (PySem.W.kat_cons (SeqAt.EqAt.str_str _ u _ u' prog w _ _ (PySem.W.kat_go (fun _ => ?_) (fun e2 => ?_))))
    · refine PySem.W.kat_yes (PySem.W.kat_nil ⟨rfl, ?_⟩)
      rw [en]
      simp
    · rw [ez] at e2
      simp at e2
  · exact PySem.W.kat_no (oneLt_int ⟨rfl, rfl⟩)
theorem nt_sortable {a : Addr} {vs : List Value} {k : Value → Int × Str} (h0 : 0 < vs.length) (hp : ∀ v ∈ vs, NT s.heap v (k v)) (one : ∀ v ∈ vs, ∀ u ∈ vs, (k v).1 = (k u).1 → (k v).2 = (k u).2)
    (ha : ∀ o, s.heap.get? a = some o → o.cls ≠ .type "tuple") : SrtO.SortableO prog w A s a vs (ltN k) := by
  intro h' keep
  have hp' : ∀ v ∈ vs, NT h' v (k v) := fun v m => (hp v m).on fun b o g c => keep b o (fun z => ha o (z ▸ g) c) g
  obtain ⟨fs, f1, f2, f3⟩ := nt_firsts vs hp'
  refine ⟨tuples' true, fun Q E q => PySem.W.kat_kind (T := .type "int") f1 (by omega) (fun f m => ?_) (by rfl) ?_, nt_cmp hp' one⟩
  · obtain ⟨n, t, rfl⟩ := f3 f m
    exact PySem.W.Looks.now
  · have e : (Value.type "int" != Value.type "tuple") = true := by first | decide +kernel | rfl
    rw [e]
    exact q
end
/-- sorted(xs): a new list of the same pairs, by their numbers -/
def rSortNT (K : PySem.W.Frag) : List V → Hp → VK → Prop := fun vs H Q => ∃ (a : Addr) (L : PL), vs = [.ref a] ∧ HsAt K H a L ∧ (∀ q ∈ L, ∀ r ∈ L, q.2.1 = r.2.1 → q.2.2 = r.2.2) ∧
  ∀ (L' : PL) (p : Addr), L'.Perm L → L'.Pairwise (fun q r => q.2.1 ≤ r.2.1) → H p = none → Q (.ref p) (upd H p (.lst (refs L')))
/-- what stands at the address in a list of pairs -/
def atAddr (L : PL) (v : Value) : Int × Str := match v with
  | .ref a => match L.find? (fun q => q.1 == a) with
    | some q => q.2
    | none => (0, "")
  | _ => (0, "")
def addrOf : Value → Addr
  | .ref a => a
  | _ => 0
theorem atAddr_of {L : PL} (un : ∀ q ∈ L, ∀ r ∈ L, q.1 = r.1 → q.2 = r.2) {q : Addr × Int × Str} (hq : q ∈ L) : atAddr L (.ref q.1) = q.2 := by
  show (match L.find? (fun r => r.1 == q.1) with | some r => r.2 | none => (0, "")) = q.2
  cases e : L.find? (fun r => r.1 == q.1) with
  | some r =>
    have h1 := List.mem_of_find?_eq_some e
    have h2 := List.find?_some e
    exact un r h1 q hq (by simpa using h2)
  | none =>
    have := List.find?_eq_none.mp e q hq
    simp at this
section
variable {X : Cx}
theorem cr_sortNT : CallR X (.builtin "sorted") (rSortNT X.K) := by
  intro pins s τ H vs us Q I r h
  obtain ⟨a, L, rfl, hA, one, q⟩ := h
  obtain ⟨its, rv, hl, hz⟩ := I.list hA.1
  obtain ⟨u, rfl, ru⟩ := vals1 r
  obtain rfl : u = Value.ref a := ru
  obtain ⟨e1, e2⟩ := refs_back rv (fun x m => by
    obtain ⟨q, _, e⟩ := List.mem_map.mp m
    exact ⟨q.1, e.symm⟩)
  -- one address, one pair
  have un : ∀ q ∈ L, ∀ r ∈ L, q.1 = r.1 → q.2 = r.2 := fun q hq r hr e => by
    have z := I.tuple_inj (hA.2 q hq) (by rw [e]; exact hA.2 r hr)
    obtain ⟨x, n, t⟩ := q
    obtain ⟨y, m, t'⟩ := r
    simp at z
    show (n, t) = (m, t')
    rw [z.1, z.2]
  have mem : ∀ v ∈ its, ∃ q ∈ L, v = Value.ref q.1 := fun v hv => by
    obtain ⟨t, rfl⟩ := e2 v hv
    have m : V.ref t ∈ refs L := by
      rw [e1]
      exact List.mem_map.mpr ⟨_, hv, rfl⟩
    obtain ⟨q, hq, e⟩ := List.mem_map.mp m
    cases e
    exact ⟨q, hq, rfl⟩
  have nt : ∀ v ∈ its, NT s.heap v (atAddr L v) := fun v hv => by
    obtain ⟨q, hq, rfl⟩ := mem v hv
    rw [atAddr_of un hq]
    obtain ⟨i2, r2, ⟨o, g, c, n, d⟩, _⟩ := I.tuple (hA.2 q hq)
    obtain ⟨u1, u2, rfl, ⟨t1, rfl⟩, ⟨t2, rfl⟩⟩ := vals2 r2
    exact ⟨q.1, o, t1, t2, n, rfl, g, c, d⟩
  have one' : ∀ v ∈ its, ∀ u ∈ its, (atAddr L v).1 = (atAddr L u).1 → (atAddr L v).2 = (atAddr L u).2 := fun v hv u hu => by
    obtain ⟨q, hq, rfl⟩ := mem v hv
    obtain ⟨r, hr, rfl⟩ := mem u hu
    rw [atAddr_of un hq, atAddr_of un hr]
    exact one q hq r hr
  refine SrtO.sorted_ord (ltN_swo (atAddr L)) hl.isList (by rw [← rv.length]; exact hz) (fun h2 h₁ b hb kk => ?_) (fun out hs hb => ?_)
  · refine nt_sortable (s := { s with heap := h₁ }) (by omega) (fun v m => (nt v m).on fun c o g _ => (kk c o g).2) one' (fun o g c => ?_)
    have g' : some o = some (seqObj "list" its.toArray 0) := g.symm.trans hb
    cases g'
    exact absurd (Value.type.inj c) (by decide)
  · have mo : ∀ v ∈ out, ∃ q ∈ L, v = Value.ref q.1 := fun v hv => mem v (hb.perm.mem_iff.mp hv)
    -- the pairs in their new order
    let f : Value → Addr × Int × Str := fun v => (addrOf v, atAddr L v)
    have fq : ∀ q ∈ L, f (.ref q.1) = q := fun q hq => by
      show (q.1, atAddr L (.ref q.1)) = q
      rw [atAddr_of un hq]
    have hL : its.map f = L := by
      have z : (refs L).map (fun v => match v with | .ref t => f (.ref t) | _ => (0, 0, "")) = L := by
        unfold refs
        rw [List.map_map]
        calc L.map _ = L.map id := List.map_congr_left fun q hq => fq q hq
          _ = L := List.map_id L
      rw [e1, List.map_map] at z
      refine Eq.trans (List.map_congr_left fun v hv => ?_) z
      obtain ⟨q, _, rfl⟩ := mem v hv
      rfl
    have hp : (out.map f).Perm L := by
      rw [← hL]
      exact hb.perm.map f
    have hr : refs (out.map f) = out.map backV := by
      unfold refs
      rw [List.map_map]
      refine List.map_congr_left fun v hv => ?_
      obtain ⟨q, _, rfl⟩ := mo v hv
      rfl
    have hsrt : (out.map f).Pairwise (fun q r => q.2.1 ≤ r.2.1) := by
      rw [List.pairwise_map]
      refine List.Pairwise.imp (fun {x y} h => ?_) hs
      have := of_decide_eq_false h
      show (atAddr L x).1 ≤ (atAddr L y).1
      omega
    obtain ⟨n, hn⟩ := sortedAll_at s.heap its out.toArray
    have hd : s.heap.objs.size ≤ s.heap.objs.size + 1 := Nat.le_succ _
    refine ⟨.ref (s.heap.objs.size + 1), upd H (s.heap.objs.size + 1) (.lst (refs (out.map f))), I.laid (t' := s.toks) (fun b o g => sortedAll_old g) hd ⟨?_, out, n, ?_, hn⟩, rfl, q _ _ hp hsrt (I.hok.fresh hd)⟩
    · have e3 : (refs (out.map f)).length = (refs L).length := by
        unfold refs
        rw [List.length_map, List.length_map (as := L), hp.length_eq]
      rw [e3]
      exact hz
    · rw [hr]
      exact vals_back fun v hv => by
        obtain ⟨q, _, rfl⟩ := mo v hv
        exact ⟨q.1, rfl⟩
end
end SH
set_option Elab.async false
set_option linter.all false
set_option maxRecDepth 100000
set_option maxHeartbeats 4000000
/-! houses as data, compared -/
namespace SH
open PySem PySem.Spec PyProof.Rows L2
def dPair (q : Int × Str) : PyData := .tuple [.int q.1, .str q.2]
def dH (h : List (Int × Str)) : PyData := .list (h.map dPair)
theorem dp_refs {K : PySem.W.Frag} {H : Hp} : ∀ (L : PL), PairsAt K H L → DpAll K H (refs L) (L.map fun q => dPair q.2)
  | [], _ => .nil
  | q :: r, h => .cons (.tup (h q (List.mem_cons_self ..)) (.cons (.int _) (.cons (.str _) .nil))) (dp_refs r fun x m => h x (List.mem_cons_of_mem _ m))
theorem dp_house {K : PySem.W.Frag} {H : Hp} {a : Addr} {L : PL} (h : HsAt K H a L) : Dp K H (.ref a) (dH (L.map (·.2))) := by
  refine .lst h.1 ?_
  rw [List.map_map]
  exact dp_refs L h.2
theorem okc_lt {c : Nat} (h : okc c = true) : c < 127 := by
  unfold okc at h
  simp at h
  omega
theorem let_ok {z : Str} (h : IsLet z) : PyData.strOk z = true := by
  unfold PyData.strOk
  rw [← Array.all_toList]
  refine List.all_eq_true.mpr fun c hc => ?_
  have := okc_lt (List.all_eq_true.mp h c hc)
  exact decide_eq_true (by omega)
def LetAll (h : List (Int × Str)) : Prop := ∀ q ∈ h, IsLet q.2
theorem dH_lay : ∀ {h : List (Int × Str)}, LetAll h → PyData.canLayAll0 (h.map dPair) = true
  | [], _ => rfl
  | q :: r, a => by
    rw [List.map_cons, PyData.canLayAll0, dH_lay fun x m => a x (List.mem_cons_of_mem _ m)]
    simp [dPair, PyData.canLay0, PyData.canLayAll0, let_ok (a q (List.mem_cons_self ..))]
theorem dH_deep : ∀ (h : List (Int × Str)), PyData.depthAll (h.map dPair) ≤ 1
  | [] => Nat.zero_le _
  | q :: r => by
    rw [List.map_cons, PyData.depthAll]
    have := dH_deep r
    have e : PyData.depth (dPair q) = 1 := rfl
    rw [e]
    omega
theorem dH_shaped {h : List (Int × Str)} (a : LetAll h) : SeqAt.shaped (dH h) = true := by
  unfold SeqAt.shaped
  have e1 : (dH h).canLay0 = true := dH_lay a
  have e2 : (dH h).depth ≤ 64 := by
    show PyData.depthAll (h.map dPair) + 1 ≤ 64
    have := dH_deep h
    omega
  rw [e1, decide_eq_true e2]
  rfl
theorem dH_refl {h : List (Int × Str)} (a : LetAll h) : PyData.eqv (dH h) (dH h) = true := SeqAt.eqv_refl _ (show (dH h).canLay0 = true from dH_lay a)
/-- what is told or due: a tag and a thing -/
def dT (p : Str × PyData) : PyData := .tuple [.str p.1, p.2]
theorem dT_shaped {p : Str × PyData} (h1 : PyData.strOk p.1 = true) (h2 : p.2.canLay0 = true) (h3 : p.2.depth ≤ 60) : SeqAt.shaped (dT p) = true ∧ PyData.eqv (dT p) (dT p) = true := by
  have e1 : (dT p).canLay0 = true := by
    show (PyData.strOk p.1 && (p.2.canLay0 && true)) = true
    rw [h1, h2]
    rfl
  have e2 : (dT p).depth ≤ 64 := by
    show max 0 (max p.2.depth 0) + 1 ≤ 64
    omega
  refine ⟨?_, SeqAt.eqv_refl _ e1⟩
  unfold SeqAt.shaped
  rw [e1, decide_eq_true e2]
  rfl
theorem dH_depth (h : List (Int × Str)) : (dH h).depth ≤ 60 := by
  show PyData.depthAll (h.map dPair) + 1 ≤ 60
  have := dH_deep h
  omega
theorem isTxt_let {z : Str} (h : isTxt z = true) : IsLet z := by
  unfold isTxt at h
  exact (Bool.and_eq_true_iff.mp h).2
theorem IsHs.letAll {m : Nat} {h : List (Int × Str)} (a : IsHs m h) : LetAll h := fun q hq => (a.txt q hq).1
theorem LetAll.filter {h : List (Int × Str)} (a : LetAll h) (p : Int × Str → Bool) : LetAll (h.filter p) := fun q hq => a q (List.mem_filter.mp hq).1
theorem LetAll.app {h k : List (Int × Str)} (a : LetAll h) (b : LetAll k) : LetAll (h ++ k) := fun q hq => (List.mem_append.mp hq).elim (a q) (b q)
theorem letAll_ins {n : Int} {z : Str} {h : List (Int × Str)} (a : LetAll h) (b : IsLet z) : LetAll (h.filter (fun q => decide (q.1 < n)) ++ [(n, z)] ++ h.filter (fun q => decide (n < q.1))) :=
  ((a.filter _).app fun q hq => by rw [List.mem_singleton.mp hq]; exact b).app (a.filter _)
/-! a house that is none -/
theorem chk_true : ∀ {h : List (Int × Str)} {b : Int}, chk b h = true → (h.map (·.1)).Pairwise (· < ·) ∧ (∀ q ∈ h, b < q.1 ∧ q.1 ≤ 99 ∧ isTxt q.2 = true)
  | [], _, _ => ⟨List.Pairwise.nil, fun q hq => nomatch hq⟩
  | q :: r, b, h => by
    have h' : (decide (b < q.1) && decide (q.1 ≤ 99) && isTxt q.2 && chk q.1 r) = true := h
    simp only [Bool.and_eq_true, decide_eq_true_eq] at h'
    obtain ⟨⟨⟨h1, h2⟩, h3⟩, h4⟩ := h'
    obtain ⟨i1, i2⟩ := chk_true h4
    refine ⟨?_, fun x hx => ?_⟩
    · rw [List.map_cons, List.pairwise_cons]
      refine ⟨fun y hy => ?_, i1⟩
      obtain ⟨z, hz, rfl⟩ := List.mem_map.mp hy
      exact (i2 z hz).1
    · rcases List.mem_cons.mp hx with e | m
      · rw [e]; exact ⟨h1, h2, h3⟩
      · have := i2 x m
        exact ⟨by omega, this.2⟩
theorem isH_false {h : List (Int × Str)} (no : ¬ (h.length ≤ 8 ∧ (h.map (·.1)).Pairwise (· < ·) ∧ ∀ q ∈ h, -1 < q.1 ∧ q.1 ≤ 99 ∧ isTxt q.2 = true)) : isH h = false := by
  cases e : isH h with
  | false => rfl
  | true =>
    unfold isH at e
    obtain ⟨e1, e2⟩ := Bool.and_eq_true_iff.mp e
    exact absurd ⟨of_decide_eq_true e1, chk_true e2⟩ no
/-! ### a house filtered, pair by pair -/
theorem refs_get {L : PL} {i : Nat} {x : V} (h : (refs L)[i]? = some x) : ∃ t, L[i]? = some t ∧ t ∈ L ∧ x = .ref t.1 := by
  unfold refs at h
  rw [List.getElem?_map] at h
  cases e : L[i]? with
  | none => rw [e] at h; cases h
  | some t =>
    rw [e] at h
    cases h
    exact ⟨t, rfl, List.mem_of_getElem? e, rfl⟩
theorem lc_filter {K : PySem.W.Frag} {a : Addr} {L : PL} {g : TG} {tt : TT} {te : TE} {vs : List Nat} {τ : L2.St} {H1 : Hp} {D : Addr} {Qd : Hp → Prop} (hD : H1 D = none) (hA : HsAt K H1 a L) (hl : L.length ≤ 1000) (p : Addr × Int × Str → Bool)
    (hs : ∀ (q : Addr × Int × Str) (H' : Hp) (Qn : VK) (Qf : Hp → Prop), q ∈ L → Same H1 H' → (p q = true → Qn (.ref q.1) H') → (p q = false → Qf H') →
      g (.ref q.1) (wipe τ vs) H' fun τ2 H2 => wipe τ2 vs = wipe τ vs ∧ tt τ2 H2 fun b H3 => if b = true then te τ2 H3 Qn else Qf H3)
    (hd : ∀ H, Same H1 H → H D = some (.lst (refs (L.filter p))) → Qd H) :
    ∃ W : Nat → Nat → Hp → Prop, (∃ m, W 0 m (upd H1 D (.lst []))) ∧ ∀ i m H, W i m H →
      ((Itl K a).stop i H ∧ Qd H) ∨ ((Itl K a).go i H ∧ ∃ Nx : Hp → Prop, (∀ H', Nx H' → ∃ m', m' < m ∧ W (i + 1) m' H') ∧ ∀ x H', (Itl K a).yld i H x H' → g x (wipe τ vs) H' fun τ2 H2 => wipe τ2 vs = wipe τ vs ∧ tt τ2 H2 fun b H3 =>
        if b = true then te τ2 H3 fun y H4 => ∃ acc, H4 D = some (.lst acc) ∧ acc.length < sizeLine ∧ Nx (upd H4 D (.lst (acc ++ [y]))) else Nx H3) := by
  have rl : (refs L).length = L.length := List.length_map ..
  refine lc_w (walk_list (xs := refs L)) hD (by omega) (fun H' e => e.seq hA.1) (fun i acc _ => acc = refs ((L.take i).filter p)) (fun _ _ => rfl) (fun _ _ _ _ _ _ _ r => r) (fun i H x H' y => by rw [y.1]; exact Same.refl _)
    (fun i x acc H2 H3 Qn Qf hi sm y r at_ kn kf => ?_) (fun acc H2 sm at_ _ r => ?_)
  · obtain ⟨rfl, hx⟩ := y
    obtain ⟨t, ht, tm, rfl⟩ := refs_get hx
    refine hs t _ Qn Qf tm sm (fun e => kn _ _ (Same.refl _) ?_) (fun e => kf _ (Same.refl _) ?_)
    · rw [r, List.take_add_one, ht, List.filter_append]
      show _ = refs (_ ++ [t].filter p)
      rw [List.filter_cons_of_pos e]
      unfold refs
      rw [List.map_append]
      rfl
    · rw [r, List.take_add_one, ht, List.filter_append]
      show _ = refs (_ ++ [t].filter p)
      rw [List.filter_cons_of_neg (by rw [e]; decide), List.filter_nil, List.append_nil]
  · refine hd H2 sm ?_
    rw [at_, r, List.take_of_length_le (by omega)]
theorem HsAt.filter {K : PySem.W.Frag} {H : Hp} {L : PL} (h : PairsAt K H L) (p : Addr × Int × Str → Bool) : PairsAt K H (L.filter p) := fun q hq => h q (List.mem_filter.mp hq).1
theorem map_filter (L : PL) (p : Int × Str → Bool) : (L.filter fun q => p q.2).map (·.2) = (L.map (·.2)).filter p := by
  rw [List.filter_map]
  rfl
mutual
theorem dp_same {K : PySem.W.Frag} {H H' : Hp} (e : Same H H') : ∀ {d : PyData} {v : V}, Dp K H v d → Dp K H' v d
  | .none, _, h => by cases h; exact .non
  | .bool _, _, h => by cases h; exact .bl _
  | .int _, _, h => by cases h; exact .int _
  | .str _, _, h => by cases h; exact .str _
  | .list ds, _, h => by
    cases h with
    | lst s a => exact .lst (e.seq s) (dp_all_same e a)
  | .tuple ds, _, h => by
    cases h with
    | tup s a => exact .tup (same_tup e s) (dp_all_same e a)
  | .dict _, _, h => by cases h
theorem dp_all_same {K : PySem.W.Frag} {H H' : Hp} (e : Same H H') : ∀ {ds : List PyData} {vs : List V}, DpAll K H vs ds → DpAll K H' vs ds
  | [], _, h => by cases h; exact .nil
  | d :: ds, _, h => by
    cases h with
    | cons a b => exact .cons (dp_same e a) (dp_all_same e b)
end
/-! ### slices, texts of one letter joined -/
theorem cut_to (xs : List V) (k : Nat) : cutV xs none (some (k : Int)) = xs.take k := by
  unfold cutV
  rw [HT.sIx_none, HT.sIx_nat, List.drop_zero, Nat.sub_zero]
  rcases Nat.le_total k xs.length with h | h
  · rw [Nat.min_eq_left h]
  · rw [Nat.min_eq_right h, List.take_length, List.take_of_length_le h]
theorem joinL_len : ∀ (n c : Nat), (TL.joinL [] (List.replicate n [c])).length = n
  | 0, _ => rfl
  | 1, _ => rfl
  | n + 2, c => by
    show ([c] ++ ([] ++ TL.joinL [] (List.replicate (n + 1) [c]))).length = n + 2
    rw [List.nil_append, List.length_append, joinL_len (n + 1) c]
    show 1 + (n + 1) = n + 2
    omega
theorem join_len {n c : Nat} : (Txt.join "" (List.replicate n (⟨#[c]⟩ : Str))).length = n := by
  have e : (Txt.join "" (List.replicate n (⟨#[c]⟩ : Str))).cps.toList = TL.joinL [] (List.replicate n [c]) := by
    rw [TL.join_eq]
    refine (TL.tl_join "" _).trans ?_
    rw [List.map_replicate]
    rfl
  have e2 := congrArg List.length e
  rw [joinL_len] at e2
  exact e2
theorem joinL_mem {x : Nat} : ∀ (n c : Nat), x ∈ TL.joinL [] (List.replicate n [c]) → x = c
  | 0, _, h => by cases h
  | 1, _, h => by simpa [TL.joinL] using h
  | n + 2, c, h => by
    have h' : x ∈ [c] ++ ([] ++ TL.joinL [] (List.replicate (n + 1) [c])) := h
    rw [List.nil_append] at h'
    rcases List.mem_append.mp h' with m | m
    · exact List.mem_singleton.mp m
    · exact joinL_mem (n + 1) c m
theorem join_mem {n c x : Nat} (h : x ∈ (Txt.join "" (List.replicate n (⟨#[c]⟩ : Str))).cps.toList) : x = c := by
  have e : (Txt.join "" (List.replicate n (⟨#[c]⟩ : Str))).cps.toList = TL.joinL [] (List.replicate n [c]) := by
    rw [TL.join_eq]
    refine (TL.tl_join "" _).trans ?_
    rw [List.map_replicate]
    rfl
  rw [e] at h
  exact joinL_mem n c h
theorem isTxt_long {z : Str} (h : 40 < z.length) : isTxt z = false := by
  unfold isTxt
  rw [decide_eq_false (by omega)]
  rfl
theorem isTxt_line {z : Str} (h : 10 ∈ z.cps.toList) : isTxt z = false := by
  unfold isTxt
  have : z.cps.toList.all okc = false := by
    cases e : z.cps.toList.all okc with
    | false => rfl
    | true => exact absurd (List.all_eq_true.mp e 10 h) (by decide)
  rw [this, Bool.and_false]
end SH
set_option Elab.async false
set_option linter.all false
set_option maxRecDepth 100000
set_option maxHeartbeats 4000000
/-! own classes: their methods, a new instance -/
namespace SH
open PySem PySem.Spec PyProof.Rows L2
/-- a method as it stands -/
structure DdM (K : PySem.W.Frag) (C : Addr) (m qual : Str) (st : Stmt) (ps : List Str) : Prop where
  ex : ∃ (f : Addr) (fd : FuncData), Fun K m qual st f fd ∧ Meth K C m f ∧ Binds K fd ps []
structure DdMk (K : PySem.W.Frag) (C : Addr) (m qual : Str) (st : Stmt) (ps : List Str) : Prop where
  ex : ∃ (f : Addr) (fd : FuncData), Fun K m qual st f fd ∧ Mk K C f ∧ Binds K fd ps []
/-- e.f, the frame said -/
theorem pe_fldK {X : Cx} {K : PySem.W.Frag} {e : Expr} {f : Str} {pos : Pos} {ta : TE} (he : PE X e ta) (hb : attributeBase e f X.env (eval e X.env) = eval e X.env) (h : X.K = K := by rfl) : PE X (.Attribute e f pos) (tFld K ta f) := h ▸ pe_fld he hb
theorem cr_sortedPOK {X : Cx} {K : PySem.W.Frag} (h : X.K = K := by rfl) : CallR X (.builtin "sorted") (rSortedPO K) := h ▸ cr_sortedPO
theorem pi_listK {X : Cx} {K : PySem.W.Frag} {tg e : Expr} {te : TE} (he : PE X e te) (h : X.K = K := by rfl) : PI X tg e (iList K te) := h ▸ pi_list he
section
variable {P : Program} {w : World} {K : PySem.W.Frag} {mg : Str → Option Value} {base : Heap}
theorem met_of {C : Addr} {m qual : Str} {st : Stmt} {ps N : List Str} {k : Nat} {sp : Sp} (D : DdM K C m qual st ps) (c : Cls K C) (S : FnScope N ps (defScope st)) (len : ∀ vs H Q E, sp vs H Q E → vs.length = ps.length)
    (hbody : ∀ (f : Addr) (cdv : Value) (A : Around) (outer : List Env) (s : Shared) (H : Hp) (vs : List V) (Q : VK) (E : XK), Room k (A.deeper (envOfC qual (defScope st) s.heap.objs.size f cdv)) → sp vs H Q E →
      ∃ t, PSs (cxOf CX0 P w K mg base N qual (defScope st) f cdv A outer s H E).nox (defBody st) t ∧ t { nx := fun _ H' => Q .non H', rt := Q } (start N vs) H) : C8.Met P w K mg base (k + 1) C m sp [] := by
  obtain ⟨f, fd, F, me, b⟩ := D.ex
  exact ⟨f, fd, ps, [], c, me, F.ok S len (fun cdv A outer s H vs Q E hr h => hbody f cdv A outer s H vs Q E hr h), b, .nil⟩
theorem mak_of {x : Str} {C : Addr} {m qual : Str} {st : Stmt} {ps N : List Str} {k : Nat} {sp : Sp} (D : DdMk K C m qual st ps) (hm : mg x = some (.ref C)) (S : FnScope N ps (defScope st)) (len : ∀ vs H Q E, sp vs H Q E → vs.length = ps.length)
    (hbody : ∀ (f : Addr) (cdv : Value) (A : Around) (outer : List Env) (s : Shared) (H : Hp) (vs : List V) (Q : VK) (E : XK), Room k (A.deeper (envOfC qual (defScope st) s.heap.objs.size f cdv)) → sp vs H Q E →
      ∃ t, PSs (cxOf CX0 P w K mg base N qual (defScope st) f cdv A outer s H E).nox (defBody st) t ∧ t { nx := fun _ H' => Q .non H', rt := Q } (start N vs) H) : C8.Mak P w K mg base (k + 1) x C sp [] := by
  obtain ⟨f, fd, F, me, b⟩ := D.ex
  exact ⟨f, fd, ps, [], me, F.ok S len (fun cdv A outer s H vs Q E hr h => hbody f cdv A outer s H vs Q E hr h), hm, b, .nil⟩
end
end SH
set_option Elab.async false
set_option linter.all false
set_option maxRecDepth 100000
set_option maxHeartbeats 4000000
/-! sorted(xs) of any data; triples of a text, a number and a start -/
namespace SH
open PySem PySem.Spec PyProof.Rows L2
section
variable {α : Type}
theorem each_of_vals : ∀ {Z : List (V × α)} {its : List Value}, Vals (Z.map (·.1)) its → PySem.W.EachIs (fun v z => RelV z.1 v) its Z
  | [], _, .nil => .nil
  | _ :: _, _, .cons r t => .cons r (each_of_vals t)
theorem vals_of_each : ∀ {Z : List (V × α)} {its : List Value}, PySem.W.EachIs (fun v z => RelV z.1 v) its Z → Vals (Z.map (·.1)) its
  | _, _, .nil => .nil
  | _, _, .cons r t => .cons r (vals_of_each t)
end
/-- sorted(xs): a new list of the same things, by what they read as -/
def rSortD (K : PySem.W.Frag) : List V → Hp → VK → Prop := fun vs H Q => ∃ (α : Type) (enc : α → PyData) (a : Addr) (Z : List (V × α)), vs = [.ref a] ∧ SqL K H a (Z.map (·.1)) ∧ (∀ z ∈ Z, Dp K H z.1 (enc z.2)) ∧
  PySem.W.AllAlike (Z.map fun z => enc z.2) ∧ PySem.W.Sortable (Z.map fun z => enc z.2) ∧ (∀ z ∈ Z, (enc z.2).depth ≤ 60) ∧
  ∀ p : Addr, H p = none → Q (.ref p) (upd H p (.lst ((Z.mergeSort (PySem.W.dataLe false fun z => enc z.2)).map (·.1))))
section
variable {X : Cx}
theorem cr_sortD (hu : X.A.units + 64 < cLine) : CallR X (.builtin "sorted") (rSortD X.K) := by
  intro pins s τ H vs us Q I r h
  obtain ⟨α, enc, a, Z, rfl, hA, hd, hal, hk, hdp, q⟩ := h
  obtain ⟨its, rv, hl, hz⟩ := I.list hA
  obtain ⟨u, rfl, ru⟩ := vals1 r
  obtain rfl : u = Value.ref a := ru
  rw [List.length_map] at hz
  have e := each_of_vals rv
  have er : PySem.W.EachIs (fun v z => ∃ as, Reads s.heap v (enc z.2) as) its Z := (PySem.W.each_mem e).mono fun v z h => Dp.reads I (enc z.2) z.1 v (hd z h.2) h.1
  refine PySem.W.sorted_data (enc := fun z : V × α => enc z.2) hl.isList e er hal hk hz (fun z hm => ?_) (fun out ho eo => ?_)
  · have := hdp z hm
    omega
  · obtain ⟨n, hn⟩ := sortedAll_at s.heap its out.toArray
    have hs : s.heap.objs.size ≤ s.heap.objs.size + 1 := Nat.le_succ _
    refine ⟨.ref (s.heap.objs.size + 1), upd H (s.heap.objs.size + 1) (.lst ((Z.mergeSort (PySem.W.dataLe false fun z => enc z.2)).map (·.1))), I.laid (t' := s.toks) (fun b o g => sortedAll_old g) hs ⟨?_, out, n, vals_of_each eo, hn⟩, rfl, q _ (I.hok.fresh hs)⟩
    rw [List.length_map, List.length_mergeSort]
    exact hz
theorem cr_sortDK {K : PySem.W.Frag} (hu : X.A.units + 64 < cLine) (h : X.K = K := by rfl) : CallR X (.builtin "sorted") (rSortD K) := h ▸ cr_sortD hu
end
/-! ### triples: a text, a number, a start -/
abbrev E3 := Str × Int × Int
def lex3 (p q : E3) : Prop := p.1.cps.toList < q.1.cps.toList ∨ (p.1 = q.1 ∧ (p.2.1 < q.2.1 ∨ (p.2.1 = q.2.1 ∧ p.2.2 < q.2.2)))
instance (p q : E3) : Decidable (lex3 p q) := inferInstanceAs (Decidable (_ ∨ _))
def le3 (p q : E3) : Bool := !decide (lex3 q p)
def eFlat (p : E3) : PyData := .tuple [.str p.1, .int p.2.1, .int p.2.2]
def eNest (p : E3) : PyData := .tuple [.str p.1, .tuple [.int p.2.1, .int p.2.2]]
theorem str_ext {x y : Str} (h : x.cps.toList = y.cps.toList) : x = y := by
  obtain ⟨a⟩ := x
  obtain ⟨b⟩ := y
  have : a = b := Array.toList_inj.mp h
  rw [this]
theorem lex3_irrefl (p : E3) : ¬ lex3 p p := by
  rintro (h | ⟨_, h | ⟨_, h⟩⟩)
  · exact List.lt_irrefl _ h
  · omega
  · omega
theorem lex3_tr {p q r : E3} (h : lex3 p q) (h2 : lex3 q r) : lex3 p r := by
  rcases h with h | ⟨e, h⟩ <;> rcases h2 with h2 | ⟨e2, h2⟩
  · exact .inl (List.lt_trans h h2)
  · exact .inl (e2 ▸ h)
  · exact .inl (by rw [e]; exact h2)
  · refine .inr ⟨e.trans e2, ?_⟩
    rcases h with h | ⟨f, h⟩ <;> rcases h2 with h2 | ⟨f2, h2⟩
    · exact .inl (by omega)
    · exact .inl (by omega)
    · exact .inl (by omega)
    · exact .inr ⟨by omega, by omega⟩
theorem lex3_tri {p q : E3} (h : ¬ lex3 p q) (h2 : ¬ lex3 q p) : p = q := by
  have a1 : p.1.cps.toList ≤ q.1.cps.toList := List.not_lt.mp fun z => h2 (.inl z)
  have a2 : q.1.cps.toList ≤ p.1.cps.toList := List.not_lt.mp fun z => h (.inl z)
  have a : p.1 = q.1 := str_ext (List.le_antisymm a1 a2)
  have b : p.2.1 = q.2.1 := by
    rcases Int.lt_trichotomy p.2.1 q.2.1 with z | z | z
    · exact absurd (.inr ⟨a, .inl z⟩) h
    · exact z
    · exact absurd (.inr ⟨a.symm, .inl z⟩) h2
  have c : p.2.2 = q.2.2 := by
    rcases Int.lt_trichotomy p.2.2 q.2.2 with z | z | z
    · exact absurd (.inr ⟨a, .inr ⟨b, z⟩⟩) h
    · exact z
    · exact absurd (.inr ⟨a.symm, .inr ⟨b.symm, z⟩⟩) h2
  obtain ⟨x, y, z⟩ := p
  obtain ⟨x', y', z'⟩ := q
  simp at a b c
  rw [a, b, c]
theorem le3_tr (p q r : E3) (h : le3 p q = true) (h2 : le3 q r = true) : le3 p r = true := by
  unfold le3 at *
  simp only [Bool.not_eq_true', decide_eq_false_iff_not] at *
  intro z
  by_cases c : lex3 p q
  · exact h2 (lex3_tr z c)
  · have := lex3_tri c h
    subst this
    exact h2 z
theorem le3_tot (p q : E3) : (le3 p q || le3 q p) = true := by
  unfold le3
  by_cases c : lex3 q p
  · have d : ¬ lex3 p q := fun z => lex3_irrefl _ (lex3_tr c z)
    rw [decide_eq_true c, decide_eq_false d]
    rfl
  · rw [decide_eq_false c]
    rfl
theorem eqv_str (x y : Str) : PyData.eqv (.str x) (.str y) = decide (x = y) := by
  by_cases h : x = y
  · simp [PyData.eqv, h]
  · simp [PyData.eqv, h]
theorem eqv_int (x y : Int) : PyData.eqv (.int x) (.int y) = decide (x = y) := by
  by_cases h : x = y
  · simp [PyData.eqv, h]
  · simp [PyData.eqv, h]
theorem flat_lt (p q : E3) : PySem.W.dataLt (eFlat p) (eFlat q) = decide (lex3 p q) := by
  unfold eFlat
  rw [PySem.W.dataLt_tuple, PySem.W.dataLt_cons (by simp [PySem.W.alike]), PySem.W.dataLt_cons (by simp [PySem.W.alike]), PySem.W.dataLt_cons (by simp [PySem.W.alike])]
  have e : PyProof.Rows.lexLt itemOrd (PySem.W.keyToksAll []) (PySem.W.keyToksAll []) = false := lex_irrefl _
  rw [e, eqv_str, eqv_int, eqv_int, PySem.W.dataLt_str, PySem.W.dataLt_int, PySem.W.dataLt_int]
  unfold lex3
  by_cases a : p.1 = q.1
  · have na : ¬ p.1.cps.toList < q.1.cps.toList := by rw [a]; exact List.lt_irrefl _
    by_cases b : p.2.1 = q.2.1
    · by_cases c : p.2.2 = q.2.2
      · simp [a, b, c]
      · rw [decide_eq_true a, decide_eq_true b, decide_eq_false c]
        show decide (p.2.2 < q.2.2) = _
        exact decide_eq_decide.mpr ⟨fun h => .inr ⟨a, .inr ⟨b, h⟩⟩, fun h => h.elim (fun h => absurd h na) fun h => h.2.elim (fun h => by omega) fun h => h.2⟩
    · rw [decide_eq_true a, decide_eq_false b]
      show decide (p.2.1 < q.2.1) = _
      exact decide_eq_decide.mpr ⟨fun h => .inr ⟨a, .inl h⟩, fun h => h.elim (fun h => absurd h na) fun h => h.2.elim id fun h => absurd h.1 b⟩
  · simp [a]
theorem nest_lt (p q : E3) : PySem.W.dataLt (eNest p) (eNest q) = decide (lex3 p q) := by
  unfold eNest
  rw [PySem.W.dataLt_pair (by simp [PySem.W.alike]) (by simp [PySem.W.alike, PySem.W.alikeAll]), PySem.W.dataLt_ii, PySem.W.dataLt_str, eqv_str]
  have e2 : PyData.eqv (.tuple [.int p.2.1, .int p.2.2]) (.tuple [.int q.2.1, .int q.2.2]) = decide (p.2 = q.2) := by
    obtain ⟨x, y, z⟩ := p
    obtain ⟨x', y', z'⟩ := q
    by_cases b : y = y' <;> by_cases c : z = z' <;> simp [PyData.eqv, PyData.eqvAll, b, c]
  rw [e2]
  unfold lex3
  by_cases a : p.1 = q.1
  · have na : ¬ p.1.cps.toList < q.1.cps.toList := by rw [a]; exact List.lt_irrefl _
    by_cases b : p.2 = q.2
    · simp [a, b]
    · rw [decide_eq_true a, decide_eq_false b]
      show decide (p.2.1 < q.2.1 ∨ (p.2.1 = q.2.1 ∧ p.2.2 < q.2.2)) = _
      exact decide_eq_decide.mpr ⟨fun h => .inr ⟨a, h⟩, fun h => h.elim (fun h => absurd h na) fun h => h.2⟩
  · simp [a]
theorem flat_le {β : Type} (f : β → E3) : PySem.W.dataLe false (fun b => eFlat (f b)) = fun p q => le3 (f p) (f q) := by
  funext p q
  show (!PySem.W.dataLt (eFlat (f q)) (eFlat (f p))) = _
  rw [flat_lt]
  rfl
theorem nest_le {β : Type} (f : β → E3) : PySem.W.dataLe false (fun b => eNest (f b)) = fun p q => le3 (f p) (f q) := by
  funext p q
  show (!PySem.W.dataLt (eNest (f q)) (eNest (f p))) = _
  rw [nest_lt]
  rfl
theorem flat_alike {β : Type} (f : β → E3) (bs : List β) : PySem.W.AllAlike (bs.map fun b => eFlat (f b)) := PySem.W.AllAlike.of fun b b' => by simp [eFlat, PySem.W.alike, PySem.W.alikeAll]
theorem nest_alike {β : Type} (f : β → E3) (bs : List β) : PySem.W.AllAlike (bs.map fun b => eNest (f b)) := PySem.W.AllAlike.of fun b b' => by simp [eNest, PySem.W.alike, PySem.W.alikeAll]
theorem flat_able {β : Type} (f : β → E3) (bs : List β) : PySem.W.Sortable (bs.map fun b => eFlat (f b)) := PySem.W.Sortable.tuples fun b => ⟨_, _, rfl⟩
theorem nest_able {β : Type} (f : β → E3) (bs : List β) : PySem.W.Sortable (bs.map fun b => eNest (f b)) := PySem.W.Sortable.tuples fun b => ⟨_, _, rfl⟩
theorem flat_deep (p : E3) : (eFlat p).depth ≤ 60 := by
  show max 0 (max 0 (max 0 0)) + 1 ≤ 60
  decide
theorem nest_deep (p : E3) : (eNest p).depth ≤ 60 := by
  show max 0 (max (max 0 (max 0 0) + 1) 0) + 1 ≤ 60
  decide
/-- sorted without anything twice: one list alone -/
theorem sorted3_uniq {xs ys : List E3} (hp : xs.Perm ys) (h1 : xs.Pairwise (fun p q => le3 p q = true)) (h2 : ys.Pairwise (fun p q => le3 p q = true)) : xs = ys := by
  refine hp.eq_of_pairwise (fun p q _ _ a b => ?_) h1 h2
  unfold le3 at a b
  simp only [Bool.not_eq_true', decide_eq_false_iff_not] at a b
  exact lex3_tri b a
theorem sort3_pw (xs : List E3) : (xs.mergeSort le3).Pairwise (fun p q => le3 p q = true) := List.pairwise_mergeSort (fun p q r => le3_tr p q r) (fun p q => le3_tot p q) xs
theorem sort3_map {β : Type} (f : β → E3) (bs : List β) : (bs.mergeSort fun p q => le3 (f p) (f q)).map f = (bs.map f).mergeSort le3 := by
  refine sorted3_uniq (((List.mergeSort_perm _ _).map f).trans (List.mergeSort_perm _ _).symm) ?_ (sort3_pw _)
  rw [List.pairwise_map]
  exact List.pairwise_mergeSort (le := fun p q => le3 (f p) (f q)) (fun p q r => le3_tr (f p) (f q) (f r)) (fun p q => le3_tot (f p) (f q)) bs
end SH
set_option Elab.async false
set_option linter.all false
set_option maxRecDepth 100000
set_option maxHeartbeats 4000000
/-! the ends of a house in their order, their commons -/
namespace SH
open PySem PySem.Spec PyProof.Rows L2
/-- an own loop over anything that is walked -/
theorem walk_gen {J : It} {n : Nat} {G : Hp → Prop} {Y : Nat → Hp → V → Hp → Prop} (w : Walk J n G Y) {Step : (Hp → Prop) → V → Hp → Prop} {H0 : Hp} {Qd : Hp → Prop} (Pv : Nat → Hp → Prop) (h0 : Pv 0 H0) (hG : ∀ i H, i ≤ n → Pv i H → G H)
    (hs : ∀ i x H H', i < n → Pv i H → Y i H x H' → Step (Pv (i + 1)) x H') (hd : ∀ H, Pv n H → Qd H) :
    ∃ W : Nat → Nat → Hp → Prop, (∃ m, W 0 m H0) ∧ ∀ i m H, W i m H →
      (J.stop i H ∧ Qd H) ∨ (J.go i H ∧ ∃ Nx : Hp → Prop, (∀ H', Nx H' → ∃ m', m' < m ∧ W (i + 1) m' H') ∧ ∀ x H', J.yld i H x H' → Step Nx x H') := by
  refine ⟨fun i m H => m = n - i ∧ i ≤ n ∧ Pv i H, ⟨n, by simp, Nat.zero_le _, h0⟩, ?_⟩
  rintro i m H ⟨rfl, hi, p⟩
  have q := hG i H hi p
  by_cases hlt : i < n
  · exact .inr ⟨w.goes i H hlt q, Pv (i + 1), fun H' p' => ⟨n - (i + 1), by omega, rfl, hlt, p'⟩, fun x H' y => hs i x H H' hlt p (w.yields i H x H' hlt q y)⟩
  · have e : i = n := by omega
    subst e
    exact .inl ⟨w.stops H q, hd H p⟩
/-! ### what is left of a text -/
def suf (z : Str) (s : Nat) : Str := cutS z (some (s : Int)) none
theorem suf_tl (z : Str) (s : Nat) : TL.tl (suf z s) = (TL.tl z).drop s := by
  show (z.cps.toList.drop (HT.sIx z.length 0 (some (s : Int)))).take (HT.sIx z.length z.length none - HT.sIx z.length 0 (some (s : Int))) = _
  rw [HT.sIx_nat, HT.sIx_none]
  have hl : z.cps.toList.length = z.length := rfl
  rw [List.take_of_length_le (by rw [List.length_drop, hl]; exact Nat.le_refl _)]
  rcases Nat.le_total s z.length with h | h
  · rw [Nat.min_eq_left h]
  · rw [Nat.min_eq_right h, List.drop_eq_nil_of_le (by omega)]
    exact (List.drop_eq_nil_of_le (by show z.cps.toList.length ≤ s; omega)).symm
theorem suf_len (z : Str) (s : Nat) : (suf z s).length = z.length - s := by
  have := congrArg List.length (suf_tl z s)
  rw [List.length_drop] at this
  exact this
theorem suf_let {z : Str} (h : IsLet z) (s : Nat) : IsLet (suf z s) := by
  show (TL.tl (suf z s)).all okc = true
  rw [suf_tl]
  exact List.all_eq_true.mpr fun c hc => List.all_eq_true.mp h c (List.mem_of_mem_drop hc)
/-! ### the ends -/
def endsOf (q : Int × Str) : List E3 := (List.range (q.2.length + 1)).map fun s => (suf q.2 s, q.1, (s : Int))
def ends3 (h : List (Int × Str)) : List E3 := h.flatMap endsOf
def ordE (h : List (Int × Str)) : List E3 := (ends3 h).mergeSort le3
theorem mem_endsOf {q : Int × Str} {e : E3} : e ∈ endsOf q ↔ ∃ s : Nat, s ≤ q.2.length ∧ e = (suf q.2 s, q.1, (s : Int)) := by
  unfold endsOf
  rw [List.mem_map]
  constructor
  · rintro ⟨s, hs, rfl⟩
    exact ⟨s, by have := List.mem_range.mp hs; omega, rfl⟩
  · rintro ⟨s, hs, rfl⟩
    exact ⟨s, List.mem_range.mpr (by omega), rfl⟩
theorem mem_ends3 {h : List (Int × Str)} {e : E3} : e ∈ ends3 h ↔ ∃ q ∈ h, ∃ s : Nat, s ≤ q.2.length ∧ e = (suf q.2 s, q.1, (s : Int)) := by
  unfold ends3
  rw [List.mem_flatMap]
  constructor
  · rintro ⟨q, hq, he⟩
    exact ⟨q, hq, mem_endsOf.mp he⟩
  · rintro ⟨q, hq, he⟩
    exact ⟨q, hq, mem_endsOf.mpr he⟩
theorem mem_ordE {h : List (Int × Str)} {e : E3} : e ∈ ordE h ↔ e ∈ ends3 h := (List.mergeSort_perm _ _).mem_iff
theorem endsOf_len (q : Int × Str) : (endsOf q).length = q.2.length + 1 := by
  unfold endsOf
  rw [List.length_map, List.length_range]
theorem ends3_len {m : Nat} : ∀ {h : List (Int × Str)}, (∀ q ∈ h, q.2.length ≤ m) → (ends3 h).length ≤ (m + 1) * h.length
  | [], _ => Nat.zero_le _
  | q :: r, a => by
    have e : ends3 (q :: r) = endsOf q ++ ends3 r := rfl
    rw [e, List.length_append, endsOf_len, List.length_cons, Nat.mul_add]
    have := a q (List.mem_cons_self ..)
    have := ends3_len fun x hx => a x (List.mem_cons_of_mem _ hx)
    omega
theorem ordE_len {m : Nat} {h : List (Int × Str)} (a : ∀ q ∈ h, q.2.length ≤ m) : (ordE h).length ≤ (m + 1) * h.length := by
  unfold ordE
  rw [List.length_mergeSort]
  exact ends3_len a
/-! ### commons -/
def comm : List Nat → List Nat → Nat
  | a :: x, b :: y => if a = b then comm x y + 1 else 0
  | _, _ => 0
theorem comm_le : ∀ x y : List Nat, comm x y ≤ x.length ∧ comm x y ≤ y.length
  | [], y => by unfold comm; simp
  | _ :: _, [] => by unfold comm; simp
  | a :: x, b :: y => by
    unfold comm
    have := comm_le x y
    split
    · simp only [List.length_cons]; omega
    · simp
/-- as many as are alike -/
theorem comm_at : ∀ (x y : List Nat) (i : Nat), i < comm x y → x[i]? = y[i]?
  | [], y, i, h => by simp [comm] at h
  | _ :: _, [], i, h => by simp [comm] at h
  | a :: x, b :: y, i, h => by
    unfold comm at h
    by_cases e : a = b
    · rw [if_pos e] at h
      cases i with
      | zero => simp [e]
      | succ i => simpa using comm_at x y i (by omega)
    · rw [if_neg e] at h
      omega
/-- the next ones are not -/
theorem comm_ne : ∀ (x y : List Nat) (c d : Nat), x[comm x y]? = some c → y[comm x y]? = some d → c ≠ d
  | [], y, c, d, h, _ => by simp [comm] at h
  | _ :: _, [], c, d, _, h => by simp [comm] at h
  | a :: x, b :: y, c, d, h, h2 => by
    unfold comm at h h2
    by_cases e : a = b
    · rw [if_pos e] at h h2
      exact comm_ne x y c d (by simpa using h) (by simpa using h2)
    · rw [if_neg e] at h h2
      simp at h h2
      rw [← h, ← h2]
      exact e
/-- so is the number told by these two -/
theorem comm_of {x y : List Nat} {n : Nat} (h1 : n ≤ x.length) (h2 : n ≤ y.length) (ha : ∀ i, i < n → x[i]? = y[i]?) (hn : n = x.length ∨ n = y.length ∨ x[n]? ≠ y[n]?) : comm x y = n := by
  have l := comm_le x y
  rcases Nat.lt_trichotomy (comm x y) n with h | h | h
  · exfalso
    have e1 : x[comm x y]? = some (x[comm x y]'(by omega)) := List.getElem?_eq_getElem (by omega)
    have e2 : y[comm x y]? = some (y[comm x y]'(by omega)) := List.getElem?_eq_getElem (by omega)
    have := ha _ h
    rw [e1, e2] at this
    exact comm_ne x y _ _ e1 e2 (Option.some.inj this)
  · exact h
  · exfalso
    rcases hn with e | e | e
    · omega
    · omega
    · exact e (comm_at x y n h)
def letsAt (E : List E3) (k : Nat) : List Nat := ((E[k]?).map fun e => TL.tl e.1).getD []
/-- the common of the k-th and the next -/
def cmAt (E : List E3) (k : Nat) : Int := (comm (letsAt E k) (letsAt E (k + 1)) : Nat)
def cmsE (E : List E3) : List Int := (List.range E.length).map fun k => if k = 0 then 0 else cmAt E (k - 1)
theorem cmsE_cons {E : List E3} {n : Nat} (h : E.length = n + 1) : cmsE E = 0 :: (List.range n).map (cmAt E) := by
  unfold cmsE
  rw [h, List.range_succ_eq_map, List.map_cons, List.map_map]
  rfl
theorem cmsE_len (E : List E3) : (cmsE E).length = E.length := by
  unfold cmsE
  rw [List.length_map, List.length_range]
theorem letsAt_eq {E : List E3} {k : Nat} {e : E3} (h : E[k]? = some e) : letsAt E k = TL.tl e.1 := by
  unfold letsAt
  rw [h]
  rfl
/-! ### places in the heap -/
abbrev QT := List (Addr × Int × Int)
def qrefs (R : QT) : List V := R.map fun q => V.ref q.1
def QAt (K : PySem.W.Frag) (H : Hp) (R : QT) : Prop := ∀ q ∈ R, SqT K H q.1 [.int q.2.1, .int q.2.2]
theorem QAt.same {K : PySem.W.Frag} {H H' : Hp} {R : QT} (e : Same H H') (h : QAt K H R) : QAt K H' R := fun q hq => same_tup e (h q hq)
theorem qrefs_len (R : QT) : (qrefs R).length = R.length := List.length_map ..
theorem qrefs_at {R : QT} {i : Nat} {x : V} (h : (qrefs R)[i]? = some x) : ∃ t, R[i]? = some t ∧ t ∈ R ∧ x = .ref t.1 := by
  unfold qrefs at h
  rw [List.getElem?_map] at h
  cases e : R[i]? with
  | none => rw [e] at h; cases h
  | some t =>
    rw [e] at h
    cases h
    exact ⟨t, rfl, List.mem_of_getElem? e, rfl⟩
def dP2 (q : Int × Int) : PyData := .tuple [.int q.1, .int q.2]
def dQ (l : List (Int × Int)) : PyData := .list (l.map dP2)
theorem dp_qs {K : PySem.W.Frag} {H : Hp} : ∀ (R : QT), QAt K H R → DpAll K H (qrefs R) ((R.map (·.2)).map dP2)
  | [], _ => .nil
  | q :: r, h => .cons (.tup (h q (List.mem_cons_self ..)) (.cons (.int _) (.cons (.int _) .nil))) (dp_qs r fun x m => h x (List.mem_cons_of_mem _ m))
theorem dp_q {K : PySem.W.Frag} {H : Hp} {a : Addr} {R : QT} (h : SqL K H a (qrefs R)) (hq : QAt K H R) : Dp K H (.ref a) (dQ (R.map (·.2))) := .lst h (dp_qs R hq)
theorem dQ_lay : ∀ (l : List (Int × Int)), PyData.canLayAll0 (l.map dP2) = true
  | [] => rfl
  | q :: r => by
    rw [List.map_cons, PyData.canLayAll0, dQ_lay r]
    simp [dP2, PyData.canLay0, PyData.canLayAll0]
theorem dQ_deep : ∀ (l : List (Int × Int)), PyData.depthAll (l.map dP2) ≤ 1
  | [] => Nat.zero_le _
  | q :: r => by
    rw [List.map_cons, PyData.depthAll]
    have := dQ_deep r
    have e : PyData.depth (dP2 q) = 1 := rfl
    rw [e]
    omega
theorem shaped_of {d : PyData} (h : d.canLay0 = true) (h2 : d.depth ≤ 64) : SeqAt.shaped d = true := by
  unfold SeqAt.shaped
  rw [h, decide_eq_true h2]
  rfl
theorem dQ_shaped (l : List (Int × Int)) : SeqAt.shaped (dQ l) = true := shaped_of (dQ_lay l) (by
  show PyData.depthAll (l.map dP2) + 1 ≤ 64
  have := dQ_deep l
  omega)
theorem dQ_refl (l : List (Int × Int)) : PyData.eqv (dQ l) (dQ l) = true := SeqAt.eqv_refl _ (show (dQ l).canLay0 = true from dQ_lay l)
/-! lists of numbers as data -/
def dI (l : List Int) : PyData := .list (l.map .int)
theorem dp_is {K : PySem.W.Frag} {H : Hp} : ∀ (l : List Int), DpAll K H (l.map V.int) (l.map PyData.int)
  | [] => .nil
  | _ :: r => .cons (.int _) (dp_is r)
theorem dp_i {K : PySem.W.Frag} {H : Hp} {a : Addr} {l : List Int} (h : SqL K H a (l.map V.int)) : Dp K H (.ref a) (dI l) := .lst h (dp_is l)
theorem dI_lay : ∀ (l : List Int), PyData.canLayAll0 (l.map PyData.int) = true
  | [] => rfl
  | q :: r => by
    rw [List.map_cons, PyData.canLayAll0, dI_lay r]
    simp [PyData.canLay0]
theorem dI_shaped (l : List Int) : SeqAt.shaped (dI l) = true := shaped_of (dI_lay l) (by
  show PyData.depthAll (l.map PyData.int) + 1 ≤ 64
  rw [PySem.W.depth_ints]
  decide)
theorem dI_refl (l : List Int) : PyData.eqv (dI l) (dI l) = true := SeqAt.eqv_refl _ (show (dI l).canLay0 = true from dI_lay l)
/-! ### triples in the heap, flat and nested -/
abbrev FT := List (Addr × E3)
def frefs (Z : FT) : List V := Z.map fun z => V.ref z.1
def FAt (H : Hp) (Z : FT) : Prop := ∀ z ∈ Z, H z.1 = some (.tup [.str z.2.1, .int z.2.2.1, .int z.2.2.2])
abbrev NT3 := List (Addr × Addr × E3)
def nrefs (Z : NT3) : List V := Z.map fun z => V.ref z.1
def NAt (H : Hp) (Z : NT3) : Prop := ∀ z ∈ Z, H z.1 = some (.tup [.str z.2.2.1, .ref z.2.1]) ∧ H z.2.1 = some (.tup [.int z.2.2.2.1, .int z.2.2.2.2])
theorem FAt.same {H H' : Hp} {Z : FT} (e : Same H H') (h : FAt H Z) : FAt H' Z := fun z m => e _ _ (h z m)
theorem NAt.same {H H' : Hp} {Z : NT3} (e : Same H H') (h : NAt H Z) : NAt H' Z := fun z m => ⟨e _ _ (h z m).1, e _ _ (h z m).2⟩
theorem FAt.snoc {H : Hp} {Z : FT} {z : Addr × E3} (h : FAt H Z) (hz : H z.1 = some (.tup [.str z.2.1, .int z.2.2.1, .int z.2.2.2])) : FAt H (Z ++ [z]) := fun y hy => by
  rcases List.mem_append.mp hy with m | m
  · exact h y m
  · rw [List.mem_singleton.mp m]; exact hz
theorem NAt.snoc {H : Hp} {Z : NT3} {z : Addr × Addr × E3} (h : NAt H Z) (hz : H z.1 = some (.tup [.str z.2.2.1, .ref z.2.1]) ∧ H z.2.1 = some (.tup [.int z.2.2.2.1, .int z.2.2.2.2])) : NAt H (Z ++ [z]) := fun y hy => by
  rcases List.mem_append.mp hy with m | m
  · exact h y m
  · rw [List.mem_singleton.mp m]; exact hz
/-- a list that is written lies apart from what the tuples are -/
theorem FAt.put {H : Hp} {Z : FT} {D : Addr} {l : List V} {o : HO} (h : FAt H Z) (hD : H D = some (.lst l)) : FAt (upd H D o) Z := fun z m => by
  have := h z m
  rw [upd_ne (fun e => by rw [e, hD] at this; cases this)]
  exact this
theorem NAt.put {H : Hp} {Z : NT3} {D : Addr} {l : List V} {o : HO} (h : NAt H Z) (hD : H D = some (.lst l)) : NAt (upd H D o) Z := fun z m => by
  have := h z m
  rw [upd_ne (fun e => by rw [e, hD] at this; cases this.1), upd_ne (fun e => by rw [e, hD] at this; cases this.2)]
  exact this
theorem QAt.put {K : PySem.W.Frag} {H : Hp} {R : QT} {D : Addr} {l : List V} {o : HO} (h : QAt K H R) (hD : H D = some (.lst l)) : QAt K (upd H D o) R := fun z m => but_tup (l := l) hD but_upd (h z m)
theorem sort_flat (Z : FT) : ((Z.map fun z => (V.ref z.1, z.2)).mergeSort (PySem.W.dataLe false fun z => eFlat z.2)).map (·.1) = frefs (Z.mergeSort fun p q => le3 p.2 q.2) := by
  rw [flat_le (β := V × E3) (fun z => z.2), ← List.map_mergeSort (l := Z) (f := fun z : Addr × E3 => (V.ref z.1, z.2)) (r := fun p q : Addr × E3 => le3 p.2 q.2) (s := fun p q : V × E3 => le3 p.2 q.2) (fun _ _ _ _ => rfl), List.map_map]
  rfl
theorem sort_nest (Z : NT3) : ((Z.map fun z => (V.ref z.1, z.2.2)).mergeSort (PySem.W.dataLe false fun z => eNest z.2)).map (·.1) = nrefs (Z.mergeSort fun p q => le3 p.2.2 q.2.2) := by
  rw [nest_le (β := V × E3) (fun z => z.2), ← List.map_mergeSort (l := Z) (f := fun z : Addr × Addr × E3 => (V.ref z.1, z.2.2)) (r := fun p q : Addr × Addr × E3 => le3 p.2.2 q.2.2) (s := fun p q : V × E3 => le3 p.2 q.2) (fun _ _ _ _ => rfl), List.map_map]
  rfl
theorem ends3_snoc (h : List (Int × Str)) (q : Int × Str) : ends3 (h ++ [q]) = ends3 h ++ endsOf q := by
  unfold ends3
  rw [List.flatMap_append]
  simp
theorem take_snoc {α : Type} {l : List α} {i : Nat} {x : α} (h : l[i]? = some x) : l.take (i + 1) = l.take i ++ [x] := by
  rw [List.take_add_one, h]
  rfl
theorem endsOf_at {q : Int × Str} {s : Nat} (h : s ≤ q.2.length) : (endsOf q)[s]? = some (suf q.2 s, q.1, (s : Int)) := by
  unfold endsOf
  rw [List.getElem?_map, List.getElem?_range (by omega)]
  rfl
/-- the order: a new list of new pairs -/
def spOrder (K : PySem.W.Frag) : Sp := fun vs H Q _ => ∃ (a : Addr) (L : PL), vs = [.ref a] ∧ HsAt K H a L ∧ L.length ≤ 500 ∧ (∀ q ∈ L, q.2.2.length ≤ 100) ∧
  ∀ (l : Addr) (R : QT) (H' : Hp), Same H H' → H l = none → H' l = some (.lst (qrefs R)) → QAt K H' R → R.map (·.2) = (ordE (L.map (·.2))).map (·.2) → Q (.ref l) H'
end SH
set_option Elab.async false
set_option linter.all false
set_option maxRecDepth 100000
set_option maxHeartbeats 4000000
/-! a house as a dict; slices of lists -/
namespace SH
open PySem PySem.Spec PyProof.Rows L2
namespace Dct
theorem valV_merge_out {k : Key} : ∀ (more acc : List (Key × V)), k ∉ more.map (·.1) → valV (mergeK acc more) k = valV acc k
  | [], _, _ => rfl
  | x :: r, acc, h => by
    rw [List.map_cons, List.mem_cons] at h
    show valV (mergeK (putK acc x.1 x.2) r) k = _
    rw [valV_merge_out r _ (fun z => h (.inr z)), valV_put, if_neg (fun z => h (.inl z))]
theorem valV_merge_in {k : Key} {v : V} : ∀ (more acc : List (Key × V)), (more.map (·.1)).Nodup → (k, v) ∈ more → valV (mergeK acc more) k = some v
  | x :: r, acc, nd, h => by
    rw [List.map_cons, List.nodup_cons] at nd
    show valV (mergeK (putK acc x.1 x.2) r) k = _
    rcases List.mem_cons.mp h with e | m
    · rw [← e] at nd ⊢
      rw [valV_merge_out r _ nd.1, valV_put, if_pos rfl]
    · exact valV_merge_in r _ nd.2 m
theorem take_drop_cut {z : Str} {a b : Nat} (h1 : a ≤ b) (h2 : b ≤ z.length) : TL.tl (cutS z (some (a : Int)) (some (b : Int))) = ((TL.tl z).take b).drop a := by
  show (z.cps.toList.drop (HT.sIx z.length 0 (some (a : Int)))).take (HT.sIx z.length z.length (some (b : Int)) - HT.sIx z.length 0 (some (a : Int))) = _
  rw [HT.sIx_nat, HT.sIx_nat, Nat.min_eq_left h2, Nat.min_eq_left (Nat.le_trans h1 h2), List.drop_take]
theorem paired_house {K : PySem.W.Frag} {H : Hp} : ∀ {L : PL}, PairsAt K H L → Paired (fun p (kv : Key × V) => SqT K H p [kV kv.1, kv.2]) (L.map (·.1)) (L.map fun q => ((Sum.inl q.2.1 : Key), V.str q.2.2))
  | [], _ => .nil
  | q :: r, h => .cons (h q (List.mem_cons_self ..)) (paired_house fun x m => h x (List.mem_cons_of_mem _ m))

theorem house_get {L : PL} (asc : ((L.map (·.2)).map (·.1)).Pairwise (· < ·)) {n : Int} {z : Str} (h : (n, z) ∈ L.map (·.2)) : valV (mergeK [] (L.map fun q => ((Sum.inl q.2.1 : Key), V.str q.2.2))) (.inl n) = some (.str z) := by
  obtain ⟨q, hq, e⟩ := List.mem_map.mp h
  have e1 : q.2.1 = n := congrArg Prod.fst e
  have e2 : q.2.2 = z := congrArg Prod.snd e
  subst e1 e2
  refine valV_merge_in _ _ ?_ (List.mem_map.mpr ⟨q, hq, rfl⟩)
  rw [List.map_map]
  rw [List.map_map, List.pairwise_map] at asc
  rw [List.Nodup, List.pairwise_map]
  exact asc.imp fun h e => by
    have h : _ < _ := h
    have := Sum.inl.inj e
    simp only [Function.comp] at h
    omega
theorem cut_from (xs : List V) (k : Nat) : cutV xs (some (k : Int)) none = xs.drop k := by
  unfold cutV
  rw [HT.sIx_nat, HT.sIx_none]
  rcases Nat.le_total k xs.length with h | h
  · rw [Nat.min_eq_left h, List.take_of_length_le (by rw [List.length_drop]; exact Nat.le_refl _)]
  · rw [Nat.min_eq_right h, Nat.sub_self, List.take_zero, List.drop_eq_nil_of_le h]
end Dct
end SH
set_option Elab.async false
set_option linter.all false
set_option maxRecDepth 100000
set_option maxHeartbeats 4000000
/-! the text with a number; an end told by its number and start -/
namespace SH
open PySem PySem.Spec PyProof.Rows L2
theorem refs_len (L : PL) : (refs L).length = L.length := List.length_map ..
def lk (n : Int) : List (Int × Str) → Option Str
  | [] => none
  | q :: r => if q.1 = n then some q.2 else lk n r
theorem lk_mem {n : Int} {z : Str} : ∀ {h : List (Int × Str)}, lk n h = some z → (n, z) ∈ h
  | q :: r, e => by
    unfold lk at e
    by_cases c : q.1 = n
    · rw [if_pos c] at e
      have e := Option.some.inj e
      obtain ⟨a, b⟩ := q
      subst c e
      exact List.mem_cons_self ..
    · rw [if_neg c] at e
      exact List.mem_cons_of_mem _ (lk_mem e)
theorem lk_none {n : Int} : ∀ {h : List (Int × Str)}, lk n h = none → n ∉ h.map (·.1)
  | [], _ => by simp
  | q :: r, e => by
    unfold lk at e
    by_cases c : q.1 = n
    · rw [if_pos c] at e
      cases e
    · rw [if_neg c] at e
      rw [List.map_cons, List.mem_cons, not_or]
      exact ⟨fun z => c z.symm, lk_none e⟩
theorem lk_of {n : Int} {z : Str} : ∀ {h : List (Int × Str)}, (h.map (·.1)).Pairwise (· < ·) → (n, z) ∈ h → lk n h = some z
  | q :: r, asc, m => by
    rw [List.map_cons, List.pairwise_cons] at asc
    unfold lk
    rcases List.mem_cons.mp m with e | m
    · rw [← e, if_pos rfl]
    · have := asc.1 n (List.mem_map.mpr ⟨_, m, rfl⟩)
      rw [if_neg (by omega)]
      exact lk_of asc.2 m
theorem lk_no {n : Int} {h : List (Int × Str)} (m : n ∉ h.map (·.1)) : lk n h = none := by
  cases e : lk n h with
  | none => rfl
  | some z => exact absurd (List.mem_map.mpr ⟨_, lk_mem e, rfl⟩) m
/-- dict(house) at a number -/
theorem lk_val {L : PL} (asc : ((L.map (·.2)).map (·.1)).Pairwise (· < ·)) (n : Int) : valV (mergeK [] (L.map fun q => ((Sum.inl q.2.1 : Key), V.str q.2.2))) (.inl n) = (lk n (L.map (·.2))).map V.str := by
  cases e : lk n (L.map (·.2)) with
  | some z => exact Dct.house_get asc (lk_mem e)
  | none =>
    rw [Dct.valV_merge_out _ _ (fun z => ?_)]
    · rfl
    · rw [List.map_map] at z
      obtain ⟨q, hq, e2⟩ := List.mem_map.mp z
      refine lk_none e ?_
      rw [List.map_map]
      exact List.mem_map.mpr ⟨q, hq, Sum.inl.inj e2⟩
/-- the letters of an end -/
def endS (h : List (Int × Str)) (n s : Int) : Option Str :=
  match lk n h with
  | none => none
  | some z => if 0 ≤ s ∧ s ≤ (z.length : Int) then some (suf z s.toNat) else none
theorem endS_some {h : List (Int × Str)} {n s : Int} {x : Str} (e : endS h n s = some x) : ∃ z, lk n h = some z ∧ 0 ≤ s ∧ s ≤ (z.length : Int) ∧ x = suf z s.toNat := by
  unfold endS at e
  cases c : lk n h with
  | none => rw [c] at e; cases e
  | some z =>
    rw [c] at e
    by_cases d : 0 ≤ s ∧ s ≤ (z.length : Int)
    · have e : (if 0 ≤ s ∧ s ≤ (z.length : Int) then some (suf z s.toNat) else none) = some x := e
      rw [if_pos d] at e
      exact ⟨z, rfl, d.1, d.2, (Option.some.inj e).symm⟩
    · have e : (if 0 ≤ s ∧ s ≤ (z.length : Int) then some (suf z s.toNat) else none) = some x := e
      rw [if_neg d] at e
      cases e
theorem endS_of {h : List (Int × Str)} {n s : Int} {z : Str} (e : lk n h = some z) (d : 0 ≤ s ∧ s ≤ (z.length : Int)) : endS h n s = some (suf z s.toNat) := by
  unfold endS
  rw [e]
  exact if_pos d
theorem endS_out {h : List (Int × Str)} {n s : Int} {z : Str} (e : lk n h = some z) (d : ¬ (0 ≤ s ∧ s ≤ (z.length : Int))) : endS h n s = none := by
  unfold endS
  rw [e]
  exact if_neg d
theorem endS_no {h : List (Int × Str)} {n s : Int} (e : lk n h = none) : endS h n s = none := by
  unfold endS
  rw [e]
/-- an error of the class at C with this number leaves -/
def Errs (E : XK) (H : Hp) (C : Addr) (n : Int) : Prop := ∀ (d : Addr) (H2 : Hp), Same H H2 → H d = none → H2 d = some (.xd [(("at" : Str), .int n)]) → E (.ref C) (some d) H2
theorem Errs.same {E : XK} {H H' : Hp} {C : Addr} {n : Int} (s : Same H H') (h : Errs E H C n) : Errs E H' C n := fun d H2 s2 nd e => h d H2 (s.trans s2) (s.free nd) e
end SH
set_option Elab.async false
set_option linter.all false
set_option maxRecDepth 100000
set_option maxHeartbeats 4000000
/-! tuples of data -/
namespace SH
open PySem PySem.Spec PyProof.Rows L2
def Okd (d : PyData) : Prop := d.canLay0 = true ∧ d.depth ≤ 60
theorem okd_int (n : Int) : Okd (.int n) := ⟨rfl, Nat.zero_le _⟩
theorem okd_str {z : Str} (h : PyData.strOk z = true) : Okd (.str z) := ⟨h, Nat.zero_le _⟩
theorem okd_non : Okd .none := ⟨rfl, Nat.zero_le _⟩
theorem okd_bool (b : Bool) : Okd (.bool b) := ⟨rfl, Nat.zero_le _⟩
theorem okd_H {h : List (Int × Str)} (a : LetAll h) : Okd (dH h) := ⟨dH_lay a, dH_depth h⟩
theorem okd_Q (l : List (Int × Int)) : Okd (dQ l) := ⟨dQ_lay l, by show PyData.depthAll (l.map dP2) + 1 ≤ 60; have := dQ_deep l; omega⟩
theorem okd_I (l : List Int) : Okd (dI l) := ⟨dI_lay l, by show PyData.depthAll (l.map PyData.int) + 1 ≤ 60; rw [PySem.W.depth_ints]; decide⟩
theorem okd_P2 (q : Int × Int) : Okd (dP2 q) := ⟨rfl, by show 1 ≤ 60; decide⟩
/-- data are equal to themselves -/
theorem okd_sh {d : PyData} (h : Okd d) : SeqAt.shaped d = true ∧ PyData.eqv d d = true := ⟨shaped_of h.1 (by have := h.2; omega), SeqAt.eqv_refl _ h.1⟩
theorem dp_p2 {K : PySem.W.Frag} {H : Hp} {t : Addr} {n m : Int} (h : H t = some (.tup [.int n, .int m])) : Dp K H (.ref t) (dP2 (n, m)) := .tup (.inl (.inl h)) (.cons (.int _) (.cons (.int _) .nil))
theorem lay_all : ∀ {ds : List PyData}, (∀ d ∈ ds, d.canLay0 = true) → PyData.canLayAll0 ds = true
  | [], _ => rfl
  | d :: r, h => by
    rw [PyData.canLayAll0, h d (List.mem_cons_self ..), lay_all fun x m => h x (List.mem_cons_of_mem _ m)]
    rfl
theorem deep_all {n : Nat} : ∀ {ds : List PyData}, (∀ d ∈ ds, d.depth ≤ n) → PyData.depthAll ds ≤ n
  | [], _ => Nat.zero_le _
  | d :: r, h => by
    rw [PyData.depthAll]
    have := h d (List.mem_cons_self ..)
    have := deep_all fun x m => h x (List.mem_cons_of_mem _ m)
    omega
theorem okd_tup {ds : List PyData} (h : ∀ d ∈ ds, d.canLay0 = true) (h2 : ∀ d ∈ ds, d.depth ≤ 59) : Okd (.tuple ds) := ⟨lay_all h, by
  show PyData.depthAll ds + 1 ≤ 60
  have := deep_all h2
  omega⟩
theorem okd_list {ds : List PyData} (h : ∀ d ∈ ds, d.canLay0 = true) (h2 : ∀ d ∈ ds, d.depth ≤ 59) : Okd (.list ds) := ⟨lay_all h, by
  show PyData.depthAll ds + 1 ≤ 60
  have := deep_all h2
  omega⟩
theorem dH_d (h : List (Int × Str)) : (dH h).depth ≤ 2 := by
  show PyData.depthAll (h.map dPair) + 1 ≤ 2
  have := dH_deep h
  omega
theorem dQ_d (l : List (Int × Int)) : (dQ l).depth ≤ 2 := by
  show PyData.depthAll (l.map dP2) + 1 ≤ 2
  have := dQ_deep l
  omega
theorem dI_d (l : List Int) : (dI l).depth ≤ 1 := by
  show PyData.depthAll (l.map PyData.int) + 1 ≤ 1
  rw [PySem.W.depth_ints]
  decide
/-- a tuple of a house and its order -/
theorem okd_HQ {h : List (Int × Str)} (a : LetAll h) (l : List (Int × Int)) : Okd (.tuple [dH h, dQ l]) := okd_tup (fun d m => by
  simp only [List.mem_cons, List.not_mem_nil, or_false] at m
  rcases m with rfl | rfl
  · exact dH_lay a
  · exact dQ_lay l) fun d m => by
  simp only [List.mem_cons, List.not_mem_nil, or_false] at m
  rcases m with rfl | rfl
  · exact Nat.le_trans (dH_d h) (by decide)
  · exact Nat.le_trans (dQ_d l) (by decide)
theorem okd_HQI {h : List (Int × Str)} (a : LetAll h) (l : List (Int × Int)) (c : List Int) : Okd (.tuple [dH h, dQ l, dI c]) := okd_tup (fun d m => by
  simp only [List.mem_cons, List.not_mem_nil, or_false] at m
  rcases m with rfl | rfl | rfl
  · exact dH_lay a
  · exact dQ_lay l
  · exact dI_lay c) fun d m => by
  simp only [List.mem_cons, List.not_mem_nil, or_false] at m
  rcases m with rfl | rfl | rfl
  · exact Nat.le_trans (dH_d h) (by decide)
  · exact Nat.le_trans (dQ_d l) (by decide)
  · exact Nat.le_trans (dI_d c) (by decide)
end SH
set_option Elab.async false
set_option linter.all false
set_option maxRecDepth 100000
set_option maxHeartbeats 4000000
/-! ends by what they begin with; a while with its own invariant -/
namespace SH
open PySem PySem.Spec PyProof.Rows L2
theorem while_i {c : TT} {tb : TS} {D : Ends} {σ : L2.St} {H : Hp} (W : Nat → L2.St → Hp → Prop) {m : Nat} (h0 : W m σ H)
    (hs : ∀ m σ H, W m σ H → c σ H fun b H1 => if b = true then tb { D with nx := fun σ' H' => ∃ m', m' < m ∧ W m' σ' H', ct := fun σ' H' => ∃ m', m' < m ∧ W m' σ' H', bk := D.nx } σ H1 else D.nx σ H1)
    (mono : ∀ σ H Q Q', (∀ b H1, Q b H1 → Q' b H1) → c σ H Q → c σ H Q') : tWhile c tb D σ H := by
  refine ⟨W, ⟨m, h0⟩, fun m σ H w => mono σ H _ _ (fun b H1 q => ?_) (hs m σ H w)⟩
  cases b with
  | true => exact ⟨_, fun σ' H' x => x, q⟩
  | false => exact q
theorem cut_mid {z : Str} {s n : Nat} (hs : s ≤ z.length) : TL.tl (cutS z (some (s : Int)) (some ((s : Int) + (n : Int)))) = ((TL.tl z).drop s).take n := by
  have e : ((s : Int) + (n : Int)) = ((s + n : Nat) : Int) := by omega
  rw [e]
  show (z.cps.toList.drop (HT.sIx z.length 0 (some (s : Int)))).take (HT.sIx z.length z.length (some ((s + n : Nat) : Int)) - HT.sIx z.length 0 (some (s : Int))) = _
  rw [HT.sIx_nat, HT.sIx_nat, Nat.min_eq_left hs]
  have hl : z.cps.toList.length = z.length := rfl
  rcases Nat.le_total (s + n) z.length with h | h
  · rw [Nat.min_eq_left h, Nat.add_sub_cancel_left]
  · rw [Nat.min_eq_right h, List.take_of_length_le (by rw [List.length_drop, hl]; exact Nat.le_refl _)]
    exact (List.take_of_length_le (by rw [List.length_drop]; show z.length - s ≤ n; omega)).symm
/-! ### the order of lists of signs -/
theorem nl_take : ∀ (n : Nat) (x y : List Nat), ¬ y < x → ¬ y.take n < x.take n
  | 0, _, _, _ => by simp
  | n + 1, [], y, _ => by simp
  | n + 1, a :: x, [], h => absurd (List.Lex.nil : ([] : List Nat) < a :: x) h
  | n + 1, a :: x, b :: y, h => by
    rw [List.take_succ_cons, List.take_succ_cons]
    intro z
    rw [List.cons_lt_cons_iff] at z h
    rcases z with z | ⟨e, z⟩
    · exact h (.inl z)
    · exact nl_take n x y (fun q => h (.inr ⟨e, q⟩)) z
/-- cut to a word's length it is less just where it is -/
theorem take_lt : ∀ (w x : List Nat), x.take w.length < w ↔ x < w
  | [], x => by simp
  | b :: w, [] => by simp
  | b :: w, a :: x => by
    rw [List.length_cons, List.take_succ_cons, List.cons_lt_cons_iff, List.cons_lt_cons_iff, take_lt w x]
theorem take_eq_not_lt {w x : List Nat} (h : x.take w.length = w) : ¬ x < w := fun z => by
  have := (take_lt w x).mpr z
  rw [h] at this
  exact List.lt_irrefl _ this
theorem le3_letters {p q : E3} (h : le3 p q = true) : ¬ TL.tl q.1 < TL.tl p.1 := fun z => by
  unfold le3 at h
  simp only [Bool.not_eq_true', decide_eq_false_iff_not] at h
  exact h (.inl z)
/-- less than all that begin with the word, or beginning with it -/
def prW (w : Str) (b : Bool) (e : E3) : Bool := decide (TL.tl e.1 < TL.tl w) || (b && decide ((TL.tl e.1).take w.length = TL.tl w))
theorem prW_mono {w : Str} {b : Bool} {p q : E3} (h : le3 p q = true) (hq : prW w b q = true) : prW w b p = true := by
  unfold prW at *
  have n := le3_letters h
  have nt := nl_take w.length _ _ n
  rw [Bool.or_eq_true, decide_eq_true_eq] at hq ⊢
  rcases hq with hq | hq
  · refine .inl ?_
    rcases List.le_iff_lt_or_eq.mp (List.not_lt.mp n) with c | c
    · exact List.lt_trans c hq
    · rw [c]; exact hq
  · rw [Bool.and_eq_true, decide_eq_true_eq] at hq
    obtain ⟨rfl, e⟩ := hq
    rw [e] at nt
    rcases List.le_iff_lt_or_eq.mp (List.not_lt.mp nt) with c | c
    · exact .inl ((take_lt _ _).mp c)
    · refine .inr ?_
      rw [Bool.true_and, decide_eq_true_eq]
      exact c
theorem filter_cut {α : Type} {E : List α} {p : α → Bool} {n : Nat} (h1 : ∀ (i : Nat) (h : i < E.length), i < n → p E[i] = true) (h2 : ∀ (i : Nat) (h : i < E.length), n ≤ i → p E[i] = false) : E.filter p = E.take n := by
  conv => lhs; rw [← List.take_append_drop n E]
  rw [List.filter_append]
  have a : (E.take n).filter p = E.take n := List.filter_eq_self.mpr fun x hx => by
    obtain ⟨i, hi, rfl⟩ := List.getElem_of_mem hx
    rw [List.length_take] at hi
    rw [List.getElem_take]
    exact h1 i (by omega) (by omega)
  have b : (E.drop n).filter p = [] := List.filter_eq_nil_iff.mpr fun x hx => by
    obtain ⟨i, hi, rfl⟩ := List.getElem_of_mem hx
    rw [List.length_drop] at hi
    rw [List.getElem_drop, h2 (n + i) (by omega) (by omega)]
    exact Bool.false_ne_true
  rw [a, b, List.append_nil]
theorem filter_or_len {α : Type} {p q : α → Bool} : ∀ {E : List α}, (∀ x ∈ E, ¬ (p x = true ∧ q x = true)) → (E.filter fun x => p x || q x).length = (E.filter p).length + (E.filter q).length
  | [], _ => rfl
  | x :: E, h => by
    have ih := filter_or_len (p := p) (q := q) (E := E) fun y hy => h y (List.mem_cons_of_mem _ hy)
    have hx := h x (List.mem_cons_self ..)
    cases a : p x <;> cases b : q x
    · rw [List.filter_cons_of_neg (by rw [a, b]; decide), List.filter_cons_of_neg (by rw [a]; decide), List.filter_cons_of_neg (by rw [b]; decide), ih]
    · rw [List.filter_cons_of_pos (by rw [a, b]; decide), List.filter_cons_of_neg (by rw [a]; decide), List.filter_cons_of_pos (by rw [b]), List.length_cons, List.length_cons, ih]
      omega
    · rw [List.filter_cons_of_pos (by rw [a, b]; decide), List.filter_cons_of_pos (by rw [a]), List.filter_cons_of_neg (by rw [b]; decide), List.length_cons, List.length_cons, ih]
      omega
    · exact absurd ⟨a, b⟩ hx
/-- the range of a word: from this index .. -/
def rFirst (w : Str) (E : List E3) : Nat := (E.filter fun e => decide (TL.tl e.1 < TL.tl w)).length
/-- .. so many -/
def rMany (w : Str) (E : List E3) : Nat := (E.filter fun e => decide ((TL.tl e.1).take w.length = TL.tl w)).length
theorem prW_f (w : Str) (E : List E3) : (E.filter (prW w false)).length = rFirst w E := by
  unfold rFirst
  congr 2
  funext e
  unfold prW
  simp
theorem prW_t (w : Str) (E : List E3) : (E.filter (prW w true)).length = rFirst w E + rMany w E := by
  unfold rFirst rMany
  rw [← filter_or_len (E := E) fun e _ h => ?_]
  · rfl
  · rw [decide_eq_true_eq, decide_eq_true_eq] at h
    exact take_eq_not_lt h.2 h.1
theorem ordE_pw (h : List (Int × Str)) : (ordE h).Pairwise (fun p q => le3 p q = true) := sort3_pw _
theorem pw_at {α : Type} {r : α → α → Prop} {E : List α} (h : E.Pairwise r) (hr : ∀ x, r x x) {i j : Nat} (hi : i < E.length) (hj : j < E.length) (l : i ≤ j) : r E[i] E[j] := by
  rcases Nat.lt_or_ge i j with c | c
  · exact List.pairwise_iff_getElem.mp h i j hi hj c
  · have : i = j := by omega
    subst this
    exact hr _
theorem le3_refl (p : E3) : le3 p p = true := by
  unfold le3
  rw [decide_eq_false (lex3_irrefl p)]
  rfl
end SH
set_option Elab.async false
set_option linter.all false
set_option maxRecDepth 100000
set_option maxHeartbeats 4000000
/-! houses with a pair more or less -/
namespace SH
open PySem PySem.Spec PyProof.Rows L2
def spIsLetter : Sp := fun vs H Q _ => ∃ c : Nat, vs = [.str ⟨#[c]⟩] ∧ Q (.bl (okc c)) H
def spIsText : Sp := fun vs H Q _ => ∃ z : Str, vs = [.str z] ∧ z.length ≤ 1000 ∧ ∀ H', Same H H' → Q (.bl (isTxt z)) H'
def spHasNumber (K : PySem.W.Frag) : Sp := fun vs H Q _ => ∃ (a : Addr) (L : PL) (n : Int), vs = [.ref a, .int n] ∧ HsAt K H a L ∧ L.length ≤ 1000 ∧ ∀ H', Same H H' → Q (.bl (decide (n ∈ L.map fun q => q.2.1))) H'
theorem inV_ints (n : Int) (l : List Int) : inV (.int n) (l.map V.int) = decide (n ∈ l) := by
  unfold inV
  induction l with
  | nil => simp
  | cons x r ih =>
    rw [List.map_cons, List.any_cons, ih]
    show (x == n || decide (n ∈ r)) = decide (n ∈ x :: r)
    by_cases h : x = n
    · subst h
      simp
    · have h2 : (x == n) = false := by simpa using h
      have h3 : ¬ n = x := fun z => h z.symm
      rw [h2]
      simp [h3]
theorem refs_at {L : PL} {i : Nat} {x : V} (h : (refs L)[i]? = some x) : ∃ t, L[i]? = some t ∧ t ∈ L ∧ x = .ref t.1 := by
  unfold refs at h
  rw [List.getElem?_map] at h
  cases e : L[i]? with
  | none => rw [e] at h; cases h
  | some t =>
    rw [e] at h
    cases h
    exact ⟨t, rfl, List.mem_of_getElem? e, rfl⟩
theorem drop_at {α : Type} {l : List α} {i : Nat} {x : α} (h : l[i]? = some x) : l.drop i = x :: l.drop (i + 1) := by
  obtain ⟨hi, e⟩ := List.getElem?_eq_some_iff.mp h
  rw [List.drop_eq_getElem_cons hi, e]
/-- a new house is handed back: a new list p of pairs, as pure data h -/
def NewHs (K : PySem.W.Frag) (Q : VK) (H : Hp) (h : List (Int × Str)) : Prop := ∀ (p : Addr) (L' : PL) (H' : Hp), Same H H' → H p = none → H' p = some (.lst (refs L')) → PairsAt K H' L' → L'.map (·.2) = h → Q (.ref p) H'
/-- with a pair more, in its place -/
def ins (n : Int) (z : Str) (h : List (Int × Str)) : List (Int × Str) := h.filter (fun q => decide (q.1 < n)) ++ [(n, z)] ++ h.filter (fun q => decide (n < q.1))
theorem asc_uniq : ∀ {l m : List (Int × Str)}, l.Perm m → l.Pairwise (fun q r => q.1 < r.1) → m.Pairwise (fun q r => q.1 < r.1) → l = m
  | [], m, p, _, _ => (List.Perm.eq_nil p.symm).symm
  | x :: l, [], p, _, _ => absurd p.length_eq (by simp)
  | x :: l, y :: m, p, hl, hm => by
    rw [List.pairwise_cons] at hl hm
    have e : x = y := by
      rcases List.mem_cons.mp (p.mem_iff.mp (List.mem_cons_self ..)) with e | hx
      · exact e
      · rcases List.mem_cons.mp (p.mem_iff.mpr (List.mem_cons_self ..)) with e | hy
        · exact e.symm
        · have a := hm.1 x hx
          have b := hl.1 y hy
          omega
    subst e
    rw [asc_uniq p.cons_inv hl.2 hm.2]
theorem ins_perm {n : Int} {z : Str} : ∀ {h : List (Int × Str)}, n ∉ h.map (·.1) → (ins n z h).Perm (h ++ [(n, z)])
  | [], _ => List.Perm.refl _
  | q :: r, hn => by
    rw [List.map_cons, List.mem_cons, not_or] at hn
    have ih := ins_perm (z := z) hn.2
    unfold ins at ih ⊢
    by_cases h1 : q.1 < n
    · rw [List.filter_cons_of_pos (by simpa using h1), List.filter_cons_of_neg (by simp; omega)]
      exact ih.cons q
    · rw [List.filter_cons_of_neg (by simpa using h1), List.filter_cons_of_pos (by simp; omega)]
      have p1 := List.perm_middle (a := q) (l₁ := r.filter (fun q => decide (q.1 < n)) ++ [(n, z)]) (l₂ := r.filter (fun q => decide (n < q.1)))
      exact p1.trans (ih.cons q)
theorem ins_asc {n : Int} {z : Str} {h : List (Int × Str)} (a : h.Pairwise (fun q r => q.1 < r.1)) : (ins n z h).Pairwise (fun q r => q.1 < r.1) := by
  unfold ins
  rw [List.pairwise_append, List.pairwise_append]
  refine ⟨⟨a.filter _, by simp, fun x hx y hy => ?_⟩, a.filter _, fun x hx y hy => ?_⟩
  · have h1 := (List.mem_filter.mp hx).2
    rw [List.mem_singleton.mp hy]
    simpa using h1
  · have h2 := (List.mem_filter.mp hy).2
    have h2' : n < y.1 := by simpa using h2
    rcases List.mem_append.mp hx with m | m
    · have h1 := (List.mem_filter.mp m).2
      have h1' : x.1 < n := by simpa using h1
      omega
    · rw [List.mem_singleton.mp m]
      exact h2'
theorem IsHs.pw {m : Nat} {h : List (Int × Str)} (a : IsHs m h) : h.Pairwise (fun q r => q.1 < r.1) := List.pairwise_map.mp a.asc
end SH
set_option Elab.async false
set_option linter.all false
set_option maxRecDepth 100000
set_option maxHeartbeats 4000000
/-! < of any data -/
namespace SH
open PySem PySem.Spec PyProof.Rows L2
def rLtD (K : PySem.W.Frag) : V → V → Hp → VK → Prop := fun x y H Q => ∃ d e, Dp K H x d ∧ Dp K H y e ∧ PySem.W.alike d e = true ∧ d ≠ .none ∧ d.depth ≤ 60 ∧ Q (.bl (PySem.W.dataLt d e)) H
theorem op_ltD {X : Cx} (hu : X.A.units + 64 < cLine) : OpR X (compareOp .Lt) (rLtD X.K) := by
  intro pins s σ H x y v u Q I rx ry h
  obtain ⟨d, e, hd, he, al, hn, hdp, q⟩ := h
  obtain ⟨as, r1⟩ := Dp.reads I d x v hd rx
  obtain ⟨bs, r2⟩ := Dp.reads I e y u he ry
  exact PySem.W.lt_data r1 r2 al hn (by omega) ⟨.bl _, H, I, rfl, q⟩
theorem op_ltDK {X : Cx} {K : PySem.W.Frag} (hu : X.A.units + 64 < cLine) (h : X.K = K := by rfl) : OpR X (compareOp .Lt) (rLtD K) := h ▸ op_ltD hu
theorem sl_tupK {X : Cx} {K : PySem.W.Frag} (h : X.K = K := by rfl) : SlR X (rSlT K) := h ▸ sl_tup
end SH
set_option Elab.async false
set_option linter.all false
set_option maxRecDepth 100000
set_option maxHeartbeats 4000000
/-! the order with a text more, and without one -/
namespace SH
open PySem PySem.Spec PyProof.Rows L2
/-- the ends of a text in order -/
def fresh (q : Int × Str) : List E3 := (endsOf q).mergeSort le3
theorem fresh_pw (q : Int × Str) : (fresh q).Pairwise (fun a b => le3 a b = true) := sort3_pw _
theorem ends3_perm {h k : List (Int × Str)} (p : h.Perm k) : (ends3 h).Perm (ends3 k) := p.flatMap_right _
theorem mrg_is {h k : List (Int × Str)} {q : Int × Str} (p : k.Perm (h ++ [q])) : List.merge (ordE h) (fresh q) le3 = ordE k := by
  refine sorted3_uniq ?_ (List.pairwise_merge (fun p q r => le3_tr p q r) (fun p q => le3_tot p q) _ _ (sort3_pw _) (fresh_pw q)) (ordE_pw k)
  refine List.Perm.trans (List.merge_perm_append le3) (((List.mergeSort_perm _ _).append (List.mergeSort_perm _ _)).trans ?_)
  rw [← ends3_snoc]
  exact (ends3_perm p.symm).trans (List.mergeSort_perm _ _).symm
theorem mrg_lt {e f : E3} {E F : List E3} (h : lex3 f e) : List.merge (e :: E) (f :: F) le3 = f :: List.merge (e :: E) F le3 := by
  rw [List.cons_merge_cons, if_neg]
  unfold le3
  rw [decide_eq_true h]
  decide
theorem mrg_ge {e f : E3} {E F : List E3} (h : ¬ lex3 f e) : List.merge (e :: E) (f :: F) le3 = e :: List.merge E (f :: F) le3 := by
  rw [List.cons_merge_cons, if_pos]
  unfold le3
  rw [decide_eq_false h]
  rfl
theorem mrg_nil (e : E3) (E : List E3) : List.merge (e :: E) [] le3 = e :: List.merge E [] le3 := by
  simp
/-- the order without the ends of a text -/
theorem ordE_filter {h : List (Int × Str)} (n : Int) : (ordE h).filter (fun e => decide (e.2.1 ≠ n)) = ordE (h.filter fun q => decide (q.1 ≠ n)) := by
  refine sorted3_uniq (((List.mergeSort_perm _ _).filter _).trans ?_) ((ordE_pw h).filter _) (ordE_pw _)
  refine List.Perm.trans ?_ (List.mergeSort_perm _ _).symm
  have : (ends3 h).filter (fun e => decide (e.2.1 ≠ n)) = ends3 (h.filter fun q => decide (q.1 ≠ n)) := by
    induction h with
    | nil => rfl
    | cons q r ih =>
      have e : ends3 (q :: r) = endsOf q ++ ends3 r := rfl
      rw [e, List.filter_append, ih]
      by_cases c : q.1 ≠ n
      · rw [List.filter_cons_of_pos (by simpa using c)]
        have e2 : ends3 (q :: r.filter fun q => decide (q.1 ≠ n)) = endsOf q ++ ends3 (r.filter fun q => decide (q.1 ≠ n)) := rfl
        rw [e2]
        congr 1
        refine List.filter_eq_self.mpr fun x hx => ?_
        obtain ⟨s, _, rfl⟩ := mem_endsOf.mp hx
        exact decide_eq_true c
      · rw [List.filter_cons_of_neg (by simpa using c)]
        have : (endsOf q).filter (fun e => decide (e.2.1 ≠ n)) = [] := List.filter_eq_nil_iff.mpr fun x hx => by
          obtain ⟨s, _, rfl⟩ := mem_endsOf.mp hx
          simpa using c
        rw [this, List.nil_append]
  rw [this]
theorem ins_mem {n : Int} {z : Str} {h : List (Int × Str)} (hn : n ∉ h.map (·.1)) {q : Int × Str} (hq : q ∈ h) : q ∈ ins n z h := (ins_perm hn).mem_iff.mpr (List.mem_append_left _ hq)
theorem cut_1 (n s : Int) (x : Str) : cutV [V.str x, .int n, .int s] (some 1) none = [.int n, .int s] := rfl
theorem ins_len {n : Int} {z : Str} {h : List (Int × Str)} (hn : n ∉ h.map (·.1)) : (ins n z h).length = h.length + 1 := by
  rw [(ins_perm hn).length_eq, List.length_append]
  rfl
end SH
set_option Elab.async false
set_option linter.all false
set_option maxRecDepth 100000
set_option maxHeartbeats 4000000
/-! what is told: a tag and a thing -/
namespace SH
open PySem PySem.Spec PyProof.Rows L2
/-- the texts that are tried: letters, or a newline among them -/
def Tryable (z : Str) : Prop := z.length ≤ 1000 ∧ isTxt z = (decide (z.length ≤ 40) && !decide (10 ∈ z.cps.toList)) ∧ PyData.strOk z = true
theorem tryable_let {z : Str} (h : IsLet z) (hl : z.length ≤ 40) : Tryable z := by
  refine ⟨Nat.le_trans hl (by decide), ?_, let_ok h⟩
  have e1 : isTxt z = true := by
    unfold isTxt
    rw [decide_eq_true hl]
    exact h
  have e2 : decide (10 ∈ z.cps.toList) = false := decide_eq_false fun m => absurd (List.all_eq_true.mp h 10 m) (by decide)
  rw [e1, e2, decide_eq_true hl]
  rfl
theorem tryable_big {z : Str} (h : IsLet z) (hl : z.length ≤ 1000) (hg : 40 < z.length) : Tryable z := by
  refine ⟨hl, ?_, let_ok h⟩
  rw [isTxt_long hg, decide_eq_false (by omega)]
  rfl
theorem tryable_any {z : Str} (h : IsLet z) (hl : z.length ≤ 1000) : Tryable z := by
  rcases Nat.lt_or_ge 40 z.length with c | c
  · exact tryable_big h hl c
  · exact tryable_let h c
theorem tryable_nl {z : Str} (h : IsLet z) (hl : z.length ≤ 900) : Tryable (z ++ "\n") := by
  have e : (z ++ "\n" : Str).cps.toList = z.cps.toList ++ [10] := TL.tl_append z "\n"
  have m : 10 ∈ (z ++ "\n" : Str).cps.toList := by rw [e]; simp
  have l : (z ++ "\n" : Str).length = z.length + 1 := len_app z "\n"
  refine ⟨by omega, ?_, ?_⟩
  · rw [isTxt_line m, decide_eq_true m]
    simp
  · unfold PyData.strOk
    rw [← Array.all_toList, e]
    refine List.all_eq_true.mpr fun c hc => ?_
    rcases List.mem_append.mp hc with m | m
    · have := okc_lt (List.all_eq_true.mp h c m)
      exact decide_eq_true (by omega)
    · rw [List.mem_singleton.mp m]
      rfl
theorem join_let {n : Nat} : IsLet (Txt.join "" (List.replicate n (⟨#[97]⟩ : Str))) := List.all_eq_true.mpr fun c hc => by rw [join_mem hc]; rfl
def Due (K : PySem.W.Frag) (H' : Hp) (v : V) (p : Str × PyData) : Prop := ∃ (t : Addr) (x : V), v = .ref t ∧ H' t = some (.tup [.str p.1, x]) ∧ Dp K H' x p.2
theorem Due.of {K : PySem.W.Frag} {H' : Hp} {v : V} {p q : Str × PyData} (e : p = q) (h : Due K H' v p) : Due K H' v q := e ▸ h
theorem Due.dp {K : PySem.W.Frag} {H' : Hp} {v : V} {p : Str × PyData} (h : Due K H' v p) : Dp K H' v (dT p) := by
  obtain ⟨t, x, rfl, h1, h2⟩ := h
  exact .tup (.inl (.inl h1)) (.cons (.str _) (.cons h2 .nil))
theorem Due.same {K : PySem.W.Frag} {H H' : Hp} {v : V} {p : Str × PyData} (s : Same H H') (h : Due K H v p) : Due K H' v p := by
  obtain ⟨t, x, rfl, h1, h2⟩ := h
  exact ⟨t, x, rfl, s _ _ h1, dp_same s h2⟩
theorem dT_ok {p : Str × PyData} (h1 : PyData.strOk p.1 = true) (h2 : Okd p.2) : SeqAt.shaped (dT p) = true ∧ PyData.eqv (dT p) (dT p) = true := dT_shaped h1 h2.1 h2.2
end SH
set_option Elab.async false
set_option linter.all false
set_option maxRecDepth 100000
set_option maxHeartbeats 4000000
/-! zip of two texts: new pairs of their signs -/
namespace SH
open PySem PySem.Spec PyProof.Rows L2
def pairHere (x y : Str) (i : Nat) (H : Hp) (v : V) (H' : Hp) : Prop := ∃ (T : Addr) (c d : Nat), v = .ref T ∧ H T = none ∧ H' = upd H T (.tup [.str ⟨#[c]⟩, .str ⟨#[d]⟩]) ∧ x.cps[i]? = some c ∧ y.cps[i]? = some d
def Itzs (x y : Str) : It := ⟨fun i _ => i < min x.cps.size y.cps.size, fun i H v H' => pairHere x y i H v H', fun i _ => i = min x.cps.size y.cps.size⟩
def zipsAt (x y : Str) (t u : Tok) (z TI TO i1 i2 : Addr) (i : Nat) (h : Heap) : Prop :=
  IsZip h z TI TO .none ∧ IsTupOf2 h TI (.ref i1) (.ref i2) ∧ (∃ p q, IsTupOf2 h TO p q) ∧ h.IsStrIter i1 (strIterType x) x t i ∧ h.IsStrIter i2 (strIterType y) y u i
theorem turn_zips {P : Program} {w : World} {K : PySem.W.Frag} {es : List Expr} {n : Nat} {ps : Pos} {x y : Str} {t u : Tok} {z TI TO i1 i2 : Addr} (D : ZipSep2 z TI TO i1 i2 [i1] [i2]) :
    Turn P w K (.Tuple es n ps) (Itzs x y) [z, TI, TO, i1, i2] z (zipsAt x y t u z TI TO i1 i2) where
  mem := by simp
  obj := fun i h st c hc => by
    obtain ⟨g0, gI, ⟨p, q, gO⟩, ⟨o1, e1, _, d1⟩, ⟨o2, e2, _, d2⟩⟩ := st
    simp only [List.mem_cons, List.not_mem_nil, or_false] at hc
    rcases hc with rfl | rfl | rfl | rfl | rfl
    · exact ⟨_, g0, fun v q => nomatch q⟩
    · exact ⟨_, gI, fun v q => nomatch q⟩
    · exact ⟨_, gO, fun v q => nomatch q⟩
    · exact ⟨o1, e1, fun v q => by rw [d1] at q; cases q⟩
    · exact ⟨o2, e2, fun v q => by rw [d2] at q; cases q⟩
  keep := fun i h h' st k => by
    obtain ⟨g0, gI, ⟨p, q, gO⟩, ⟨o1, e1, r1⟩, ⟨o2, e2, r2⟩⟩ := st
    exact ⟨k z (by simp) _ g0, k TI (by simp) _ gI, ⟨p, q, k TO (by simp) _ gO⟩, ⟨o1, k i1 (by simp) _ e1, r1⟩, ⟨o2, k i2 (by simp) _ e2, r2⟩⟩
  item := by
    intro X hP hw hK hc i pins s σ H E I hf st hg
    subst hP hw hK
    obtain ⟨g0, gI, ⟨p, q, gO⟩, st1, st2⟩ := st
    have hg' : i < min x.cps.size y.cps.size := hg
    have hh : X.A.in1.handled = none := I.ok.hd hc
    refine wpAny_pyNext_zipD2_item D (Draws.text hh i1 x t) (Draws.text hh i2 y u) g0 gI gO st1 st2 (by omega) (by omega) fun v1 v2 h' tk hv1 hv2 z' TO' st1' st2' hT hsz hk => ?_
    obtain ⟨c, a1, hc1, rfl⟩ := hv1
    obtain ⟨d, a2, hd1, rfl⟩ := hv2
    have hzl : z < s.heap.objs.size := Heap.lt_size g0
    refine ⟨_, rfl, wpAny_letOwnedTupleGo_zip (s := { s with heap := h', toks := tk }) z' fun h2 z2 sb => ?_⟩
    have hT2 : IsTupOf2 h2 s.heap.objs.size (.str ⟨#[c]⟩ a1) (.str ⟨#[d]⟩ a2) := (sb.2 _ (Nat.ne_of_gt hzl)).trans hT
    have new : ObjOk X.prog X.w (upd H s.heap.objs.size (.tup [.str ⟨#[c]⟩, .str ⟨#[d]⟩])) h2 s.heap.objs.size (.tup [.str ⟨#[c]⟩, .str ⟨#[d]⟩]) :=
      ⟨by show 2 ≤ sizeLine; decide, [_, _], .cons ⟨_, rfl⟩ (.cons ⟨_, rfl⟩ .nil), ⟨_, hT2, rfl, _, rfl⟩⟩
    have I1 : Inv X pins σ (upd H s.heap.objs.size (.tup [.str ⟨#[c]⟩, .str ⟨#[d]⟩])) { s with heap := h2, toks := tk } :=
      I.turnedNew (t' := tk) (ch := [z, TI, TO, i1, i2]) (fun b o hb e => by
        simp only [List.mem_cons, List.not_mem_nil, or_false, not_or] at hb
        exact (sb.2 b hb.1).trans (hk b o hb.1 hb.2.2.1 hb.2.2.2.1 hb.2.2.2.2 e)) hf (Nat.le_refl _) new
    refine ⟨.ref s.heap.objs.size, _, I1, rfl, ⟨_, c, d, rfl, I.hok.fresh (Nat.le_refl _), rfl, hc1, hd1⟩, ⟨z2, ?_, ⟨.str ⟨#[c]⟩ a1, .str ⟨#[d]⟩ a2, ?_⟩, ?_, ?_⟩, fun b hb => ?_⟩
    · exact (sb.2 _ D.TIz).trans (hk _ _ D.TIz D.TITO D.TIi1 D.TIi2 gI)
    · exact (sb.2 _ D.TOz).trans TO'
    · obtain ⟨o, e, r⟩ := st1'
      exact ⟨o, (sb.2 _ (Ne.symm D.zi1)).trans e, r⟩
    · obtain ⟨o, e, r⟩ := st2'
      exact ⟨o, (sb.2 _ (Ne.symm D.zi2)).trans e, r⟩
    · have hlt : b < s.heap.objs.size := by
        simp only [List.mem_cons, List.not_mem_nil, or_false] at hb
        rcases hb with rfl | rfl | rfl | rfl | rfl
        · exact hzl
        · exact Heap.lt_size gI
        · exact Heap.lt_size gO
        · obtain ⟨_, e, _⟩ := st1; exact Heap.lt_size e
        · obtain ⟨_, e, _⟩ := st2; exact Heap.lt_size e
      rw [upd_ne (Nat.ne_of_lt hlt)]
      exact (hf b hb).1
  done := by
    intro X hP hw hK hc i pins s σ H E I hf st hg
    subst hP hw hK
    obtain ⟨g0, gI, ⟨p, q, gO⟩, st1, st2⟩ := st
    have hg' : i = min x.cps.size y.cps.size := hg
    have hh : X.A.in1.handled = none := I.ok.hd hc
    exact wpAny_pyNext_zipD2_end D (Draws.text hh i1 x t) (Draws.text hh i2 y u) g0 gI gO st1 st2 (by omega) (by omega) (by omega) fun h' tk hk => ⟨rfl, I.turnedL (t' := tk) (ch := [z, TI, TO, i1, i2]) (fun b o hb e => by
      simp only [List.mem_cons, List.not_mem_nil, or_false, not_or] at hb
      exact hk b o hb.1 hb.2.2.1 hb.2.2.2.1 hb.2.2.2.2 e) hf⟩
  self := fun A i s Q E st h => wpAny_pyIter_zip st.1 h
def iZipS (ta : TA) : TI := fun σ H R => ta σ H fun vs H1 => ∃ x y, vs = [.str x, .str y] ∧ R (Itzs x y) H1
theorem pi_zipS {X : Cx} {e e2 : Expr} {ta : TA} {p pos ps : Pos} {es : List Expr} {n : Nat} (hg : Gl X "zip") (hm : X.mg "zip" = none) (ha : PA X [e, e2] ta)
    (hs : starEach [e, e2] X.env = (false, eval e X.env) :: starEach [e2] X.env := by rfl) (hpl : (backTo pos (starEach [e2] X.env)).any (·.1) = false := by rfl) :
    PI X (.Tuple es n ps) (.Call (.Name "zip" p) [e, e2] [] pos) (iZipS ta) := by
  refine ⟨fun pins s σ H R I h => ?_⟩
  refine Call_ (ld_blt I hg hm PyProof.Rows.boot_zip (PyProof.Rows.callWith_type1 (thn (ha.run pos pins s σ H _ I h) fun us s1 ⟨vs, H1, I1, r1, q1⟩ => ?_) hs hpl))
  obtain ⟨x, y, ex, q⟩ := q1
  subst ex
  obtain ⟨v1, v2, rfl, ⟨t1, rfl⟩, ⟨t2, rfl⟩⟩ := vals2 r1
  refine zip_begins2 (begins_text x t1) (begins_text y t2) trivial trivial fun h' g0 gI gO g1 g2 hsz hk => wpAny_pyIter_zip g0 ?_
  have I2 : Inv X pins σ H1 { s1 with heap := h' } := I1.kept (t' := s1.toks) hk
  refine ⟨s1.heap.objs.size + 4, [s1.heap.objs.size + 4, s1.heap.objs.size + 2, s1.heap.objs.size + 3, s1.heap.objs.size, s1.heap.objs.size + 1], _, _, H1, rfl, I2,
    turn_zips (t := t1) (u := t2) (zip_sep2 (fp1 := []) (fp2 := []) (fun _ h => nomatch h) fun _ h => nomatch h), ⟨g0, gI, ⟨_, _, gO⟩, ⟨_, g1, rfl, rfl⟩, ⟨_, g2, rfl, rfl⟩⟩, fun b hb => ?_, q⟩
  have hle : s1.heap.objs.size ≤ b := by
    simp only [List.mem_cons, List.not_mem_nil, or_false] at hb
    rcases hb with rfl | rfl | rfl | rfl | rfl
    · exact Nat.le_add_right _ _
    · exact Nat.le_add_right _ _
    · exact Nat.le_add_right _ _
    · exact Nat.le_refl _
    · exact Nat.le_add_right _ _
  exact I1.fpOk hle (I1.hok.fresh hle)
theorem walk_zips {x y : Str} : Walk (Itzs x y) (min x.cps.size y.cps.size) (fun _ => True) (pairHere x y) :=
  ⟨fun _ _ hi _ => hi, fun _ _ => rfl, fun _ _ _ _ _ _ q => q⟩
end SH
set_option Elab.async false
set_option linter.all false
set_option maxRecDepth 100000
set_option maxHeartbeats 4000000
/-! slices of texts as lists of signs; letters joined -/
namespace SH
open PySem PySem.Spec PyProof.Rows L2
theorem tlen (z : Str) : (TL.tl z).length = z.length := (TL.len_tl z).symm
theorem cuts_take (z : Str) (k : Nat) : TL.tl (cutS z none (some (k : Int))) = (TL.tl z).take k := by
  show (z.cps.toList.drop (HT.sIx z.length 0 none)).take (HT.sIx z.length z.length (some (k : Int)) - HT.sIx z.length 0 none) = _
  rw [HT.sIx_none, HT.sIx_nat, List.drop_zero, Nat.sub_zero]
  have hz : z.cps.toList.length = z.length := rfl
  rcases Nat.le_total k z.length with h | h
  · rw [Nat.min_eq_left h]
  · rw [Nat.min_eq_right h, List.take_of_length_le (by rw [hz]; exact Nat.le_refl _)]
    exact (List.take_of_length_le (by rw [tlen]; exact h)).symm
theorem cuts_drop (z : Str) (k : Nat) : TL.tl (cutS z (some (k : Int)) none) = (TL.tl z).drop k := by
  show (z.cps.toList.drop (HT.sIx z.length 0 (some (k : Int)))).take (HT.sIx z.length z.length none - HT.sIx z.length 0 (some (k : Int))) = _
  rw [HT.sIx_none, HT.sIx_nat]
  have hz : z.cps.toList.length = z.length := rfl
  rcases Nat.le_total k z.length with h | h
  · rw [Nat.min_eq_left h, List.take_of_length_le (by rw [List.length_drop, hz]; exact Nat.le_refl _)]
  · rw [Nat.min_eq_right h, List.drop_of_length_le (by rw [hz]; exact Nat.le_refl _), List.take_nil]
    exact (List.drop_of_length_le (by rw [tlen]; exact h)).symm
theorem joinL_ones : ∀ cs : List Nat, TL.joinL [] (cs.map fun c => [c]) = cs
  | [] => rfl
  | [c] => rfl
  | c :: d :: r => by
    show [c] ++ ([] ++ TL.joinL [] ((d :: r).map fun c => [c])) = _
    rw [joinL_ones (d :: r)]
    rfl
theorem tl_join_ones (cs : List Nat) : TL.tl (Txt.join "" (cs.map fun c => (⟨#[c]⟩ : Str))) = cs := by
  have e : (Txt.join "" (cs.map fun c => (⟨#[c]⟩ : Str))).cps.toList = TL.joinL [] (cs.map fun c => [c]) := by
    rw [TL.join_eq]
    refine (TL.tl_join "" _).trans ?_
    rw [List.map_map]
    rfl
  rw [joinL_ones] at e
  exact e
end SH
set_option Elab.async false
set_option linter.all false
set_option maxRecDepth 100000
set_option maxHeartbeats 4000000
namespace SH
open PySem PySem.Spec PyProof.Rows L2
def topS (i : Nat) : Stmt := PySem.Challenge.pw_suffixhouse_k17_orders_with_and_without.main.body.getD i (.Pass ⟨0, 0, 0, 0⟩)
abbrev s_with_text : Stmt := topS 12
abbrev s_without_text : Stmt := topS 13
abbrev s__is_text : Stmt := topS 14
abbrev s__is_letter : Stmt := topS 15
abbrev s__has_number : Stmt := topS 16
abbrev s_order_with : Stmt := topS 18
abbrev s_order_without : Stmt := topS 19
abbrev s__law_draws : Stmt := topS 21
abbrev s__law_mix : Stmt := topS 25
abbrev s__law_text : Stmt := topS 26
abbrev s__law_house : Stmt := topS 27
abbrev s__law_ends : Stmt := topS 28
abbrev s__law_order : Stmt := topS 29
abbrev s__law_with : Stmt := topS 30
abbrev s__law_without : Stmt := topS 31
abbrev s__law_due : Stmt := topS 32
abbrev s_law : Stmt := topS 33
structure Ea where
  fI : Addr
  c_HouseError : Addr
  c_BadText : Addr
  c_TooMany : Addr
  c_TakenNumber : Addr
  c_NoText : Addr
  c_OutOfRange : Addr
abbrev s_init : Stmt := inClass (topS 1) 0
structure Txt (K : PySem.W.Frag) (mg : Str → Option Value) (ea : Ea) : Prop where
  b_abs : mg "abs" = none
  b_all : mg "all" = none
  b_bool : mg "bool" = none
  b_dict : mg "dict" = none
  b_int : mg "int" = none
  b_isinstance : mg "isinstance" = none
  b_len : mg "len" = none
  b_list : mg "list" = none
  b_min : mg "min" = none
  b_ord : mg "ord" = none
  b_range : mg "range" = none
  b_sorted : mg "sorted" = none
  m__GREATEST_NUMBER : ∃ t, mg "_GREATEST_NUMBER" = some (.int 99 t)
  m__MOST_LETTERS : ∃ t, mg "_MOST_LETTERS" = some (.int 40 t)
  m__MOST_TEXTS : ∃ t, mg "_MOST_TEXTS" = some (.int 8 t)
  m__PERCENT_SIGN : ∃ t, mg "_PERCENT_SIGN" = some (.int 37 t)
  d_with_text : Dd K mg "with_text" s_with_text ["house", "number", "text"]
  d_without_text : Dd K mg "without_text" s_without_text ["house", "number"]
  d__is_text : Dd K mg "_is_text" s__is_text ["text"]
  d__is_letter : Dd K mg "_is_letter" s__is_letter ["character"]
  d__has_number : Dd K mg "_has_number" s__has_number ["house", "number"]
  d_order_with : Dd K mg "order_with" s_order_with ["house", "order", "number", "text"]
  d_order_without : Dd K mg "order_without" s_order_without ["house", "order", "number"]
  d__law_draws : Dd K mg "_law_draws" s__law_draws ["script"]
  d__law_mix : Dd K mg "_law_mix" s__law_mix ["draws", "k", "many"]
  d__law_text : Dd K mg "_law_text" s__law_text ["draws", "k", "most"]
  d__law_house : Dd K mg "_law_house" s__law_house ["draws", "k", "most"]
  d__law_ends : Dd K mg "_law_ends" s__law_ends ["house"]
  d__law_order : Dd K mg "_law_order" s__law_order ["house"]
  d__law_with : Dd K mg "_law_with" s__law_with ["house", "order", "number", "text"]
  d__law_without : Dd K mg "_law_without" s__law_without ["house", "order", "number"]
  d__law_due : Dd K mg "_law_due" s__law_due ["house", "number", "text"]
  d_law : Dd K mg "law" s_law ["script"]
  init : DdI K "HouseError.__init__" s_init ea.fI
  x_HouseError : ErrC K mg "HouseError" ea.c_HouseError ea.fI
  x_BadText : ErrC K mg "BadText" ea.c_BadText ea.fI
  x_TooMany : ErrC K mg "TooMany" ea.c_TooMany ea.fI
  x_TakenNumber : ErrC K mg "TakenNumber" ea.c_TakenNumber ea.fI
  x_NoText : ErrC K mg "NoText" ea.c_NoText ea.fI
  x_OutOfRange : ErrC K mg "OutOfRange" ea.c_OutOfRange ea.fI
  e_OutOfRange_OutOfRange : PySem.W.exmOne K (.ref ea.c_OutOfRange) (.ref ea.c_OutOfRange) = some true
  e_TakenNumber_OutOfRange : PySem.W.exmOne K (.ref ea.c_TakenNumber) (.ref ea.c_OutOfRange) = some false
  e_TakenNumber_TakenNumber : PySem.W.exmOne K (.ref ea.c_TakenNumber) (.ref ea.c_TakenNumber) = some true
  e_BadText_OutOfRange : PySem.W.exmOne K (.ref ea.c_BadText) (.ref ea.c_OutOfRange) = some false
  e_BadText_TakenNumber : PySem.W.exmOne K (.ref ea.c_BadText) (.ref ea.c_TakenNumber) = some false
  e_BadText_BadText : PySem.W.exmOne K (.ref ea.c_BadText) (.ref ea.c_BadText) = some true
  e_TooMany_OutOfRange : PySem.W.exmOne K (.ref ea.c_TooMany) (.ref ea.c_OutOfRange) = some false
  e_TooMany_TakenNumber : PySem.W.exmOne K (.ref ea.c_TooMany) (.ref ea.c_TakenNumber) = some false
  e_TooMany_BadText : PySem.W.exmOne K (.ref ea.c_TooMany) (.ref ea.c_BadText) = some false
  e_TooMany_TooMany : PySem.W.exmOne K (.ref ea.c_TooMany) (.ref ea.c_TooMany) = some true
  e_NoText_OutOfRange : PySem.W.exmOne K (.ref ea.c_NoText) (.ref ea.c_OutOfRange) = some false
  e_NoText_TakenNumber : PySem.W.exmOne K (.ref ea.c_NoText) (.ref ea.c_TakenNumber) = some false
  e_NoText_BadText : PySem.W.exmOne K (.ref ea.c_NoText) (.ref ea.c_BadText) = some false
  e_NoText_TooMany : PySem.W.exmOne K (.ref ea.c_NoText) (.ref ea.c_TooMany) = some false
  e_NoText_NoText : PySem.W.exmOne K (.ref ea.c_NoText) (.ref ea.c_NoText) = some true
section
variable {P : Program} {w : World} {K : PySem.W.Frag} {mg : Str → Option Value} {base : Heap} {ea : Ea}
theorem sc__law_mix : FnScope ["draws", "k", "many", "value"] ["draws", "k", "many"] (defScope s__law_mix) := ⟨rfl, rfl, rfl, by decide +kernel, rfl, by decide +kernel, by decide +kernel⟩
theorem ok__law_mix (T : Txt K mg ea) : Cl P w K mg base 1 "_law_mix" (spDraw K) := by
  have nd := sc__law_mix.nd
  refine cl_of T.d__law_mix sc__law_mix (fun vs H Q E h => ?_) (fun f cdv A outer s H vs Q E hr h => ?_)
  · obtain ⟨a, ns, k, many, rfl, _⟩ := h
    rfl
  · obtain ⟨a, ns, k, many, rfl, hS, hD, h0, h1, hm, q⟩ := h
    refine ⟨_, (pss_cons (ps_set (i := 3) nd rfl (.inl rfl) pe_int)
      (C8.pss_cut (ps_if (pt_cmpR op_gt (pe_callB call_len_seq (by rfl) T.b_len PySem.boot_len (pa_cons (pv 0) pa_nil)) pe_int (nomark _))
        (pss_one (ps_set (i := 3) nd rfl (.inl rfl) (pe_ix (ixl (K := K)) (pv 0) (pe_op op_mod (pe_callTy call_int1 (by rfl) T.b_int (by decide +kernel) (pa_cons (pv 1) pa_nil)) (pe_callB call_len_seq (by rfl) T.b_len PySem.boot_len (pa_cons (pv 0) pa_nil))) (fun _ _ => rfl))))
        pss_nil)
      (pss_cons (ps_if (pt_cmpR op_lt (pv 1) (pe_callB call_len_seq (by rfl) T.b_len PySem.boot_len (pa_cons (pv 0) pa_nil)) (nomark _))
        (pss_one (ps_ret (pe_op op_mod (pe_callTy call_int1 (by rfl) T.b_int (by decide +kernel) (pa_cons (pv 3) pa_nil)) (pv 2))))
        pss_nil)
      (pss_one (ps_ret (pe_op op_mod (pe_callTy call_int1 (by rfl) T.b_int (by decide +kernel) (pa_cons (pe_op op_fdiv (pe_callTy call_int1 (by rfl) T.b_int (by decide +kernel) (pa_cons (pe_op op_add (pe_op op_mul (pv 3) pe_int) (pe_op op_mul (pv 1) pe_int)) pa_nil)) pe_int) pa_nil)) (pv 2))))))), ?_⟩
    have hl : (ns.map V.int).length = ns.length := List.length_map ..
    -- the value is a small number behind the if
    refine ⟨fun σ H' => H' = H ∧ ∃ z : Int, 0 ≤ z ∧ z < 65536 ∧ σ = [some (.ref a), some (.int k), some (.int many), some (.int z)], ?_, ?_⟩
    · refine ⟨_, rfl, _, _, rfl, .inl hS, _, _, rfl, rfl, _, rfl, ite2 (fun e => ?_) (fun e => ?_)⟩
      · have e' := of_decide_eq_true e
        rw [hl] at e'
        obtain ⟨z, hz, hm2⟩ := at_ints (ns := ns) (i := k % (ns.length : Int)) (Int.emod_nonneg _ (by omega)) (Int.emod_lt_of_pos _ (by omega))
        refine ⟨_, rfl, _, rfl, .inl ⟨_, rfl, _, rfl, _, _, rfl, .inl hS, _, _, rfl, rfl, (by show (0 : Int) < ((ns.map V.int).length : Int); omega), ?_⟩⟩
        refine ⟨_, _, _, _, rfl, rfl, hS, (by rw [hl]; exact hz), ?_⟩
        exact ⟨rfl, z, (hD.2 z hm2).1, (hD.2 z hm2).2, rfl⟩
      · exact ⟨rfl, 0, by omega, by omega, rfl⟩
    · rintro σ' H' ⟨rfl, z, z0, z1, rfl⟩
      refine ⟨_, rfl, _, rfl, _, _, rfl, .inl hS, _, _, rfl, rfl, _, rfl, ite2 (fun e => ?_) (fun e => ?_)⟩
      · refine ⟨_, rfl, .inl ⟨_, rfl, _, rfl, _, _, rfl, rfl, hm, ?_⟩⟩
        exact q _ (Int.emod_nonneg _ (by omega)) (Int.emod_lt_of_pos _ hm)
      · refine ⟨_, rfl, _, _, rfl, rfl, .inr (by decide), _, rfl, _, _, rfl, rfl, .inr (by decide), _, _, rfl, rfl, .inl ⟨_, rfl, _, _, rfl, rfl, (by constructor <;> decide), .inl ⟨_, rfl, _, rfl, _, _, rfl, rfl, hm, ?_⟩⟩⟩
        exact q _ (Int.emod_nonneg _ (by omega)) (Int.emod_lt_of_pos _ hm)
end

section
variable {P : Program} {w : World} {K : PySem.W.Frag} {mg : Str → Option Value} {base : Heap} {ea : Ea}
/-- the numbers drawn from the script: a new list of small numbers -/
def spDraws (K : PySem.W.Frag) : Sp := fun vs H Q _ => ∃ (a : Addr) (ns : List Int), vs = [.ref a] ∧ SqL K H a (ns.map V.int) ∧ ns.length ≤ 63 ∧
  ∀ (p : Addr) (ds : List Int) (H' : Hp), Same H H' → H p = none → H' p = some (.lst (ds.map V.int)) → Dr ds → Q (.ref p) H'
/-- the list at p so far -/
structure DrAt (H H' : Hp) (p : Addr) (n : Nat) (ds : List Int) : Prop where
  sm : Same H H'
  at_ : H' p = some (.lst (ds.map V.int))
  len : ds.length ≤ n
  all : ∀ z ∈ ds, 0 ≤ z ∧ z < 65536
theorem DrAt.more {H H' : Hp} {p : Addr} {n : Nat} {ds : List Int} (h : DrAt H H' p n ds) (hp : H p = none) {z : Int} (z0 : 0 ≤ z) (z1 : z < 65536) : DrAt H (upd H' p (.lst (ds.map V.int ++ [.int z]))) p (n + 1) (ds ++ [z]) :=
  ⟨same_mut h.sm hp, by rw [upd_same, List.map_append]; rfl, by rw [List.length_append]; have := h.len; simp; omega, fun y hy => by
    rcases List.mem_append.mp hy with m | m
    · exact h.all y m
    · rw [List.mem_singleton.mp m]; exact ⟨z0, z1⟩⟩
theorem DrAt.mono {H H' : Hp} {p : Addr} {n m : Nat} {ds : List Int} (h : DrAt H H' p n ds) (l : n ≤ m) : DrAt H H' p m ds := ⟨h.sm, h.at_, Nat.le_trans h.len l, h.all⟩
theorem sc__law_draws : FnScope ["script", "draws", "k", "rest", "turn", "mixed"] ["script"] (defScope s__law_draws) := ⟨rfl, rfl, rfl, by decide +kernel, rfl, by decide +kernel, by decide +kernel⟩
theorem ok__law_draws (T : Txt K mg ea) : Cl P w K mg base 1 "_law_draws" (spDraws K) := by
  have nd := sc__law_draws.nd
  refine cl_of T.d__law_draws sc__law_draws (fun vs H Q E h => ?_) (fun f cdv A outer s H vs Q E hr h => ?_)
  · obtain ⟨a, ns, rfl, _⟩ := h
    rfl
  · obtain ⟨a, ns, rfl, hS, hl, q⟩ := h
    refine ⟨_, (pss_cons (ps_set (i := 1) nd rfl (.inl rfl) (pe_lst pa_nil))
      (pss_cons (ps_for PassesOwn.never rfl (pi_range1 rfl T.b_range (pa_cons (pe_callB (call_min2 rfl) (by rfl) T.b_min (by decide +kernel) (pa_cons pe_int (pa_cons (pe_callB call_len_seq (by rfl) T.b_len PySem.boot_len (pa_cons (pv 0) pa_nil)) pa_nil))) pa_nil)) (pg_name (i := 2) nd rfl (.inl rfl))
        (pss_cons (ps_set (i := 3) nd rfl (.inl rfl) (pe_callB call_abs (by rfl) T.b_abs (by decide +kernel) (pa_cons (pe_ix (ixl (K := K)) (pv 0) (pv 2) (fun _ _ => rfl)) pa_nil)))
          (pss_one (ps_if (pt_cmpR op_ge (pv 3) (pe_op op_pow pe_int pe_int) (nomark _))
            (pss_one (ps_for PassesOwn.never rfl (pi_range1 rfl T.b_range (pa_cons pe_int pa_nil)) (pg_name (i := 4) nd rfl (.inl rfl))
                (pss_one (ps_if (pt_cmpR op_gt (pv 3) pe_int (nomark _))
                    (pss_cons (ps_expr (pe_bm PySem.F.plainAttrs_list PySem.F.slot_list_append PySem.F.type_list_append mt_append (pv 1) (pa_cons (pe_op op_mod (pe_callTy call_int1 (by rfl) T.b_int (by decide +kernel) (pa_cons (pv 3) pa_nil)) pe_int) pa_nil)))
                      (pss_one (ps_set (i := 3) nd rfl (.inl rfl) (pe_op op_fdiv (pv 3) pe_int))))
                    pss_nil))))
            (pss_cons (ps_set (i := 5) nd rfl (.inl rfl) (pe_op op_mod (pe_callTy call_int1 (by rfl) T.b_int (by decide +kernel) (pa_cons (pe_op op_add (pe_op op_mul (pv 3) pe_int) (pe_op op_mul (pe_op op_add (pv 2) pe_int) pe_int)) pa_nil)) pe_int))
              (pss_cons (ps_set (i := 5) nd rfl (.inl rfl) (pe_op op_mod (pe_callTy call_int1 (by rfl) T.b_int (by decide +kernel) (pa_cons (pe_op op_add (pe_op op_add (pe_op op_mul (pv 5) pe_int) (pe_op op_mul pe_int (pv 2))) pe_int) pa_nil)) pe_int))
              (pss_cons (ps_expr (pe_bm PySem.F.plainAttrs_list PySem.F.slot_list_append PySem.F.type_list_append mt_append (pv 1) (pa_cons (pe_op op_mod (pe_callTy call_int1 (by rfl) T.b_int (by decide +kernel) (pa_cons (pv 5) pa_nil)) pe_int) pa_nil)))
              (pss_one (ps_expr (pe_bm PySem.F.plainAttrs_list PySem.F.slot_list_append PySem.F.type_list_append mt_append (pv 1) (pa_cons (pe_op op_mod (pe_callTy call_int1 (by rfl) T.b_int (by decide +kernel) (pa_cons (pe_op op_fdiv (pv 5) pe_int) pa_nil)) pe_int) pa_nil)))))))))))
      (pss_one (ps_ret (pv 1))))), ?_⟩
    refine ⟨Nat.zero_le _, fun p hp => ?_⟩
    have sm0 : Same H (upd H p (.lst [])) := same_new hp
    have hlen : (ns.map V.int).length = ns.length := List.length_map ..
    refine ⟨_, rfl, _, _, rfl, .inl (sm0.seq hS), _, _, rfl, ?_⟩
    have hm : (if ((ns.map V.int).length : Int) < 63 then ((ns.map V.int).length : Int) else 63) ≤ ns.length ∧ 0 ≤ (if ((ns.map V.int).length : Int) < 63 then ((ns.map V.int).length : Int) else 63) ∧ (if ((ns.map V.int).length : Int) < 63 then ((ns.map V.int).length : Int) else 63) ≤ 63 := by
      rw [hlen]; split <;> omega
    refine ⟨_, rfl, by omega, by omega, ?_⟩
    generalize (if ((ns.map V.int).length : Int) < 63 then ((ns.map V.int).length : Int) else 63) = m at hm ⊢
    obtain ⟨m1, m0, m2⟩ := hm
    refine for_range (lo := 0) (n := m.toNat) (fun i σ H' => ∃ (ds : List Int) (y2 y3 y4 y5 : Option V), σ = [some (.ref a), some (.ref p), y2, y3, y4, y5] ∧ DrAt H H' p (60 * i) ds)
      ⟨[], none, none, none, none, rfl, sm0, upd_same, Nat.zero_le _, fun z hz => by cases hz⟩ (fun i σ H' hi hW => ?_) (fun σ H' hW => ?_)
    · obtain ⟨ds, y2, y3, y4, y5, rfl, hA⟩ := hW
      obtain ⟨z, hz, _⟩ := at_ints (ns := ns) (i := 0 + (i : Int)) (by omega) (by omega)
      refine ⟨_, rfl, _, rfl, _, _, _, _, rfl, rfl, hA.sm.seq hS, hz, _, rfl, ?_⟩
      generalize (if z < 0 then -z else z) = r
      refine ⟨_, rfl, _, _, rfl, rfl, ⟨by decide, by decide, by decide⟩, _, _, rfl, rfl, _, rfl, ite2 (fun e => ?_) (fun e => ?_)⟩
      · -- a great number: its digits
        refine ⟨60, rfl, by decide, by decide, ?_⟩
        refine for_range (lo := 0) (n := 60) (fun j σ H' => ∃ (ds : List Int) (r' : Int) (y4 : Option V), σ = [some (.ref a), some (.ref p), some (.int (0 + (i : Int))), some (.int r'), y4, y5] ∧ DrAt H H' p (60 * i + j) ds)
          ⟨ds, r, y4, rfl, hA⟩ (fun j σ H2 hj hW => ?_) (fun σ H2 hW => ?_)
        · obtain ⟨ds2, r2, y42, rfl, hA2⟩ := hW
          refine ⟨_, rfl, _, _, rfl, rfl, _, rfl, ite2 (fun e => ?_) (fun e => ?_)⟩
          · refine ⟨_, rfl, .inl ⟨rfl, _, SqL.of hA2.at_⟩, _, rfl, .inl ⟨_, rfl, _, _, rfl, rfl, (by show (0 : Int) < 65536; decide), ?_⟩⟩
            refine ⟨p, _, _, rfl, rfl, hA2.at_, ?_, ?_⟩
            · rw [List.length_map]; exact Nat.lt_of_le_of_lt (Nat.le_trans hA2.len (by omega : _ ≤ 4000)) (by decide)
            · refine ⟨_, rfl, _, _, rfl, rfl, (by constructor <;> decide), ?_⟩
              exact ⟨_, _, _, rfl, hA2.more hp (Int.emod_nonneg _ (by decide)) (Int.emod_lt_of_pos _ (by decide))⟩
          · exact ⟨ds2, r2, _, rfl, hA2.mono (by omega)⟩
        · obtain ⟨ds2, r2, y42, rfl, hA2⟩ := hW
          exact ⟨ds2, _, _, _, _, rfl, hA2.mono (by omega)⟩
      · -- a lesser one: two numbers mixed
        refine ⟨_, rfl, _, _, rfl, rfl, .inr (by decide), _, rfl, _, _, rfl, rfl, _, _, rfl, rfl, .inr (by decide), _, _, rfl, rfl, .inl ⟨_, rfl, _, _, rfl, rfl, (by show (0 : Int) < 2147483647; decide), ?_⟩⟩
        refine ⟨_, rfl, _, _, rfl, rfl, .inr (by decide), _, rfl, _, _, rfl, rfl, .inl (by decide), _, _, rfl, rfl, _, _, rfl, rfl, .inl ⟨_, rfl, _, _, rfl, rfl, (by show (0 : Int) < 2147483629; decide), ?_⟩⟩
        have b1 : (ds.map V.int).length < sizeLine := by rw [List.length_map]; exact Nat.lt_of_le_of_lt (Nat.le_trans hA.len (by omega : _ ≤ 4000)) (by decide)
        refine ⟨_, rfl, .inl ⟨rfl, _, SqL.of hA.at_⟩, _, rfl, .inl ⟨_, rfl, _, _, rfl, rfl, (by show (0 : Int) < 65536; decide), p, _, _, rfl, rfl, hA.at_, b1, ?_⟩⟩
        have hB := hA.more hp (z := (((r * 48271 + (0 + (i : Int) + 1) * 69621) % 2147483647 * 16807 + 11 * (0 + (i : Int)) + 5) % 2147483629) % 65536) (Int.emod_nonneg _ (by decide)) (Int.emod_lt_of_pos _ (by decide))
        have b2 : ((ds ++ [(((r * 48271 + (0 + (i : Int) + 1) * 69621) % 2147483647 * 16807 + 11 * (0 + (i : Int)) + 5) % 2147483629) % 65536]).map V.int).length < sizeLine := by rw [List.length_map]; exact Nat.lt_of_le_of_lt (Nat.le_trans hB.len (by omega : _ ≤ 4000)) (by decide)
        refine ⟨_, rfl, .inl ⟨rfl, _, SqL.of hB.at_⟩, _, rfl, _, _, rfl, rfl, (by constructor <;> decide), .inl ⟨_, rfl, _, _, rfl, rfl, (by show (0 : Int) < 32768; decide), p, _, _, rfl, rfl, hB.at_, b2, ?_⟩⟩
        exact ⟨_, _, _, _, _, rfl, (hB.more hp (z := (((r * 48271 + (0 + (i : Int) + 1) * 69621) % 2147483647 * 16807 + 11 * (0 + (i : Int)) + 5) % 2147483629) / 65536 % 32768) (Int.emod_nonneg _ (by decide)) (by have := Int.emod_lt_of_pos ((((r * 48271 + (0 + (i : Int) + 1) * 69621) % 2147483647 * 16807 + 11 * (0 + (i : Int)) + 5) % 2147483629) / 65536) (show (0 : Int) < 32768 by decide); omega)).mono (by omega)⟩
    · obtain ⟨ds, y2, y3, y4, y5, rfl, hA⟩ := hW
      exact ⟨_, rfl, q p ds H' hA.sm hp hA.at_ ⟨Nat.le_trans hA.len (by omega), hA.all⟩⟩
end

section
variable {P : Program} {w : World} {K : PySem.W.Frag} {mg : Str → Option Value} {base : Heap} {ea : Ea}
theorem sc_init : FnScope ["self", "at"] ["self", "at"] (defScope s_init) := ⟨rfl, rfl, rfl, by decide +kernel, rfl, by decide +kernel, by decide +kernel⟩
theorem ok_init (T : Txt K mg ea) : InitOk P w K mg base ea.fI := by
  obtain ⟨fd, F, b, t⟩ := T.init.ex
  refine ⟨fd, F.ok sc_init (fun vs H Q E h => ?_) (fun cdv A outer s H vs Q E hr h => ?_), b, t⟩
  · obtain ⟨a, C, n, rfl, _⟩ := h
    rfl
  · obtain ⟨a, C, n, rfl, To, Tn, hs, ha, q⟩ := h
    refine ⟨_, pss_cons (ps_ost (pv 0) (pv 1)) (pss_one (ps_if (pt_cmpR op_gt (pe_bits (pv 1)) pe_int (nomark _)) pss_never pss_nil)), ?_⟩
    refine ⟨_, rfl, _, rfl, a, C, rfl, To, Tn, .inl ⟨ha, fun dx n1 n2 => ?_⟩⟩
    refine ⟨_, rfl, n, rfl, _, _, rfl, rfl, _, rfl, ?_⟩
    rw [small_bits hs]
    exact iteF (q dx n1 n2)
end

end SH
set_option Elab.async false
set_option linter.all false
set_option maxRecDepth 100000
set_option maxHeartbeats 4000000
namespace SH
open PySem PySem.Spec PyProof.Rows L2
section
variable {P : Program} {w : World} {K : PySem.W.Frag} {mg : Str → Option Value} {base : Heap} {ea : Ea}
theorem cut_let {z : Str} (h : IsLet z) (lo hi : Option Int) : IsLet (cutS z lo hi) := List.all_eq_true.mpr fun c hc => List.all_eq_true.mp h c (List.mem_of_mem_drop (List.mem_of_mem_take (show c ∈ (z.cps.toList.drop _).take _ from hc)))
theorem cut_to_len {z : Str} {n : Nat} : (cutS z none (some (n : Int))).length ≤ n := by
  show ((z.cps.toList.drop (HT.sIx z.length 0 none)).take (HT.sIx z.length z.length (some (n : Int)) - HT.sIx z.length 0 none)).toArray.size ≤ n
  rw [HT.sIx_nat, HT.sIx_none, List.size_toArray, List.length_take]
  omega
theorem join_ones : ∀ {ys : List Str}, (∀ y ∈ ys, y.length = 1 ∧ IsLet y) → (ys.map (·.length)).sum = ys.length ∧ ((Txt.join "" ys).length = ys.length ∧ IsLet (Txt.join "" ys)) := by
  intro ys h
  have e : TL.tl (Txt.join "" ys) = (ys.map TL.tl).flatten := by
    rw [TL.join_eq, TL.tl_join]
    have : ∀ l : List (List Nat), TL.joinL (TL.tl "") l = l.flatten := fun l => by
      induction l with
      | nil => rfl
      | cons a r ih =>
        cases r with
        | nil => simp [TL.joinL]
        | cons b r =>
          show a ++ (TL.tl "" ++ TL.joinL (TL.tl "") (b :: r)) = _
          rw [ih]
          rfl
    exact this _
  have s1 : (ys.map (·.length)).sum = ys.length := by
    clear e
    induction ys with
    | nil => rfl
    | cons a r ih =>
      rw [List.map_cons, List.sum_cons, ih fun y m => h y (List.mem_cons_of_mem _ m), (h a (List.mem_cons_self ..)).1, List.length_cons]
      omega
  refine ⟨s1, ?_, ?_⟩
  · have := congrArg List.length e
    rw [List.length_flatten, List.map_map] at this
    have e2 : (List.length ∘ TL.tl : Str → Nat) = fun y => y.length := rfl
    rw [e2, s1] at this
    exact this
  · show (TL.tl (Txt.join "" ys)).all okc = true
    rw [e]
    refine List.all_eq_true.mpr fun c hc => ?_
    obtain ⟨l, hl, hc⟩ := List.mem_flatten.mp hc
    obtain ⟨y, hy, rfl⟩ := List.mem_map.mp hl
    exact List.all_eq_true.mp (h y hy).2 c hc
/-- a text of at most so many letters -/
def spText (K : PySem.W.Frag) : Sp := fun vs H Q _ => ∃ (a : Addr) (ns : List Int) (k : Int) (most : Nat), vs = [.ref a, .int k, .int most] ∧ SqL K H a (ns.map V.int) ∧ Dr ns ∧ 0 ≤ k ∧ k < 50000 ∧ most ≤ 100 ∧
  ∀ (z : Str) (H' : Hp), Same H H' → IsLet z → z.length ≤ most → Q (.str z) H'
theorem sc__law_text : FnScope ["draws", "k", "most", "letters", "size", "text", "j"] ["draws", "k", "most"] (defScope s__law_text) := ⟨rfl, rfl, rfl, by decide +kernel, rfl, by decide +kernel, by decide +kernel⟩
theorem ok__law_text (T : Txt K mg ea) (c__law_mix : Cl P w K mg base 1 "_law_mix" (spDraw K)) : Cl P w K mg base 2 "_law_text" (spText K) := by
  have nd := sc__law_text.nd
  refine cl_of T.d__law_text sc__law_text (fun vs H Q E h => ?_) (fun f cdv A outer s H vs Q E hr h => ?_)
  · obtain ⟨a, ns, k, most, rfl, _⟩ := h
    rfl
  · obtain ⟨a, ns, k, most, rfl, hS, hD, h0, h1, hm, q⟩ := h
    refine ⟨_, (pss_cons (ps_set (i := 3) nd rfl (.inr rfl) (pe_ix (ixl (K := K)) (pe_lst (pa_cons pe_str (pa_cons pe_str (pa_cons pe_str (pa_cons pe_str (pa_cons pe_str pa_nil)))))) (C8.pe_c c__law_mix hr (by decide) (by rfl) (pa_cons (pv 0) (pa_cons (pv 1) (pa_cons pe_int pa_nil)))) (fun _ _ => rfl)))
      (pss_cons (ps_set (i := 4) nd rfl (.inl rfl) (C8.pe_c c__law_mix hr (by decide) (by rfl) (pa_cons (pv 0) (pa_cons (pe_op op_add (pv 1) pe_int) (pa_cons (pe_op op_add (pv 2) pe_int) pa_nil)))))
      (pss_cons (ps_set (i := 5) nd rfl (.inl rfl) (pe_join pe_str (pe_lc (own := [("j", 6)]) (g := (gName 6)) rfl nd (pi_range1 rfl T.b_range (pa_cons (pv 4) pa_nil)) (blkOk_by (own := [("j", 6)]) (N := ["draws", "k", "most", "letters", "size", "text", "j"]) (sc := defScope s__law_text) (by decide +kernel)) (fun _ _ _ _ _ => (pg_name (i := 6) nd rfl (.inl rfl))) (fun _ _ _ _ _ => pts_nil) (fun _ _ _ _ _ => (pe_ix ix_str (pv 3) (C8.pe_c c__law_mix hr (by decide) (by rfl) (pa_cons (pv 0) (pa_cons (pe_op op_add (pe_op op_add (pv 1) pe_int) (pv 6)) (pa_cons (pe_callB call_len_str (by rfl) T.b_len PySem.boot_len (pa_cons (pv 3) pa_nil)) pa_nil)))) (fun _ _ => rfl))))))
      (pss_cons (ps_if (PW.pt (pw_and (pt_cmpR op_eq (C8.pe_c c__law_mix hr (by decide) (by rfl) (pa_cons (pv 0) (pa_cons (pe_op op_add (pv 1) pe_int) (pa_cons pe_int pa_nil)))) pe_int (nomark _)) (pw_and1 (pt_cmpR op_gt (pe_callB call_len_str (by rfl) T.b_len PySem.boot_len (pa_cons (pv 5) pa_nil)) pe_int (nomark _)))))
        (pss_one (ps_set (i := 5) nd rfl (.inl rfl) (pe_slice sl_str (pe_op op_add_str (pe_op op_add_str (pe_op op_add_str (pe_slice sl_str (pv 5) po_none (po_some pe_int)) (pe_slice sl_str (pv 5) po_none (po_some pe_int))) (pe_slice sl_str (pv 5) po_none (po_some pe_int))) (pv 5)) po_none (po_some (pv 2)))))
        pss_nil)
      (pss_one (ps_ret (pv 5))))))), ?_⟩
    refine ⟨(by show 5 ≤ sizeLine; decide), fun l nl => ?_⟩
    have s1 : Same H (upd H l (.lst ([("ab" : Str), "ab", "a", "aB ~", "abc"].map V.str))) := same_new nl
    refine ⟨_, rfl, _, rfl, a, ns, k, 5, rfl, s1.seq hS, hD, by omega, by omega, by omega, fun word w0 w1 => ?_⟩
    obtain ⟨x, hx, hxm⟩ := at_map V.str (xs := [("ab" : Str), "ab", "a", "aB ~", "abc"]) (i := word) w0 w1
    have hx1 : IsLet x ∧ 1 ≤ x.length ∧ x.length ≤ 4 := by
      simp only [List.mem_cons, List.not_mem_nil, or_false] at hxm
      rcases hxm with e | e | e | e | e <;> subst e <;> exact ⟨by decide, by decide, by decide⟩
    refine ⟨l, _, word, .str x, rfl, rfl, .inl (.inl upd_same), hx, ?_⟩
    refine ⟨_, rfl, _, rfl, _, _, rfl, rfl, _, rfl, _, _, rfl, rfl, a, ns, k + 1, (most : Int) + 1, rfl, s1.seq hS, hD, by omega, by omega, by omega, fun r r0 r1 => ?_⟩
    refine ⟨⟨_, rfl⟩, _, rfl, r, rfl, by omega, by omega, fun D nD => ?_⟩
    refine lc_w (walk_range (lo := 0) (n := r.toNat)) nD (by omega) (fun _ _ => trivial) (fun i acc _ => ∃ ys : List Str, acc = ys.map V.str ∧ ys.length = i ∧ ∀ y ∈ ys, y.length = 1 ∧ IsLet y) (fun _ _ => ⟨[], rfl, rfl, fun _ h => nomatch h⟩) (fun _ _ _ _ _ _ _ r => r) (fun i H x H' y => by rw [y.1]; exact Same.refl _) (fun i v acc H1 H2 Qn Qf hi sm y rr at_ kn kf => ?_) (fun acc H1 sm at_ _ rr => ?_)
    · obtain ⟨rfl, rfl⟩ := y
      obtain ⟨ys, rfl, yl, ya⟩ := rr
      have s2 := s1.trans sm
      refine ⟨rfl, _, rfl, _, rfl, _, rfl, _, _, rfl, rfl, _, rfl, _, _, rfl, rfl, _, rfl, x, rfl, Nat.le_trans hx1.2.2 (by decide), a, ns, k + 3 + (0 + (i : Int)), (x.length : Int), rfl, s2.seq hS, hD, by omega, by omega, by omega, fun g g0 g1 => ?_⟩
      refine ixs_let hx1.1 (Nat.le_trans hx1.2.2 (by decide)) g0 (by show g < (x.length : Int); exact g1) fun c hc => ?_
      exact kn _ _ (Same.refl _) ⟨ys ++ [⟨#[c]⟩], by rw [List.map_append]; rfl, by rw [List.length_append, yl]; rfl, fun y hy => by
        rcases List.mem_append.mp hy with m | m
        · exact ya y m
        · rw [List.mem_singleton.mp m]; exact ⟨rfl, let_one hc⟩⟩
    · obtain ⟨ys, rfl, yl, ya⟩ := rr
      obtain ⟨j1, j2, j3⟩ := join_ones ya
      have s2 := s1.trans sm
      refine ⟨"", D, ys, rfl, rfl, .inl (SqL.of at_), ?_, ?_⟩
      · rw [j1]
        show ys.length + ys.length * 0 ≤ 16777216
        omega
      generalize (Txt.join "" ys) = z at j2 j3 ⊢
      refine ⟨_, rfl, _, rfl, _, _, rfl, rfl, a, ns, k + 2, 5, rfl, s2.seq hS, hD, by omega, by omega, by omega, fun g g0 g1 => ?_⟩
      have zl : z.length ≤ most := by omega
      refine ⟨rfl, _, rfl, ite2 (fun e => ?_) (fun e => iteF ?_)⟩
      · refine ⟨_, rfl, z, rfl, Nat.le_trans zl (by have : most ≤ sizeLine := Nat.le_trans hm (by decide); omega), _, _, rfl, rfl, _, rfl, ite2 (fun e2 => ?_) (fun e2 => ?_)⟩
        · have zs : z.length ≤ sizeLine := Nat.le_trans (Nat.le_trans zl hm) (by decide)
          have c2 : (cutS z none (some 2)).length ≤ 2 := cut_to_len (n := 2)
          have cl : IsLet (cutS z none (some 2)) := cut_let j3 none (some 2)
          obtain ⟨u, hu⟩ : ∃ u, u = cutS z none (some 2) := ⟨_, rfl⟩
          rw [← hu] at c2 cl
          have b1 : (u ++ u).length ≤ 4 := by rw [len_app]; omega
          have b2 : (u ++ u ++ u).length ≤ 6 := by rw [len_app]; omega
          have b3 : (u ++ u ++ u ++ z).length ≤ 200 := by rw [len_app]; omega
          refine ⟨_, rfl, 2, rfl, z, rfl, zs, _, rfl, 2, rfl, z, rfl, zs, u, u, congrArg V.str hu.symm, congrArg V.str hu.symm, Nat.le_trans (by omega : u.length + u.length ≤ 4) (by decide), _, rfl, 2, rfl, z, rfl, zs, _, u, rfl, congrArg V.str hu.symm, Nat.le_trans (by omega : (u ++ u).length + u.length ≤ 6) (by decide), _, rfl, _, z, rfl, rfl, Nat.le_trans (by omega : (u ++ u ++ u).length + z.length ≤ 200) (by decide), _, rfl, most, rfl, _, rfl, Nat.le_trans b3 (by decide), ?_⟩
          exact ⟨_, rfl, q _ H1 s2 (cut_let (let_app (let_app (let_app cl cl) cl) j3) none (some most)) cut_to_len⟩
        · exact ⟨_, rfl, q z H1 s2 j3 zl⟩
      · exact ⟨_, rfl, q z H1 s2 j3 zl⟩
end

end SH
set_option Elab.async false
set_option linter.all false
set_option maxRecDepth 100000
set_option maxHeartbeats 4000000
namespace SH
open PySem PySem.Spec PyProof.Rows L2
theorem hs_snoc {m : Nat} {h : List (Int × Str)} (a : IsHs m h) {n : Int} {z : Str} (lt : ∀ q ∈ h, q.1 < n) (n0 : 0 ≤ n) (n1 : n ≤ 99) (hz : IsLet z) (hl : z.length ≤ m) : IsHs m (h ++ [(n, z)]) := by
  refine ⟨?_, fun q hq => ?_, fun q hq => ?_⟩
  · rw [List.map_append, List.pairwise_append]
    refine ⟨a.asc, by simp, fun x hx y hy => ?_⟩
    obtain ⟨q, hq, rfl⟩ := List.mem_map.mp hx
    simp at hy
    subst hy
    exact lt q hq
  · rcases List.mem_append.mp hq with m1 | m1
    · exact a.num q m1
    · rw [List.mem_singleton.mp m1]; exact ⟨n0, n1⟩
  · rcases List.mem_append.mp hq with m1 | m1
    · exact a.txt q m1
    · rw [List.mem_singleton.mp m1]; exact ⟨hz, hl⟩

section
variable {P : Program} {w : World} {K : PySem.W.Frag} {mg : Str → Option Value} {base : Heap} {ea : Ea}
/-- a house drawn -/
def spHouse (K : PySem.W.Frag) : Sp := fun vs H Q _ => ∃ (a : Addr) (ns : List Int) (k : Int) (most : Nat), vs = [.ref a, .int k, .int most] ∧ SqL K H a (ns.map V.int) ∧ Dr ns ∧ 0 ≤ k ∧ k < 10000 ∧ most ≤ 40 ∧
  ∀ (p : Addr) (L : PL) (H' : Hp), Same H H' → H p = none → H' p = some (.lst (refs L)) → PairsAt K H' L → L.length ≤ 8 → IsHs most (L.map (·.2)) → Q (.ref p) H'
/-- the house so far -/
structure HsSo (K : PySem.W.Frag) (H H' : Hp) (p : Addr) (i most : Nat) (num : Int) (L : PL) : Prop where
  sm : Same H H'
  at_ : H' p = some (.lst (refs L))
  ps : PairsAt K H' L
  len : L.length = i
  hs : IsHs most (L.map (·.2))
  le : ∀ q ∈ L, q.2.1 ≤ num
  n0 : 0 ≤ num
  n1 : num ≤ 12 * (i : Int)
theorem HsSo.same {H H' H2 : Hp} {p : Addr} {i most : Nat} {num : Int} {L : PL} (h : HsSo K H H' p i most num L) (e : Same H' H2) : HsSo K H H2 p i most num L :=
  ⟨h.sm.trans e, e _ _ h.at_, h.ps.same e, h.len, h.hs, h.le, h.n0, h.n1⟩
theorem pairs_put {H : Hp} {p : Addr} {L : PL} {l : List V} {o : HO} (h : H p = some (.lst l)) (a : PairsAt K H L) : PairsAt K (upd H p o) L := fun q hq => but_tup (l := l) h but_upd (a q hq)
theorem sc__law_house : FnScope ["draws", "k", "most", "house", "number", "j", "text"] ["draws", "k", "most"] (defScope s__law_house) := ⟨rfl, rfl, rfl, by decide +kernel, rfl, by decide +kernel, by decide +kernel⟩
theorem ok__law_house (T : Txt K mg ea) (c__law_mix : Cl P w K mg base 1 "_law_mix" (spDraw K)) (c__law_text : Cl P w K mg base 2 "_law_text" (spText K)) : Cl P w K mg base 3 "_law_house" (spHouse K) := by
  have nd := sc__law_house.nd
  refine cl_of T.d__law_house sc__law_house (fun vs H Q E h => ?_) (fun f cdv A outer s H vs Q E hr h => ?_)
  · obtain ⟨a, ns, k, most, rfl, _⟩ := h
    rfl
  · obtain ⟨a, ns, k, most, rfl, hS, hD, h0, h1, ho, q⟩ := h
    refine ⟨_, (pss_cons (ps_set (i := 3) nd rfl (.inl rfl) (pe_lst pa_nil))
      (pss_cons (ps_set (i := 4) nd rfl (.inl rfl) pe_int)
      (pss_cons (ps_for PassesOwn.never rfl (pi_range1 rfl T.b_range (pa_cons (pe_ix (ixl (K := K)) (pe_lst (pa_cons (C8.pe_c c__law_mix hr (by decide) (by rfl) (pa_cons (pv 0) (pa_cons (pv 1) (pa_cons pe_int pa_nil)))) (pa_cons (C8.pe_c c__law_mix hr (by decide) (by rfl) (pa_cons (pv 0) (pa_cons (pv 1) (pa_cons pe_int pa_nil)))) pa_nil))) (pe_callTy call_int1 (by rfl) T.b_int (by decide +kernel) (pa_cons (pe_cmpR op_eq (C8.pe_c c__law_mix hr (by decide) (by rfl) (pa_cons (pv 0) (pa_cons (pe_op op_add (pv 1) pe_int) (pa_cons pe_int pa_nil)))) pe_int (nomark _)) pa_nil)) (fun _ _ => rfl)) pa_nil)) (pg_name (i := 5) nd rfl (.inl rfl))
        (pss_cons (ps_set (i := 4) nd rfl (.inl rfl) (pe_op op_add (pe_op op_add (pv 4) (C8.pe_c c__law_mix hr (by decide) (by rfl) (pa_cons (pv 0) (pa_cons (pe_op op_add (pe_op op_add (pv 1) pe_int) (pv 5)) (pa_cons pe_int pa_nil))))) (pe_callTy call_int1 (by rfl) T.b_int (by decide +kernel) (pa_cons (pe_cmpR op_gt (pv 5) pe_int (nomark _)) pa_nil))))
          (pss_cons (ps_set (i := 6) nd rfl (.inl rfl) (C8.pe_c c__law_text hr (by decide) (by rfl) (pa_cons (pv 0) (pa_cons (pe_op op_add (pe_op op_add (pv 1) pe_int) (pe_op op_mul pe_int (pv 5))) (pa_cons (pv 2) pa_nil)))))
          (C8.pss_cut (ps_if (PW.pt (pw_and (pt_cmpR op_gt (pv 5) pe_int (nomark _)) (pw_and1 (pt_cmpR op_eq (C8.pe_c c__law_mix hr (by decide) (by rfl) (pa_cons (pv 0) (pa_cons (pe_op op_add (pe_op op_add (pv 1) pe_int) (pv 5)) (pa_cons pe_int pa_nil)))) pe_int (nomark _)))))
            (pss_one (ps_set (i := 6) nd rfl (.inl rfl) (pe_ix (ixt (K := K)) (pe_ix (ixl (K := K)) (pv 3) (pe_op op_sub (pv 5) pe_int) (fun _ _ => rfl)) pe_int (fun _ _ => rfl))))
            pss_nil)
          (pss_one (ps_expr (pe_bm PySem.F.plainAttrs_list PySem.F.slot_list_append PySem.F.type_list_append mt_append (pv 3) (pa_cons (pe_tup (pa_cons (pv 4) (pa_cons (pv 6) pa_nil))) pa_nil))))))))
      (pss_one (ps_ret (pv 3)))))), ?_⟩
    refine ⟨Nat.zero_le _, fun p hp => ?_⟩
    have sm0 : Same H (upd H p (.lst [])) := same_new hp
    refine ⟨_, rfl, _, rfl, a, ns, k, 4, rfl, sm0.seq hS, hD, by omega, by omega, by omega, fun r1 u0 u1 => ?_⟩
    refine ⟨_, rfl, _, rfl, a, ns, k, 9, rfl, sm0.seq hS, hD, by omega, by omega, by omega, fun r2 v0 v1 => ?_⟩
    refine ⟨(by show 2 ≤ sizeLine; decide), fun l nl => ?_⟩
    have s1 : Same H (upd (upd H p (.lst [])) l (.lst [.int r1, .int r2])) := sm0.trans (same_new nl)
    have nl0 : H l = none := sm0.free nl
    refine ⟨_, rfl, _, rfl, _, _, rfl, rfl, a, ns, k + 1, 5, rfl, s1.seq hS, hD, by omega, by omega, by omega, fun r3 _ _ => ?_⟩
    obtain ⟨r, r0, r8, hat⟩ : ∃ r : Int, 0 ≤ r ∧ r ≤ 8 ∧ atI [V.int r1, V.int r2] (if decide (V.int r3 = V.int 2) = true then 1 else 0) = some (.int r) := by
      split
      · exact ⟨r2, v0, by omega, rfl⟩
      · exact ⟨r1, u0, by omega, rfl⟩
    refine ⟨rfl, .inr ⟨_, rfl, l, _, _, _, rfl, rfl, SqL.of upd_same, hat, r, rfl, by omega, by omega, ?_⟩⟩
    refine for_range (lo := 0) (n := r.toNat) (fun i σ H' => ∃ (L : PL) (num : Int) (y5 y6 : Option V), σ = [some (.ref a), some (.int k), some (.int most), some (.ref p), some (.int num), y5, y6] ∧ HsSo K H H' p i most num L)
      ⟨[], 0, none, none, rfl, s1, (by rw [upd_ne (ne_of_none upd_same nl)]; exact upd_same), (fun q hq => by cases hq), rfl, ⟨List.Pairwise.nil, (fun q hq => by cases hq), (fun q hq => by cases hq)⟩, (fun q hq => by cases hq), by omega, by omega⟩ (fun i σ H' hi hW => ?_) (fun σ H' hW => ?_)
    · obtain ⟨L, num, y5, y6, rfl, hA⟩ := hW
      have n0 := hA.n0
      have n1 := hA.n1
      refine ⟨_, rfl, _, rfl, _, rfl, _, _, rfl, rfl, _, rfl, _, _, rfl, rfl, a, ns, k + 2 + (0 + (i : Int)), 12, rfl, hA.sm.seq hS, hD, by omega, by omega, by omega, fun g g0 g1 => ?_⟩
      refine ⟨_, _, rfl, rfl, _, rfl, _, _, rfl, rfl, .inr ⟨_, rfl, _, _, rfl, rfl, ?_⟩⟩
      obtain ⟨b, hb, b0, b1, bp⟩ : ∃ b : Int, b = (if decide ((0 + (i : Int)) > 0) = true then 1 else 0) ∧ 0 ≤ b ∧ b ≤ 1 ∧ (0 < i → b = 1) := by
        refine ⟨_, rfl, ?_⟩
        split
        · exact ⟨by omega, by omega, fun _ => rfl⟩
        · rename_i h
          exact ⟨by omega, by omega, fun h2 => absurd (decide_eq_true (by omega)) h⟩
      rw [← hb]
      refine ⟨_, rfl, _, rfl, _, _, rfl, rfl, _, rfl, _, _, rfl, rfl, .inl (by decide), _, _, rfl, rfl, _, rfl, a, ns, k + 12 + 17 * (0 + (i : Int)), most, rfl, hA.sm.seq hS, hD, by omega, by omega, by omega, fun z H2 sm2 hz hl => ?_⟩
      have hA2 := hA.same sm2
      refine ⟨fun σ H3 => H3 = H2 ∧ ∃ x : Str, IsLet x ∧ x.length ≤ most ∧ σ = [some (.ref a), some (.int k), some (.int most), some (.ref p), some (.int (num + g + b)), some (.int (0 + (i : Int))), some (.str x)], ?_, ?_⟩
      · refine ⟨_, rfl, _, _, rfl, rfl, _, rfl, ite2 (fun e => ?_) (fun e => iteF ⟨rfl, z, hz, hl, rfl⟩)⟩
        have e' := of_decide_eq_true e
        refine ⟨_, rfl, _, rfl, _, _, rfl, rfl, _, rfl, _, _, rfl, rfl, a, ns, k + 3 + (0 + (i : Int)), 7, rfl, hA2.sm.seq hS, hD, by omega, by omega, by omega, fun r5 _ _ => ?_⟩
        refine ⟨rfl, _, rfl, ite2 (fun e2 => ?_) (fun e2 => ⟨rfl, z, hz, hl, rfl⟩)⟩
        obtain ⟨t, ht, hm2⟩ := at_map (fun q : Addr × Int × Str => V.ref q.1) (xs := L) (i := (0 + (i : Int)) - 1) (by omega) (by have := hA.len; omega)
        refine ⟨_, rfl, _, rfl, _, _, rfl, rfl, p, _, _, _, rfl, rfl, SqL.of hA2.at_, ht, _, _, _, _, rfl, rfl, hA2.ps t hm2, (show atI [V.int t.2.1, V.str t.2.2] 1 = some (.str t.2.2) from rfl), rfl, t.2.2, ?_⟩
        have := hA.hs.txt t.2 (List.mem_map_of_mem hm2)
        exact ⟨this.1, this.2, rfl⟩
      · rintro σ' H3 ⟨rfl, x, hx, hxl, rfl⟩
        refine ⟨_, rfl, .inl ⟨rfl, _, SqL.of hA2.at_⟩, _, rfl, _, rfl, (by show 2 ≤ sizeLine; decide), fun t ht => ?_⟩
        have pt : p ≠ t := ne_of_none hA2.at_ ht
        have at2 : (upd H3 t (.tup [.int (num + g + b), .str x])) p = some (.lst (refs L)) := by rw [upd_ne pt]; exact hA2.at_
        refine ⟨p, _, _, rfl, rfl, at2, ?_, ?_⟩
        · show (L.map _).length < sizeLine
          rw [List.length_map, hA2.len]; exact Nat.lt_of_le_of_lt (by omega : i ≤ 1000) (by decide)
        have sm3 : Same H3 (upd H3 t (.tup [.int (num + g + b), .str x])) := same_new ht
        have smp : ∀ o, Same H (upd (upd H3 t (.tup [.int (num + g + b), .str x])) p o) := fun o => same_mut (hA2.sm.trans sm3) hp
        have ltn : ∀ q ∈ L, q.2.1 < num + g + b := fun q hq => by
          have h := hA.le q hq
          have : 0 < i := by
            have := hA.len
            have := List.length_pos_of_mem hq
            omega
          have := bp this
          omega
        refine ⟨L ++ [(t, num + g + b, x)], num + g + b, _, _, rfl, smp _, ?_, ?_, ?_, ?_, ?_, by omega, by omega⟩
        · rw [upd_same]; show _ = some (HO.lst (List.map _ _)); rw [List.map_append]; rfl
        · refine pairs_put at2 fun q hq => ?_
          rcases List.mem_append.mp hq with m1 | m1
          · exact same_tup sm3 (hA2.ps q m1)
          · rw [List.mem_singleton.mp m1]; exact .inl (.inl upd_same)
        · rw [List.length_append, hA.len]; rfl
        · rw [List.map_append]
          exact hs_snoc hA.hs (fun q hq => by obtain ⟨y, hy, rfl⟩ := List.mem_map.mp hq; exact ltn y hy) (by omega) (by omega) hx hxl
        · intro q hq
          rcases List.mem_append.mp hq with m1 | m1
          · have := ltn q m1; omega
          · rw [List.mem_singleton.mp m1]; exact Int.le_refl _
    · obtain ⟨L, num, y5, y6, rfl, hA⟩ := hW
      exact ⟨_, rfl, q p L H' hA.sm hp hA.at_ hA.ps (by have := hA.len; omega) hA.hs⟩
end

end SH
set_option Elab.async false
set_option linter.all false
set_option maxRecDepth 100000
set_option maxHeartbeats 4000000
namespace SH
open PySem PySem.Spec PyProof.Rows L2
section
variable {P : Program} {w : World} {K : PySem.W.Frag} {mg : Str → Option Value} {base : Heap} {ea : Ea}
theorem sc__is_letter : FnScope ["character"] ["character"] (defScope s__is_letter) := ⟨rfl, rfl, rfl, by decide +kernel, rfl, by decide +kernel, by decide +kernel⟩
theorem ok__is_letter (T : Txt K mg ea) : Cl P w K mg base 1 "_is_letter" spIsLetter := by
  have nd := sc__is_letter.nd
  refine cl_of T.d__is_letter sc__is_letter (fun vs H Q E h => ?_) (fun f cdv A outer s H vs Q E hr h => ?_)
  · obtain ⟨c, rfl, _⟩ := h
    rfl
  · obtain ⟨c, rfl, q⟩ := h
    refine ⟨_, (pss_one (ps_ret (pe_and (pe_chain op_le_str op_le_str pe_str (pv 0) pe_str) (pe_one (pe_cmpR op_ne (pe_callB call_ord (by rfl) T.b_ord (by decide +kernel) (pa_cons (pv 0) pa_nil)) (pe_k T.m__PERCENT_SIGN) (nomark _)))))), ?_⟩
    have l1 : decide ((⟨#[c]⟩ : Str).cps.toList < (" " : Str).cps.toList) = decide (c < 32) := lt1 c 32
    have l2 : decide (("~" : Str).cps.toList < (⟨#[c]⟩ : Str).cps.toList) = decide (126 < c) := lt1 126 c
    refine ⟨_, rfl, _, _, rfl, rfl, _, rfl, ite2 (fun e1 => ?_) (fun e1 => ?_)⟩
    · rw [l1] at e1
      have c1 : ¬ c < 32 := by simpa using e1
      refine ⟨_, _, rfl, rfl, _, rfl, ite2 (fun e2 => ?_) (fun e2 => ?_)⟩
      · rw [l2] at e2
        have c2 : ¬ 126 < c := by simpa using e2
        refine ⟨_, rfl, _, rfl, rfl, rfl, ?_⟩
        have e3 : (!decide (V.int ((c : Nat) : Int) = V.int 37)) = okc c := by
          have a : okc c = decide (c ≠ 37) := by
            unfold okc
            rw [decide_eq_true (by omega : 32 ≤ c), decide_eq_true (by omega : c ≤ 126)]
            rfl
          rw [a]
          by_cases h : c = 37
          · subst h
            decide
          · have h2 : ¬ V.int ((c : Nat) : Int) = V.int 37 := fun z => h (by injection z with z; omega)
            rw [decide_eq_false h2, decide_eq_true h]
            rfl
        have q' := q
        rw [← e3] at q'
        exact q'
      · rw [l2] at e2
        have c2 : 126 < c := by simpa using e2
        have a : okc c = false := by
          unfold okc
          rw [decide_eq_false (by omega : ¬ c ≤ 126)]
          simp
        rw [a] at q
        exact q
    · rw [l1] at e1
      have c1 : c < 32 := by simpa using e1
      have a : okc c = false := by
        unfold okc
        rw [decide_eq_false (by omega : ¬ 32 ≤ c)]
        simp
      rw [a] at q
      exact ⟨_, rfl, iteF q⟩
theorem sc__is_text : FnScope ["text", "character"] ["text"] (defScope s__is_text) := ⟨rfl, rfl, rfl, by decide +kernel, rfl, by decide +kernel, by decide +kernel⟩
theorem ok__is_text (T : Txt K mg ea) (c__is_letter : Cl P w K mg base 1 "_is_letter" spIsLetter) : Cl P w K mg base 2 "_is_text" spIsText := by
  have nd := sc__is_text.nd
  refine cl_of T.d__is_text sc__is_text (fun vs H Q E h => ?_) (fun f cdv A outer s H vs Q E hr h => ?_)
  · obtain ⟨z, rfl, _⟩ := h
    rfl
  · obtain ⟨z, rfl, hl, q⟩ := h
    refine ⟨_, (pss_one (ps_ret (pe_and (pe_cmpR op_le (pe_callB call_len_str (by rfl) T.b_len PySem.boot_len (pa_cons (pv 0) pa_nil)) (pe_k T.m__MOST_LETTERS) (nomark _)) (pe_one (pe_callB (cr_all rfl) (by rfl) T.b_all (by decide +kernel) (pa_cons (pe_lc (own := [("character", 1)]) (g := (gName 1)) rfl nd (pi_str (pv 0)) (blkOk_by (own := [("character", 1)]) (N := ["text", "character"]) (sc := defScope s__is_text) (by decide +kernel)) (fun _ _ _ _ _ => (pg_name (i := 1) nd rfl (.inl rfl))) (fun _ _ _ _ _ => pts_nil) (fun _ _ _ _ _ => (C8.pe_c c__is_letter hr (by decide) (by rfl) (pa_cons (pv 1) pa_nil)))) pa_nil)))))), ?_⟩
    refine ⟨_, rfl, z, rfl, Nat.le_trans hl (by decide), _, _, rfl, rfl, _, rfl, ite2 (fun e => ?_) (fun e => ?_)⟩
    · have e1 : z.length ≤ 40 := by have := of_decide_eq_true e; omega
      refine ⟨_, rfl, z, rfl, fun D hD => ?_⟩
      have hz : z.cps.toList.length = z.length := rfl
      refine lc_w walk_str hD (by show z.cps.size ≤ 100000; exact Nat.le_trans hl (by decide)) (fun _ _ => trivial) (fun i acc _ => acc = ((z.cps.toList.take i).map okc).map V.bl) (fun _ _ => rfl) (fun _ _ _ _ _ _ _ r => r) (fun i H x H' y => by rw [y.1]; exact Same.refl _) (fun i x acc H1 H2 Qn Qf hi sm y r at_ kn kf => ?_) (fun acc H1 sm at_ _ r => ?_)
      · obtain ⟨rfl, c, hc, rfl⟩ := y
        refine ⟨rfl, _, rfl, c, rfl, kn _ _ (Same.refl _) ?_⟩
        rw [r, List.take_add_one, List.map_append, List.map_append]
        have hc2 : z.cps.toList[i]? = some c := by rw [Array.getElem?_toList]; exact hc
        rw [hc2]
        rfl
      · refine ⟨D, (z.cps.toList).map okc, rfl, .inl (.inl ?_), ?_⟩
        · rw [at_, r]
          rw [List.take_of_length_le (by show z.cps.toList.length ≤ z.cps.size; simp)]
        · have := q H1 sm
          have e2 : isTxt z = ((z.cps.toList).map okc).all id := by
            unfold isTxt
            rw [decide_eq_true e1, List.all_map]
            rfl
          rw [e2] at this
          exact this
    · have e1 : ¬ z.length ≤ 40 := fun h => e (decide_eq_true (by omega))
      have := q H (Same.refl H)
      have e2 : isTxt z = false := by
        unfold isTxt
        rw [decide_eq_false e1]
        rfl
      rw [e2] at this
      exact this
end

section
variable {P : Program} {w : World} {K : PySem.W.Frag} {mg : Str → Option Value} {base : Heap} {ea : Ea}
theorem sc__has_number : FnScope ["house", "number", "other", "text"] ["house", "number"] (defScope s__has_number) := ⟨rfl, rfl, rfl, by decide +kernel, rfl, by decide +kernel, by decide +kernel⟩
theorem ok__has_number (T : Txt K mg ea) : Cl P w K mg base 1 "_has_number" (spHasNumber K) := by
  have nd := sc__has_number.nd
  refine cl_of T.d__has_number sc__has_number (fun vs H Q E h => ?_) (fun f cdv A outer s H vs Q E hr h => ?_)
  · obtain ⟨a, L, n, rfl, _⟩ := h
    rfl
  · obtain ⟨a, L, n, rfl, hA, hl, q⟩ := h
    refine ⟨_, (pss_one (ps_ret (pe_cmpR op_in_seq (pv 1) (pe_lc (own := [("other", 2), ("text", 3)]) (g := (gTup K 2 (gCons (gName 2) (gCons (gName 3) gNil)))) rfl nd (pi_listK (K := K) (pv 0)) (blkOk_by (own := [("other", 2), ("text", 3)]) (N := ["house", "number", "other", "text"]) (sc := defScope s__has_number) (by decide +kernel)) (fun _ _ _ _ _ => (pg_tup rfl (pgs_cons (pg_name (i := 2) nd rfl (.inl rfl)) (pgs_cons (pg_name (i := 3) nd rfl (.inl rfl)) pgs_nil)))) (fun _ _ _ _ _ => pts_nil) (fun _ _ _ _ _ => (pv 2))) (by rfl)))), ?_⟩
    refine ⟨_, rfl, _, rfl, a, rfl, ⟨_, hA.1⟩, fun D hD => ?_⟩
    refine lc_w (walk_list (xs := refs L)) hD (by show (L.map _).length ≤ _; rw [List.length_map]; omega) (fun H' e => e.seq hA.1) (fun i acc _ => acc = ((L.take i).map fun q => q.2.1).map V.int) (fun _ _ => rfl) (fun _ _ _ _ _ _ _ r => r) (fun i H x H' y => by rw [y.1]; exact Same.refl _) (fun i x acc H1 H2 Qn Qf hi sm y r at_ kn kf => ?_) (fun acc H1 sm at_ _ r => ?_)
    · obtain ⟨rfl, hx⟩ := y
      have hx2 : (L.map fun q => V.ref q.1)[i]? = some x := hx
      rw [List.getElem?_map] at hx2
      cases e : L[i]? with
      | none => rw [e] at hx2; cases hx2
      | some t =>
        rw [e] at hx2
        cases hx2
        have tm : t ∈ L := List.mem_of_getElem? e
        refine ⟨_, _, rfl, same_tup sm (hA.2 t tm), rfl, _, _, rfl, _, _, rfl, rfl, rfl, ?_⟩
        refine ⟨_, rfl, kn _ _ (Same.refl _) ?_⟩
        rw [r, List.take_add_one, List.map_append, List.map_append, e]
        rfl
    · have ll : (L.map fun q => V.ref q.1).length = L.length := List.length_map ..
      have r2 : acc = (L.map fun q => q.2.1).map V.int := by
        rw [r, List.take_of_length_le (by show L.length ≤ (L.map _).length; rw [ll]; exact Nat.le_refl _)]
      refine ⟨D, acc, rfl, .inl (.inl (.inl at_)), rfl, ?_, ?_⟩
      · rw [r2]
        simp [flatV]
      · have := q H1 sm
        rw [r2, if_neg Bool.false_ne_true, inV_ints]
        exact this
end

section
variable {P : Program} {w : World} {K : PySem.W.Frag} {mg : Str → Option Value} {base : Heap} {ea : Ea}
def spWithText (K : PySem.W.Frag) (ea : Ea) : Sp := fun vs H Q E => ∃ (a : Addr) (L : PL) (n : Int) (z : Str), vs = [.ref a, .int n, .str z] ∧ HsAt K H a L ∧ L.length ≤ 1000 ∧ IsHs 40 (L.map (·.2)) ∧ Small n ∧ z.length ≤ 1000 ∧
  (¬ (0 ≤ n ∧ n ≤ 99) → Errs E H ea.c_OutOfRange n) ∧ ((0 ≤ n ∧ n ≤ 99) → n ∈ L.map (fun q => q.2.1) → Errs E H ea.c_TakenNumber n) ∧
  ((0 ≤ n ∧ n ≤ 99) → n ∉ L.map (fun q => q.2.1) → isTxt z = false → Errs E H ea.c_BadText n) ∧ ((0 ≤ n ∧ n ≤ 99) → n ∉ L.map (fun q => q.2.1) → isTxt z = true → 8 ≤ L.length → Errs E H ea.c_TooMany n) ∧
  ((0 ≤ n ∧ n ≤ 99) → n ∉ L.map (fun q => q.2.1) → isTxt z = true → L.length < 8 → NewHs K Q H (ins n z (L.map (·.2))))
theorem sc_with_text : FnScope ["house", "number", "text"] ["house", "number", "text"] (defScope s_with_text) := ⟨rfl, rfl, rfl, by decide +kernel, rfl, by decide +kernel, by decide +kernel⟩
theorem ok_with_text (T : Txt K mg ea) (c__has_number : Cl P w K mg base 1 "_has_number" (spHasNumber K)) (c__is_text : Cl P w K mg base 2 "_is_text" spIsText) : ClX P w K mg base 3 "with_text" (spWithText K ea) := by
  have nd := sc_with_text.nd
  refine clx_of T.d_with_text sc_with_text (fun vs H Q E h => ?_) (fun f cdv A outer s H vs Q E hr h => ?_)
  · obtain ⟨a, L, n, z, rfl, _⟩ := h
    rfl
  · obtain ⟨a, L, n, z, rfl, hA, hl, hh, hs, hz, q1, q2, q3, q4, q5⟩ := h
    refine ⟨_, (pss_cons (ps_if (pt_not (pt_chain op_le op_le pe_int (pv 1) (pe_k T.m__GREATEST_NUMBER)))
        (pss_one (ps_raise rfl (takes_of rfl rfl rfl rfl) (pmk_at T.x_OutOfRange (ok_init T) hr (by decide) (by rfl) (pa_cons (pv 1) pa_nil))))
        pss_nil)
      (pss_cons (ps_if (pt_val (C8.pe_c c__has_number hr (by decide) (by rfl) (pa_cons (pv 0) (pa_cons (pv 1) pa_nil))))
        (pss_one (ps_raise rfl (takes_of rfl rfl rfl rfl) (pmk_at T.x_TakenNumber (ok_init T) hr (by decide) (by rfl) (pa_cons (pv 1) pa_nil))))
        pss_nil)
      (pss_cons (ps_if (pt_not (pt_val (C8.pe_c c__is_text hr (by decide) (by rfl) (pa_cons (pv 2) pa_nil))))
        (pss_one (ps_raise rfl (takes_of rfl rfl rfl rfl) (pmk_at T.x_BadText (ok_init T) hr (by decide) (by rfl) (pa_cons (pv 1) pa_nil))))
        pss_nil)
      (pss_cons (ps_if (pt_cmpR op_ge (pe_callB call_len_seq (by rfl) T.b_len PySem.boot_len (pa_cons (pv 0) pa_nil)) (pe_k T.m__MOST_TEXTS) (nomark _))
        (pss_one (ps_raise rfl (takes_of rfl rfl rfl rfl) (pmk_at T.x_TooMany (ok_init T) hr (by decide) (by rfl) (pa_cons (pv 1) pa_nil))))
        pss_nil)
      (pss_one (ps_ret (pe_callB cr_sortNT (by rfl) T.b_sorted (by decide +kernel) (pa_cons (pe_lst (StX.pa_star (pv 0) (pa_cons (pe_tup (pa_cons (pv 1) (pa_cons (pv 2) pa_nil))) pa_nil))) pa_nil)))))))), ?_⟩
    refine ⟨_, rfl, _, _, rfl, rfl, _, rfl, ite2 (fun e1 => ?_) (fun e1 => ?_)⟩
    · have n0 := of_decide_eq_true e1
      refine ⟨_, _, rfl, rfl, _, rfl, ?_⟩
      by_cases n1 : n ≤ 99
      · rw [decide_eq_true n1]
        have nn : 0 ≤ n ∧ n ≤ 99 := ⟨n0, n1⟩
        refine ⟨_, rfl, _, rfl, a, L, n, rfl, hA, hl, fun H1 s1 => ⟨_, rfl, ite2 (fun e2 => ?_) (fun e2 => ?_)⟩⟩
        · exact ⟨_, rfl, mk_at T.x_TakenNumber.o T.x_TakenNumber.no hs ((q2 nn (of_decide_eq_true e2)).same s1)⟩
        · have n2 : n ∉ L.map (fun q => q.2.1) := fun z => e2 (decide_eq_true z)
          refine ⟨_, rfl, z, rfl, hz, fun H2 s2 => ⟨_, rfl, ?_⟩⟩
          have s12 := s1.trans s2
          cases et : isTxt z with
          | false => exact ⟨_, rfl, mk_at T.x_BadText.o T.x_BadText.no hs ((q3 nn n2 et).same s12)⟩
          | true =>
            refine ⟨_, rfl, a, _, rfl, .inl (s12.seq hA.1), _, _, rfl, rfl, _, rfl, ite2 (fun e3 => ?_) (fun e3 => ?_)⟩
            · have := of_decide_eq_true e3
              exact ⟨_, rfl, mk_at T.x_TooMany.o T.x_TooMany.no hs ((q4 nn n2 et (by have := refs_len L; omega)).same s12)⟩
            · have l8 : L.length < 8 := by
                have : ¬ (8 : Int) ≤ ((refs L).length : Int) := fun z => e3 (decide_eq_true z)
                have := refs_len L
                omega
              refine ⟨_, rfl, a, _, rfl, .inr (s12.seq hA.1), _, rfl, _, rfl, (by show 2 ≤ sizeLine; decide), fun t ht => ?_⟩
              have s3 : Same H2 (upd H2 t (.tup [.int n, .str z])) := same_new ht
              refine ⟨?_, fun l hl2 => ?_⟩
              · rw [List.length_append]
                have := refs_len L
                exact Nat.le_trans (by simp; omega : _ ≤ 1001) (by decide)
              have s4 := s3.trans (same_new (o := .lst (refs L ++ [V.ref t])) hl2)
              have hp : PairsAt K (upd (upd H2 t (.tup [.int n, .str z])) l (.lst (refs L ++ [V.ref t]))) (L ++ [(t, n, z)]) := fun q hq => by
                rcases List.mem_append.mp hq with m | m
                · exact same_tup (s12.trans s4) (hA.2 q m)
                · rw [List.mem_singleton.mp m]
                  exact same_tup (same_new hl2) (.inl (.inl upd_same))
              have hpw := hh.pw
              refine ⟨l, L ++ [(t, n, z)], rfl, ⟨.inl (.inl ?_), hp⟩, ?_, fun L' p perm srt np => ?_⟩
              · rw [upd_same]
                unfold refs
                rw [List.map_append]
                rfl
              · -- one number, one text
                have asc2 : ((L ++ [(t, n, z)]).map (·.2)).Pairwise (fun q r => q.1 ≠ r.1) := by
                  rw [List.map_append, List.pairwise_append]
                  refine ⟨hpw.imp (fun h e => by omega), by simp, fun x hx y hy e => ?_⟩
                  simp at hy
                  subst hy
                  refine n2 ?_
                  obtain ⟨q, hq, rfl⟩ := List.mem_map.mp hx
                  exact List.mem_map.mpr ⟨q, hq, e⟩
                intro q hq r hr e
                refine Decidable.byContradiction fun ne => ?_
                rw [List.pairwise_map] at asc2
                have key : ∀ {M : PL}, M.Pairwise (fun q r => q.2.1 ≠ r.2.1) → q ∈ M → r ∈ M → q.2.2 = r.2.2 := by
                  intro M
                  induction M with
                  | nil => intro _ m; cases m
                  | cons x M ih =>
                    intro pw mq mr
                    rw [List.pairwise_cons] at pw
                    rcases List.mem_cons.mp mq with e1 | m1 <;> rcases List.mem_cons.mp mr with e2 | m2
                    · rw [e1, e2]
                    · exact absurd (e1 ▸ e) (pw.1 r m2)
                    · exact absurd (e2 ▸ e).symm (pw.1 q m1)
                    · exact ih pw.2 m1 m2
                exact ne (key asc2 hq hr)
              · refine q5 nn n2 et l8 p L' _ ((s12.trans s4).trans (same_new np)) ((s12.trans s4).free np) upd_same ?_ ?_
                · exact fun q hq => same_tup (same_new np) (hp q (perm.mem_iff.mp hq))
                · have nmem : n ∉ (L.map (·.2)).map (·.1) := by rw [List.map_map]; exact n2
                  have p2 : (L'.map (·.2)).Perm (ins n z (L.map (·.2))) := by
                    have := perm.map (fun q : Addr × Int × Str => q.2)
                    rw [List.map_append] at this
                    exact this.trans (ins_perm nmem).symm
                  refine asc_uniq p2 ?_ (ins_asc hpw)
                  -- sorted, and no number twice
                  have nodup : (L'.map (·.2)).Pairwise (fun q r => q.1 ≠ r.1) := p2.pairwise_iff (fun h e => h e.symm) |>.mpr ((ins_asc hpw).imp fun h e => by omega)
                  have srt2 : (L'.map (·.2)).Pairwise (fun q r => q.1 ≤ r.1) := List.pairwise_map.mpr srt
                  exact (nodup.and srt2).imp fun h => by have := h.1; have := h.2; omega
      · rw [decide_eq_false n1]
        exact ⟨_, rfl, mk_at T.x_OutOfRange.o T.x_OutOfRange.no hs (q1 (fun z => n1 z.2))⟩
    · have n0 : ¬ 0 ≤ n := fun z => e1 (decide_eq_true z)
      refine ⟨_, rfl, ?_⟩
      exact ⟨_, rfl, mk_at T.x_OutOfRange.o T.x_OutOfRange.no hs (q1 (fun z => n0 z.1))⟩
end

section
variable {P : Program} {w : World} {K : PySem.W.Frag} {mg : Str → Option Value} {base : Heap} {ea : Ea}
def spWithout (K : PySem.W.Frag) (ea : Ea) : Sp := fun vs H Q E => ∃ (a : Addr) (L : PL) (n : Int), vs = [.ref a, .int n] ∧ HsAt K H a L ∧ L.length ≤ 1000 ∧ Small n ∧
  (n ∉ L.map (fun q => q.2.1) → Errs E H ea.c_NoText n) ∧ (n ∈ L.map (fun q => q.2.1) → NewHs K Q H ((L.map (·.2)).filter fun q => decide (q.1 ≠ n)))
theorem sc_without_text : FnScope ["house", "number", "other", "text"] ["house", "number"] (defScope s_without_text) := ⟨rfl, rfl, rfl, by decide +kernel, rfl, by decide +kernel, by decide +kernel⟩
theorem ok_without_text (T : Txt K mg ea) (c__has_number : Cl P w K mg base 1 "_has_number" (spHasNumber K)) : ClX P w K mg base 3 "without_text" (spWithout K ea) := by
  have nd := sc_without_text.nd
  refine clx_of T.d_without_text sc_without_text (fun vs H Q E h => ?_) (fun f cdv A outer s H vs Q E hr h => ?_)
  · obtain ⟨a, L, n, rfl, _⟩ := h
    rfl
  · obtain ⟨a, L, n, rfl, hA, hl, hs, q1, q2⟩ := h
    refine ⟨_, (pss_cons (ps_if (pt_not (pt_val (C8.pe_c c__has_number hr (by decide) (by rfl) (pa_cons (pv 0) (pa_cons (pv 1) pa_nil)))))
        (pss_one (ps_raise rfl (takes_of rfl rfl rfl rfl) (pmk_at T.x_NoText (ok_init T) hr (by decide) (by rfl) (pa_cons (pv 1) pa_nil))))
        pss_nil)
      (pss_one (ps_ret (pe_lc (own := [("other", 2), ("text", 3)]) (g := (gTup K 2 (gCons (gName 2) (gCons (gName 3) gNil)))) rfl nd (pi_listK (K := K) (pv 0)) (blkOk_by (own := [("other", 2), ("text", 3)]) (N := ["house", "number", "other", "text"]) (sc := defScope s_without_text) (by decide +kernel)) (fun _ _ _ _ _ => (pg_tup rfl (pgs_cons (pg_name (i := 2) nd rfl (.inl rfl)) (pgs_cons (pg_name (i := 3) nd rfl (.inl rfl)) pgs_nil)))) (fun _ _ _ _ _ => pts_one (pt_cmpR op_ne (pv 2) (pv 1) (nomark _))) (fun _ _ _ _ _ => (pe_tup (pa_cons (pv 2) (pa_cons (pv 3) pa_nil)))))))), ?_⟩
    refine ⟨_, rfl, _, rfl, a, L, n, rfl, hA, hl, fun H1 s1 => ⟨_, rfl, ?_⟩⟩
    by_cases hn : n ∈ L.map (fun q => q.2.1)
    · rw [decide_eq_true hn]
      refine ⟨_, rfl, a, rfl, ⟨_, s1.seq hA.1⟩, fun D hD => ?_⟩
      refine lc_w (walk_list (xs := refs L)) hD (by rw [refs_len]; omega) (fun H' e => (s1.trans e).seq hA.1) (fun i acc H' => ∃ L' : PL, acc = refs L' ∧ PairsAt K H' L' ∧ L'.map (·.2) = ((L.take i).map (·.2)).filter fun q => decide (q.1 ≠ n))
        (fun _ _ => ⟨[], rfl, (fun q hq => by cases hq), rfl⟩) (fun i acc H2 H3 l hl e r => ?_) (fun i H x H' y => by rw [y.1]; exact Same.refl _) (fun i x acc H2 H3 Qn Qf hi sm y r at_ kn kf => ?_) (fun acc H2 sm at_ _ r => ?_)
      · obtain ⟨L', e1, e2, e3⟩ := r
        exact ⟨L', e1, but_pairs hl e e2, e3⟩
      · obtain ⟨rfl, hx⟩ := y
        obtain ⟨t, ht, tm, rfl⟩ := refs_at hx
        obtain ⟨L', e1, e2, e3⟩ := r
        have tk : (L.take (i + 1)).map (·.2) = (L.take i).map (·.2) ++ [t.2] := by rw [List.take_add_one, ht, List.map_append]; rfl
        refine ⟨_, _, rfl, same_tup (s1.trans sm) (hA.2 t tm), rfl, _, _, rfl, _, _, rfl, rfl, rfl, ?_⟩
        refine ⟨_, rfl, _, rfl, rfl, _, rfl, ite2 (fun e => ?_) (fun e => ?_)⟩
        · have ne : t.2.1 ≠ n := fun z => by rw [z] at e; simp at e
          refine ⟨_, rfl, _, rfl, (by show 2 ≤ sizeLine; decide), fun u hu => ?_⟩
          refine kn _ _ (same_new hu) ⟨L' ++ [(u, t.2)], ?_, ?_, ?_⟩
          · rw [e1]; unfold refs; rw [List.map_append]; rfl
          · intro q hq
            rcases List.mem_append.mp hq with m | m
            · exact same_tup (same_new hu) (e2 q m)
            · rw [List.mem_singleton.mp m]; exact .inl (.inl upd_same)
          · rw [List.map_append, e3, tk, List.filter_append, List.filter_cons_of_pos (by simpa using ne)]
            rfl
        · have eq : t.2.1 = n := by
            refine Decidable.byContradiction fun ne => e ?_
            have : ¬ V.int t.2.1 = V.int n := fun z => ne (by injection z)
            rw [decide_eq_false this]
            rfl
          refine kf _ (Same.refl _) ⟨L', e1, e2, ?_⟩
          rw [tk, List.filter_append, e3, List.filter_cons_of_neg (by simp [eq])]
          simp
      · obtain ⟨L', e1, e2, e3⟩ := r
        refine q2 hn D L' H2 (s1.trans sm) (s1.free hD) (by rw [at_, e1]) e2 ?_
        rw [e3, List.take_of_length_le (by rw [refs_len]; exact Nat.le_refl _)]
    · rw [decide_eq_false hn]
      exact ⟨_, rfl, mk_at T.x_NoText.o T.x_NoText.no hs ((q1 hn).same s1)⟩
end

end SH
set_option Elab.async false
set_option linter.all false
set_option maxRecDepth 100000
set_option maxHeartbeats 4000000
namespace SH
open PySem PySem.Spec PyProof.Rows L2
section
variable {P : Program} {w : World} {K : PySem.W.Frag} {mg : Str → Option Value} {base : Heap} {ea : Ea}
/-- the order of the house with a text more -/
def spOrdWith (K : PySem.W.Frag) (ea : Ea) : Sp := fun vs H Q E => ∃ (a o : Addr) (L : PL) (n : Int) (z : Str) (R : QT), vs = [.ref a, .ref o, .int n, .str z] ∧ HsAt K H a L ∧ L.length ≤ 8 ∧ IsHs 40 (L.map (·.2)) ∧ Small n ∧ z.length ≤ 1000 ∧
  SqL K H o (qrefs R) ∧ QAt K H R ∧ R.map (·.2) = (ordE (L.map (·.2))).map (·.2) ∧
  (¬ (0 ≤ n ∧ n ≤ 99) → Errs E H ea.c_OutOfRange n) ∧ ((0 ≤ n ∧ n ≤ 99) → n ∈ L.map (fun q => q.2.1) → Errs E H ea.c_TakenNumber n) ∧
  ((0 ≤ n ∧ n ≤ 99) → n ∉ L.map (fun q => q.2.1) → isTxt z = false → Errs E H ea.c_BadText n) ∧ ((0 ≤ n ∧ n ≤ 99) → n ∉ L.map (fun q => q.2.1) → isTxt z = true → 8 ≤ L.length → Errs E H ea.c_TooMany n) ∧
  ((0 ≤ n ∧ n ≤ 99) → n ∉ L.map (fun q => q.2.1) → isTxt z = true → L.length < 8 → ∀ (l : Addr) (R' : QT) (H' : Hp), Same H H' → H l = none → H' l = some (.lst (qrefs R')) → QAt K H' R' → R'.map (·.2) = (ordE (ins n z (L.map (·.2)))).map (·.2) → Q (.ref l) H')
theorem sc_order_with : FnScope ["house", "order", "number", "text", "texts", "fresh", "found", "at", "other", "begin", "row", "start"] ["house", "order", "number", "text"] (defScope s_order_with) := ⟨rfl, rfl, rfl, by decide +kernel, rfl, by decide +kernel, by decide +kernel⟩
theorem ok_order_with (T : Txt K mg ea) (c_with_text : ClX P w K mg base 3 "with_text" (spWithText K ea)) : ClX P w K mg base 4 "order_with" (spOrdWith K ea) := by
  have nd := sc_order_with.nd
  refine clx_of T.d_order_with sc_order_with (fun vs H Q E h => ?_) (fun f cdv A outer s H vs Q E0 hr h => ?_)
  · obtain ⟨a, o, L, n, z, R, rfl, _⟩ := h
    rfl
  · obtain ⟨a, o, L, n, z, R, rfl, hA, hl, hh, hs, hz, hO, hR, re, x1, x2, x3, x4, q⟩ := h
    refine ⟨_, (pss_cons (ps_set (i := 4) nd rfl (.inl rfl) (pe_callTy (call_dictP rfl) (by rfl) T.b_dict (by decide +kernel) (pa_cons (pe_cx c_with_text hr (by decide) (fun σ => passAt (takes_of rfl rfl rfl rfl) σ) (by rfl) (pa_cons (pv 0) (pa_cons (pv 2) (pa_cons (pv 3) pa_nil)))) pa_nil)))
      (pss_cons (ps_set (i := 5) nd rfl (.inl rfl) (pe_callB (cr_sortDK (K := K) hr.units) (by rfl) T.b_sorted (by decide +kernel) (pa_cons (pe_lc (own := [("start", 11)]) (g := (gName 11)) rfl nd (pi_range1 rfl T.b_range (pa_cons (pe_op op_add (pe_callB call_len_str (by rfl) T.b_len PySem.boot_len (pa_cons (pv 3) pa_nil)) pe_int) pa_nil)) (blkOk_by (own := [("start", 11)]) (N := ["house", "order", "number", "text", "texts", "fresh", "found", "at", "other", "begin", "row", "start"]) (sc := defScope s_order_with) (by decide +kernel)) (fun _ _ _ _ _ => (pg_name (i := 11) nd rfl (.inl rfl))) (fun _ _ _ _ _ => pts_nil) (fun _ _ _ _ _ => (pe_tup (pa_cons (pe_slice sl_str (pv 3) (po_some (pv 11)) po_none) (pa_cons (pv 2) (pa_cons (pv 11) pa_nil)))))) pa_nil)))
      (pss_cons (ps_set (i := 6) nd rfl (.inl rfl) (pe_lst pa_nil))
      (pss_cons (ps_set (i := 7) nd rfl (.inl rfl) pe_int)
      (pss_cons (ps_for (passes_of rfl) rfl (pi_listK (K := K) (pv 1)) (pg_tup rfl (pgs_cons (pg_name (i := 8) nd rfl (.inl rfl)) (pgs_cons (pg_name (i := 9) nd rfl (.inl rfl)) pgs_nil)))
        (pss_cons (ps_set (i := 10) nd rfl (.inl rfl) (pe_tup (pa_cons (pe_slice sl_str (pe_dget (hu_of hr) (pv 4) (pv 8) (fun _ _ => rfl)) (po_some (pv 9)) po_none) (pa_cons (pv 8) (pa_cons (pv 9) pa_nil)))))
          (pss_cons (ps_while (passes_of rfl) (PW.pt (pw_and (pt_cmpR op_lt (pv 7) (pe_callB call_len_seq (by rfl) T.b_len PySem.boot_len (pa_cons (pv 5) pa_nil)) (nomark _)) (pw_and1 (pt_cmpR (op_ltDK (K := K) hr.units) (pe_ix (ixl (K := K)) (pv 5) (pv 7) (fun _ _ => rfl)) (pv 10) (nomark _)))))
            (pss_cons (ps_expr (pe_bm PySem.F.plainAttrs_list PySem.F.slot_list_append PySem.F.type_list_append mt_append (pv 6) (pa_cons (pe_slice (sl_tupK (K := K)) (pe_ix (ixl (K := K)) (pv 5) (pv 7) (fun _ _ => rfl)) (po_some pe_int) po_none) pa_nil)))
              (pss_one (ps_aug (i := 7) nd rfl (.inl rfl) pe_int ip_add))))
          (pss_one (ps_expr (pe_bm PySem.F.plainAttrs_list PySem.F.slot_list_append PySem.F.type_list_append mt_append (pv 6) (pa_cons (pe_tup (pa_cons (pv 8) (pa_cons (pv 9) pa_nil))) pa_nil)))))))
      (pss_one (ps_ret (pe_op op_cat (pv 6) (pe_lc (own := [("row", 10)]) (g := (gName 10)) rfl nd (pi_listK (K := K) (pe_slice sl_list (pv 5) (po_some (pv 7)) po_none)) (blkOk_by (own := [("row", 10)]) (N := ["house", "order", "number", "text", "texts", "fresh", "found", "at", "other", "begin", "row", "start"]) (sc := defScope s_order_with) (by decide +kernel)) (fun _ _ _ _ _ => (pg_name (i := 10) nd rfl (.inl rfl))) (fun _ _ _ _ _ => pts_nil) (fun _ _ _ _ _ => (pe_slice (sl_tupK (K := K)) (pv 10) (po_some pe_int) po_none))))))))))), ?_⟩
    refine ⟨_, rfl, _, rfl, _, rfl, a, L, n, z, rfl, hA, by omega, hh, hs, hz, x1, x2, x3, x4, fun c1 c2 c3 c4 p L' H1 s1 np at1 hp he => ?_⟩
    have q := q c1 c2 c3 c4
    have nmem : n ∉ (L.map (·.2)).map (·.1) := by rw [List.map_map]; exact c2
    have zb : z.length ≤ 40 := by
      unfold isTxt at c3
      have := (Bool.and_eq_true_iff.mp c3).1
      exact of_decide_eq_true this
    have zs : z.length ≤ sizeLine := Nat.le_trans hz (by decide)
    -- the texts
    have eps : refs L' = (L'.map (·.1)).map V.ref := by rw [List.map_map]; rfl
    have asc' : ((L'.map (·.2)).map (·.1)).Pairwise (· < ·) := by rw [he]; exact List.pairwise_map.mpr (ins_asc hh.pw)
    refine ⟨p, L'.map (fun q : Addr × Int × Str => q.1), L'.map fun q : Addr × Int × Str => ((Sum.inl q.2.1 : Key), V.str q.2.2), rfl, by rw [← eps]; exact SqL.of at1, Dct.paired_house hp, fun d nd1 => ?_⟩
    have s2 := same_new (o := .dK (mergeK [] (L'.map fun q => ((Sum.inl q.2.1 : Key), V.str q.2.2)))) nd1
    have hd : (upd H1 d (.dK (mergeK [] (L'.map fun q => ((Sum.inl q.2.1 : Key), V.str q.2.2))))) d = some (.dK (mergeK [] (L'.map fun q => ((Sum.inl q.2.1 : Key), V.str q.2.2)))) := upd_same
    have tv : ∀ n, valV (mergeK [] (L'.map fun q => ((Sum.inl q.2.1 : Key), V.str q.2.2))) (.inl n) = (lk n (L'.map (·.2))).map V.str := lk_val asc'
    have tl : ∀ {q : Int × Str}, q ∈ L.map (·.2) → lk q.1 (L'.map (·.2)) = some q.2 := fun hq => lk_of asc' (by rw [he]; exact ins_mem nmem hq)
    generalize mergeK [] (L'.map fun q => ((Sum.inl q.2.1 : Key), V.str q.2.2)) = kvs at s2 hd tv ⊢
    have sm2 := s1.trans s2
    generalize upd H1 d (.dK kvs) = H2 at s2 sm2 hd ⊢
    -- the new ends, sorted
    refine ⟨_, rfl, z, rfl, zs, _, _, rfl, rfl, _, rfl, by omega, by omega, fun D nD => ?_⟩
    refine lc_w (walk_range (lo := 0) (n := ((z.length : Int) + 1).toNat)) nD (by omega) (fun _ _ => trivial) (fun i acc H' => ∃ Z : FT, acc = frefs Z ∧ FAt H' Z ∧ Z.map (·.2) = (endsOf (n, z)).take i) (fun _ _ => ⟨[], rfl, (fun _ m => nomatch m), by simp⟩)
      (fun i acc Ha Hb l hD e r => by
        obtain ⟨Z, r1, r2, r3⟩ := r
        refine ⟨Z, r1, fun y m => e _ _ (fun c => ?_) (r2 y m), r3⟩
        have := r2 y m
        rw [c, hD] at this
        cases this) (fun i H x H' y => by rw [y.1]; exact Same.refl _) (fun j x acc Ha Hb Qn Qf hj sm y r at_ kn kf => ?_) (fun acc H3 sm at_ _ r => ?_)
    · obtain ⟨rfl, ex⟩ := y
      obtain rfl : x = V.int (j : Int) := ex.trans (congrArg V.int (Int.zero_add _))
      obtain ⟨Z, rfl, r2, r3⟩ := r
      refine ⟨rfl, _, rfl, _, rfl, _, rfl, z, rfl, zs, _, rfl, _, rfl, (by show 3 ≤ sizeLine; decide), fun u nu => ?_⟩
      refine kn _ _ (same_new nu) ⟨Z ++ [(u, suf z j, n, (j : Int))], ?_, (r2.same (same_new nu)).snoc upd_same, ?_⟩
      · unfold frefs
        rw [List.map_append]
        rfl
      · rw [List.map_append, r3, take_snoc (endsOf_at (q := (n, z)) (s := j) (by show j ≤ z.length; omega))]
        rfl
    obtain ⟨Z, rfl, za, ze⟩ := r
    rw [List.take_of_length_le (by rw [endsOf_len]; show z.length + 1 ≤ _; omega)] at ze
    refine ⟨E3, eFlat, D, Z.map fun z => (V.ref z.1, z.2), rfl, ?_, ?_, ?_, ?_, fun z _ => flat_deep z.2, fun pf npf => ?_⟩
    · rw [List.map_map]
      exact SqL.of at_
    · intro y hy2
      obtain ⟨y, hy, rfl⟩ := List.mem_map.mp hy2
      exact .tup (.inl (.inl (za y hy))) (.cons (.str _) (.cons (.int _) (.cons (.int _) .nil)))
    · rw [List.map_map]
      exact flat_alike (fun z : Addr × E3 => z.2) Z
    · rw [List.map_map]
      exact flat_able (fun z : Addr × E3 => z.2) Z
    rw [sort_flat]
    have s4 := same_new (o := .lst (frefs (Z.mergeSort fun p q => le3 p.2 q.2))) npf
    have za4 : FAt (upd H3 pf (.lst (frefs (Z.mergeSort fun p q => le3 p.2 q.2)))) (Z.mergeSort fun p q => le3 p.2 q.2) := fun z m => s4 _ _ (za z (List.mem_mergeSort.mp m))
    have zf : (Z.mergeSort fun p q => le3 p.2 q.2).map (·.2) = fresh (n, z) := by
      rw [sort3_map (fun z : Addr × E3 => z.2), ze]
      rfl
    have atf : (upd H3 pf (.lst (frefs (Z.mergeSort fun p q => le3 p.2 q.2)))) pf = some (.lst (frefs (Z.mergeSort fun p q => le3 p.2 q.2))) := upd_same
    generalize (Z.mergeSort fun p q => le3 p.2 q.2) = Y at s4 za4 zf atf ⊢
    have sm4 := (sm2.trans sm).trans s4
    have hd4 := s4 _ _ (sm _ _ hd)
    generalize upd H3 pf (.lst (frefs Y)) = H4 at s4 sm4 za4 atf hd4 ⊢
    have yl : (frefs Y).length = Y.length := List.length_map ..
    have yf : Y.length = z.length + 1 := by
      have e := congrArg List.length zf
      unfold fresh at e
      rwa [List.length_map, List.length_mergeSort, endsOf_len] at e
    refine ⟨Nat.zero_le _, fun D5 nD5 => ?_⟩
    have s5 := same_new (o := .lst []) nD5
    have at5 : (upd H4 D5 (.lst [])) D5 = some (.lst []) := upd_same
    generalize upd H4 D5 (.lst []) = H5 at s5 at5 ⊢
    have nD0 : H D5 = none := sm4.free nD5
    have ql := qrefs_len R
    have rlen : R.length = (ordE (L.map (·.2))).length := by
      have e := congrArg List.length re
      rwa [List.length_map, List.length_map] at e
    have el : (ordE (L.map (·.2))).length ≤ 50500 := by
      refine Nat.le_trans (ordE_len (m := 40) fun q hq => (hh.txt q hq).2) ?_
      rw [List.length_map]
      omega
    have oin : ∀ e ∈ ordE (L.map (·.2)), ∃ t ∈ L.map (·.2), ∃ st : Nat, st ≤ t.2.length ∧ e = (suf t.2 st, t.1, (st : Int)) := fun e he => mem_ends3.mp (mem_ordE.mp he)
    have mrg : List.merge (ordE (L.map (·.2))) (fresh (n, z)) le3 = ordE (ins n z (L.map (·.2))) := mrg_is (ins_perm nmem)
    have tl40 : ∀ {q : Int × Str}, q ∈ L.map (·.2) → q.2.length ≤ 40 := fun hq => (hh.txt _ hq).2
    generalize ordE (L.map (·.2)) = E at *
    generalize hF : fresh (n, z) = F at *
    have fl : F.length = z.length + 1 := by rw [← zf, List.length_map, yf]
    -- the ends of the old order, one by one
    have hF3 : ∀ f ∈ F, ∃ st : Nat, st ≤ z.length ∧ f = (suf z st, n, (st : Int)) := fun f m => by
      rw [← hF] at m
      obtain ⟨st, h1, h2⟩ := mem_endsOf.mp (List.mem_mergeSort.mp m)
      exact ⟨st, h1, h2⟩
    have fr : ∀ {k : Nat}, k < F.length → ∃ y f, Y[k]? = some y ∧ y ∈ Y ∧ F[k]? = some f ∧ y.2 = f ∧ atI (frefs Y) (k : Int) = some (.ref y.1) := fun {k} hk => by
      have e : Y[k]? = some (Y[k]'(by omega)) := List.getElem?_eq_getElem (by omega)
      refine ⟨_, _, e, List.getElem_mem _, List.getElem?_eq_getElem hk, ?_, atI_nat (by unfold frefs; rw [List.getElem?_map, e]; rfl)⟩
      have h2 : (Y.map (·.2))[k]? = F[k]? := by rw [zf]
      rw [List.getElem?_map, e, List.getElem?_eq_getElem hk] at h2
      exact Option.some.inj h2
    have shp : ∀ {S : QT} {H' : Hp}, H' D5 = some (.lst (qrefs S)) → S.length ≤ 60000 → (qrefs S).length < sizeLine := fun _ l => by rw [qrefs_len]; exact Nat.lt_of_le_of_lt l (by decide)
    refine ⟨_, rfl, o, rfl, ⟨_, (sm4.trans s5).seq hO⟩, ?_⟩
    refine for_it (walk_list (K := K) (a := o) (xs := qrefs R)) (fun i σ H' => ∃ (S : QT) (Es : List E3) (k : Nat) (y8 y9 y10 y11 : Option V), σ = [some (.ref a), some (.ref o), some (.int n), some (.str z), some (.ref d), some (.ref pf), some (.ref D5), some (.int (k : Int)), y8, y9, y10, y11] ∧ Same H4 H' ∧
        H' D5 = some (.lst (qrefs S)) ∧ QAt K H' S ∧ S.map (·.2) = Es.map (·.2) ∧ k ≤ F.length ∧ S.length ≤ i + k ∧ List.merge E F le3 = Es ++ List.merge (E.drop i) (F.drop k) le3)
      ⟨[], [], 0, _, _, _, _, rfl, s5, at5, (fun _ m => nomatch m), rfl, Nat.zero_le _, Nat.zero_le _, by simp⟩ (fun i σ H' _ hW => ?_) (fun i x σ Ha Hb hi hW y => ?_) (fun σ H6 hW => ?_)
    · obtain ⟨S, Es, k, y8, y9, y10, y11, rfl, sm, _⟩ := hW
      exact (sm4.trans sm).seq hO
    · obtain ⟨S, Es, k, y8, y9, y10, y11, rfl, sm, atD, qS, eS, kF, lS, mS⟩ := hW
      obtain ⟨rfl, hx⟩ := y
      obtain ⟨r1, hr1, rm1, rfl⟩ := qrefs_at hx
      rw [ql, rlen] at hi
      have he : E[i]? = some E[i] := List.getElem?_eq_getElem hi
      obtain ⟨t, ht, st, hst, ee⟩ := oin E[i] (List.getElem_mem hi)
      have h3 : E[i].2 = r1.2 := by
        have h2 : (R.map (·.2))[i]? = some r1.2 := by rw [List.getElem?_map, hr1]; rfl
        rw [re, List.getElem?_map, he] at h2
        exact Option.some.inj h2
      rw [List.drop_eq_getElem_cons hi] at mS
      generalize E[i] = e at mS ee h3
      subst ee
      have h4 : t.1 = r1.2.1 := congrArg Prod.fst h3
      have h5 : (st : Int) = r1.2.2 := congrArg Prod.snd h3
      have q1 := same_tup (sm4.trans sm) (hR r1 rm1)
      rw [← h4, ← h5] at q1
      have dg : DGet Hb d (.int t.1) (some (.str t.2)) := by
        have := DGet.k (k := .inl t.1) (sm _ _ hd4)
        rw [tv, tl ht] at this
        exact this
      have t40 := tl40 ht
      refine ⟨_, _, rfl, q1, rfl, _, _, rfl, _, _, rfl, rfl, ?_⟩
      refine ⟨_, rfl, _, rfl, d, _, rfl, dg, _, rfl, st, rfl, t.2, rfl, Nat.le_trans t40 (by decide), _, rfl, _, rfl, (by show 3 ≤ sizeLine; decide), fun u nu => ?_⟩
      have su := same_new (o := .tup [.str (cutS t.2 (some (st : Int)) none), .int t.1, .int (st : Int)]) nu
      have du : (upd Hb u (.tup [.str (cutS t.2 (some (st : Int)) none), .int t.1, .int (st : Int)])) u = some (.tup [.str (suf t.2 st), .int t.1, .int (st : Int)]) := upd_same
      have dE : ∀ {H' : Hp}, H' u = some (.tup [.str (suf t.2 st), .int t.1, .int (st : Int)]) → Dp K H' (.ref u) (eFlat (suf t.2 st, t.1, (st : Int))) := fun h => .tup (.inl (.inl h)) (.cons (.str _) (.cons (.int _) (.cons (.int _) .nil)))
      have smu := sm.trans su
      have atu := su _ _ atD
      have qSu := qS.same su
      generalize upd Hb u (.tup [.str (cutS t.2 (some (st : Int)) none), .int t.1, .int (st : Int)]) = Hu at su du smu atu qSu ⊢
      -- those that come ahead of it
      refine while_i (fun m σ H' => ∃ (S : QT) (Es : List E3) (k : Nat), m = F.length - k ∧ σ = [some (.ref a), some (.ref o), some (.int n), some (.str z), some (.ref d), some (.ref pf), some (.ref D5), some (.int (k : Int)), some (.int t.1), some (.int (st : Int)), some (.ref u), y11] ∧ Same H4 H' ∧ H' u = some (.tup [.str (suf t.2 st), .int t.1, .int (st : Int)]) ∧
          H' D5 = some (.lst (qrefs S)) ∧ QAt K H' S ∧ S.map (·.2) = Es.map (·.2) ∧ k ≤ F.length ∧ S.length ≤ i + k ∧ List.merge E F le3 = Es ++ List.merge ((suf t.2 st, t.1, (st : Int)) :: E.drop (i + 1)) (F.drop k) le3)
        ⟨S, Es, k, rfl, rfl, smu, du, atu, qSu, eS, kF, lS, mS⟩ (fun m σ H' hW => ?_) (fun σ H Q Q' m h => ?_)
      · obtain ⟨S, Es, k, rfl, rfl, sm, du, atD, qS, eS, kF, lS, mS⟩ := hW
        -- the end itself
        have fin : List.merge ((suf t.2 st, t.1, (st : Int)) :: E.drop (i + 1)) (F.drop k) le3 = (suf t.2 st, t.1, (st : Int)) :: List.merge (E.drop (i + 1)) (F.drop k) le3 →
            ∀ v, H' v = none → ∃ (S' : QT) (Es' : List E3) (k' : Nat), Same H4 (upd (upd H' v (.tup [.int t.1, .int (st : Int)])) D5 (.lst (qrefs S ++ [.ref v]))) ∧ (upd (upd H' v (.tup [.int t.1, .int (st : Int)])) D5 (.lst (qrefs S ++ [.ref v]))) D5 = some (.lst (qrefs S')) ∧ QAt K (upd (upd H' v (.tup [.int t.1, .int (st : Int)])) D5 (.lst (qrefs S ++ [.ref v]))) S' ∧
              S'.map (·.2) = Es'.map (·.2) ∧ k = k' ∧ S'.length ≤ i + 1 + k' ∧ List.merge E F le3 = Es' ++ List.merge (E.drop (i + 1)) (F.drop k') le3 := fun em v nv => by
          have sv := same_new (o := .tup [.int t.1, .int (st : Int)]) nv
          refine ⟨S ++ [(v, t.1, (st : Int))], Es ++ [(suf t.2 st, t.1, (st : Int))], k, same_mut (sm.trans sv) nD5, ?_, ?_, ?_, rfl, ?_, ?_⟩
          · rw [upd_same]; unfold qrefs; rw [List.map_append]; rfl
          · refine QAt.put (l := qrefs S) (fun y hy => ?_) (sv _ _ atD)
            rcases List.mem_append.mp hy with m | m
            · exact same_tup sv (qS y m)
            · rw [List.mem_singleton.mp m]
              exact .inl (.inl upd_same)
          · rw [List.map_append, List.map_append, eS]
            rfl
          · rw [List.length_append]
            show S.length + 1 ≤ _
            omega
          · rw [mS, em, List.append_assoc]
            rfl
        refine ⟨_, rfl, _, rfl, pf, _, rfl, .inl (SqL.of (sm _ _ atf)), _, _, rfl, rfl, _, rfl, ?_⟩
        rw [yl]
        refine ite2 (fun e => ?_) (fun e => iteF ?_)
        · have hk : k < F.length := by have := of_decide_eq_true e; omega
          obtain ⟨y, f, hy, ym, hf, yf2, ha⟩ := fr hk
          have dY : Dp K H' (.ref y.1) (eFlat f) := by
            rw [← yf2]
            exact .tup (.inl (.inl (sm _ _ (za4 y ym)))) (.cons (.str _) (.cons (.int _) (.cons (.int _) .nil)))
          have dk : F.drop k = f :: F.drop (k + 1) := by
            rw [List.drop_eq_getElem_cons hk]
            rw [List.getElem?_eq_getElem hk] at hf
            rw [Option.some.inj hf]
          refine ⟨_, rfl, _, rfl, pf, _, _, _, rfl, rfl, SqL.of (sm _ _ atf), ha, _, rfl, _, _, dY, dE du, (by simp [eFlat, PySem.W.alike, PySem.W.alikeAll]), (fun c => by cases c), flat_deep _, _, rfl, ?_⟩
          rw [flat_lt]
          refine ite2 (fun e2 => ?_) (fun e2 => ?_)
          · have lt := of_decide_eq_true e2
            rw [dk, mrg_lt lt] at mS
            refine ⟨_, rfl, .inl ⟨rfl, _, SqL.of atD⟩, _, rfl, _, rfl, pf, _, _, _, rfl, rfl, SqL.of (sm _ _ atf), ha, 1, rfl, y.1, _, rfl, .inl (.inl (sm _ _ (za4 y ym))), (fun c => absurd c.1 (by show ¬ min 1 3 = 0; decide)), fun v nv => ?_⟩
            rw [cut_1]
            have sv := same_new (o := .tup [.int y.2.2.1, .int y.2.2.2]) nv
            refine ⟨D5, _, _, rfl, rfl, sv _ _ atD, shp atD (by omega), ?_⟩
            refine ⟨_, rfl, _, _, rfl, rfl, F.length - (k + 1), by omega, S ++ [(v, y.2.2.1, y.2.2.2)], Es ++ [f], k + 1, rfl, rfl, same_mut (sm.trans sv) nD5, ?_, ?_, ?_, ?_, by omega, ?_, ?_⟩
            · rw [upd_ne (fun c => by rw [c, atD] at du; cases du)]
              exact sv _ _ du
            · rw [upd_same]; unfold qrefs; rw [List.map_append]; rfl
            · refine QAt.put (l := qrefs S) (fun y hy => ?_) (sv _ _ atD)
              rcases List.mem_append.mp hy with m | m
              · exact same_tup sv (qS y m)
              · rw [List.mem_singleton.mp m]
                exact .inl (.inl upd_same)
            · rw [List.map_append, List.map_append, eS, ← yf2]
              rfl
            · rw [List.length_append]
              show S.length + 1 ≤ _
              omega
            · rw [mS, List.append_assoc]
              rfl
          · have nlt : ¬ lex3 f (suf t.2 st, t.1, (st : Int)) := fun c => e2 (decide_eq_true c)
            refine ⟨_, rfl, .inl ⟨rfl, _, SqL.of atD⟩, _, rfl, _, rfl, (by show 2 ≤ sizeLine; decide), fun v nv => ?_⟩
            obtain ⟨S', Es', k', g1, g2, g3, g4, rfl, g6, g7⟩ := fin (by rw [dk, mrg_ge nlt]) v nv
            exact ⟨D5, _, _, rfl, rfl, (same_new nv) _ _ atD, shp atD (by omega), S', Es', k, _, _, _, _, rfl, g1, g2, g3, g4, kF, g6, g7⟩
        · have hk : F.length ≤ k := by
            have : ¬ (k : Int) < (Y.length : Int) := fun c => e (decide_eq_true c)
            omega
          have dk : F.drop k = [] := List.drop_eq_nil_of_le hk
          refine ⟨_, rfl, .inl ⟨rfl, _, SqL.of atD⟩, _, rfl, _, rfl, (by show 2 ≤ sizeLine; decide), fun v nv => ?_⟩
          obtain ⟨S', Es', k', g1, g2, g3, g4, rfl, g6, g7⟩ := fin (by rw [dk, mrg_nil]) v nv
          exact ⟨D5, _, _, rfl, rfl, (same_new nv) _ _ atD, shp atD (by omega), S', Es', k, _, _, _, _, rfl, g1, g2, g3, g4, kF, g6, g7⟩
      · obtain ⟨v1, hv1, v2, hv2, p, xs, e1, hs, i, j, e2, e3, k, hk, r⟩ := h
        refine ⟨v1, hv1, v2, hv2, p, xs, e1, hs, i, j, e2, e3, k, hk, ?_⟩
        cases k with
        | false => exact m _ _ r
        | true =>
          obtain ⟨v3, hv3, v4, hv4, p2, items, i2, v5, e4, e5, h5, h6, v7, hv7, d1, d2, D1, D2, al, nn, dp, k2, hk2, r2⟩ := r
          exact ⟨v3, hv3, v4, hv4, p2, items, i2, v5, e4, e5, h5, h6, v7, hv7, d1, d2, D1, D2, al, nn, dp, k2, hk2, m _ _ r2⟩
    · obtain ⟨S, Es, k, y8, y9, y10, y11, rfl, sm, atD, qS, eS, kF, lS, mS⟩ := hW
      rw [List.drop_eq_nil_of_le (by rw [ql, rlen]; exact Nat.le_refl _), List.nil_merge, mrg] at mS
      have smH := sm4.trans sm
      refine ⟨_, rfl, _, rfl, _, rfl, k, rfl, pf, _, rfl, SqL.of (sm _ _ atf), fun p2 np2 => ?_⟩
      rw [Dct.cut_from]
      have s7 := same_new (o := .lst ((frefs Y).drop k)) np2
      have at7 : (upd H6 p2 (.lst ((frefs Y).drop k))) p2 = some (.lst ((frefs Y).drop k)) := upd_same
      have atD7 := s7 _ _ atD
      have qS7 := qS.same s7
      have sm7 := sm.trans s7
      generalize upd H6 p2 (.lst ((frefs Y).drop k)) = H7 at s7 at7 atD7 qS7 sm7 ⊢
      refine ⟨p2, rfl, ⟨_, SqL.of at7⟩, fun D8 nD8 => ?_⟩
      have dl : ((frefs Y).drop k).length = F.length - k := by rw [List.length_drop, yl, yf, fl]
      refine lc_w (walk_list (xs := (frefs Y).drop k)) nD8 (by omega) (fun H' e => SqL.of (e _ _ at7)) (fun i acc H' => ∃ S2 : QT, acc = qrefs S2 ∧ QAt K H' S2 ∧ S2.map (·.2) = ((F.drop k).take i).map (·.2)) (fun _ _ => ⟨[], rfl, (fun _ m => nomatch m), by simp⟩)
        (fun i acc Ha Hb l hD e r => by obtain ⟨S2, r1, r2, r3⟩ := r; exact ⟨S2, r1, fun z m => but_tup hD e (r2 z m), r3⟩) (fun i H x H' y => by rw [y.1]; exact Same.refl _) (fun i x acc Ha Hb Qn Qf hi sm2 y r at_ kn kf => ?_) (fun acc H8 sm8 at8 _ r => ?_)
      · obtain ⟨rfl, hx⟩ := y
        obtain ⟨S2, rfl, r2, r3⟩ := r
        rw [dl] at hi
        obtain ⟨y, f, hy, ym, hf, yf2, ha⟩ := fr (k := k + i) (by omega)
        obtain rfl : V.ref y.1 = x := by
          rw [List.getElem?_drop] at hx
          unfold frefs at hx
          rw [List.getElem?_map, hy] at hx
          exact Option.some.inj hx
        refine ⟨rfl, _, rfl, 1, rfl, y.1, _, rfl, .inl (.inl (sm2 _ _ (sm7 _ _ (za4 y ym)))), (fun c => absurd c.1 (by show ¬ min 1 3 = 0; decide)), fun v nv => ?_⟩
        rw [cut_1]
        have sv := same_new (o := .tup [.int y.2.2.1, .int y.2.2.2]) nv
        refine kn _ _ sv ⟨S2 ++ [(v, y.2.2.1, y.2.2.2)], ?_, fun w hw => ?_, ?_⟩
        · unfold qrefs; rw [List.map_append]; rfl
        · rcases List.mem_append.mp hw with m | m
          · exact same_tup sv (r2 w m)
          · rw [List.mem_singleton.mp m]
            exact .inl (.inl upd_same)
        · have h2 : (F.drop k)[i]? = some f := by rw [List.getElem?_drop]; exact hf
          rw [List.map_append, r3, take_snoc h2, List.map_append, ← yf2]
          rfl
      · obtain ⟨S2, rfl, r2, r3⟩ := r
        rw [List.take_of_length_le (by rw [List.length_drop, dl]; exact Nat.le_refl _)] at r3
        have atD8 := sm8 _ _ atD7
        have l2 : S2.length ≤ 60000 := by
          have := congrArg List.length r3
          rw [List.length_map, List.length_map, List.length_drop] at this
          omega
        have lS2 : S.length ≤ 60000 := by rw [ql, rlen] at lS; omega
        refine ⟨D5, D8, _, _, rfl, rfl, atD8, at8, ?_, fun l nl => ?_⟩
        · rw [qrefs_len, qrefs_len]
          exact Nat.le_trans (by omega : _ ≤ 120000) (by decide)
        · have sl := same_new (o := .lst (qrefs S ++ qrefs S2)) nl
          have smF := (sm4.trans (sm7.trans sm8))
          refine q l (S ++ S2) _ (smF.trans sl) (smF.free nl) ?_ (fun w hw => ?_) ?_
          · rw [upd_same]; unfold qrefs; rw [List.map_append]
          · rcases List.mem_append.mp hw with m | m
            · exact same_tup (sm8.trans sl) (qS7 w m)
            · exact same_tup sl (r2 w m)
          · rw [List.map_append, eS, r3, mS, List.map_append]
end

end SH
set_option Elab.async false
set_option linter.all false
set_option maxRecDepth 100000
set_option maxHeartbeats 4000000
namespace SH
open PySem PySem.Spec PyProof.Rows L2
section
variable {P : Program} {w : World} {K : PySem.W.Frag} {mg : Str → Option Value} {base : Heap} {ea : Ea}
/-- the order of the house without a text -/
def spOrdWithout (K : PySem.W.Frag) (ea : Ea) : Sp := fun vs H Q E => ∃ (a o : Addr) (L : PL) (n : Int) (R : QT), vs = [.ref a, .ref o, .int n] ∧ HsAt K H a L ∧ L.length ≤ 500 ∧ ((L.map (·.2)).map (·.1)).Pairwise (· < ·) ∧ (∀ q ∈ L, q.2.2.length ≤ 100) ∧ Small n ∧
  SqL K H o (qrefs R) ∧ QAt K H R ∧ R.map (·.2) = (ordE (L.map (·.2))).map (·.2) ∧ (n ∉ L.map (fun q => q.2.1) → Errs E H ea.c_NoText n) ∧
  (n ∈ L.map (fun q => q.2.1) → ∀ (l : Addr) (R' : QT) (H' : Hp), Same H H' → H l = none → H' l = some (.lst (qrefs R')) → QAt K H' R' → R'.map (·.2) = (ordE ((L.map (·.2)).filter fun q => decide (q.1 ≠ n))).map (·.2) → Q (.ref l) H')
theorem sc_order_without : FnScope ["house", "order", "number", "texts", "other", "start"] ["house", "order", "number"] (defScope s_order_without) := ⟨rfl, rfl, rfl, by decide +kernel, rfl, by decide +kernel, by decide +kernel⟩
theorem ok_order_without (T : Txt K mg ea) (c_without_text : ClX P w K mg base 3 "without_text" (spWithout K ea)) : ClX P w K mg base 4 "order_without" (spOrdWithout K ea) := by
  have nd := sc_order_without.nd
  refine clx_of T.d_order_without sc_order_without (fun vs H Q E h => ?_) (fun f cdv A outer s H vs Q E0 hr h => ?_)
  · obtain ⟨a, o, L, n, R, rfl, _⟩ := h
    rfl
  · obtain ⟨a, o, L, n, R, rfl, hA, hl, asc, hz, hs, hO, hR, re, x1, q⟩ := h
    refine ⟨_, (pss_cons (ps_set (i := 3) nd rfl (.inr rfl) (pe_callTy (call_dictP rfl) (by rfl) T.b_dict (by decide +kernel) (pa_cons (pe_cx c_without_text hr (by decide) (fun σ => passAt (takes_of rfl rfl rfl rfl) σ) (by rfl) (pa_cons (pv 0) (pa_cons (pv 2) pa_nil))) pa_nil)))
      (pss_one (ps_ret (pe_lc (own := [("other", 4), ("start", 5)]) (g := (gTup K 2 (gCons (gName 4) (gCons (gName 5) gNil)))) rfl nd (pi_listK (K := K) (pv 1)) (blkOk_by (own := [("other", 4), ("start", 5)]) (N := ["house", "order", "number", "texts", "other", "start"]) (sc := defScope s_order_without) (by decide +kernel)) (fun _ _ _ _ _ => (pg_tup rfl (pgs_cons (pg_name (i := 4) nd rfl (.inl rfl)) (pgs_cons (pg_name (i := 5) nd rfl (.inl rfl)) pgs_nil)))) (fun _ _ _ _ _ => pts_one (pt_cmp (pc_din (hu_of hr) (pv 4) (pv 3)))) (fun _ _ _ _ _ => (pe_tup (pa_cons (pv 4) (pa_cons (pv 5) pa_nil)))))))), ?_⟩
    refine ⟨_, rfl, _, rfl, a, L, n, rfl, hA, by omega, hs, x1, fun c1 p L' H1 s1 np at1 hp he => ?_⟩
    have q := q c1
    have eps : refs L' = (L'.map (·.1)).map V.ref := by rw [List.map_map]; rfl
    have asc' : ((L'.map (·.2)).map (·.1)).Pairwise (· < ·) := by rw [he]; exact (List.pairwise_map.mpr ((List.pairwise_map.mp asc).filter _))
    refine ⟨p, L'.map (fun q : Addr × Int × Str => q.1), L'.map fun q : Addr × Int × Str => ((Sum.inl q.2.1 : Key), V.str q.2.2), rfl, by rw [← eps]; exact SqL.of at1, Dct.paired_house hp, fun d nd1 => ?_⟩
    have s2 := same_new (o := .dK (mergeK [] (L'.map fun q => ((Sum.inl q.2.1 : Key), V.str q.2.2)))) nd1
    have hd : (upd H1 d (.dK (mergeK [] (L'.map fun q => ((Sum.inl q.2.1 : Key), V.str q.2.2))))) d = some (.dK (mergeK [] (L'.map fun q => ((Sum.inl q.2.1 : Key), V.str q.2.2)))) := upd_same
    have tv : ∀ n, valV (mergeK [] (L'.map fun q => ((Sum.inl q.2.1 : Key), V.str q.2.2))) (.inl n) = (lk n (L'.map (·.2))).map V.str := lk_val asc'
    generalize mergeK [] (L'.map fun q => ((Sum.inl q.2.1 : Key), V.str q.2.2)) = kvs at s2 hd tv ⊢
    have sm2 := s1.trans s2
    generalize upd H1 d (.dK kvs) = H2 at s2 sm2 hd ⊢
    have ql := qrefs_len R
    have rlen : R.length = (ordE (L.map (·.2))).length := by
      have e := congrArg List.length re
      rwa [List.length_map, List.length_map] at e
    have el : (ordE (L.map (·.2))).length ≤ 50500 := by
      refine Nat.le_trans (ordE_len (m := 100) fun q hq => ?_) (by rw [List.length_map]; omega)
      obtain ⟨z, hz2, rfl⟩ := List.mem_map.mp hq
      exact hz z hz2
    have oin : ∀ e ∈ ordE (L.map (·.2)), ∃ t ∈ L.map (·.2), ∃ st : Nat, st ≤ t.2.length ∧ e = (suf t.2 st, t.1, (st : Int)) := fun e he => mem_ends3.mp (mem_ordE.mp he)
    have ef := ordE_filter (h := L.map (·.2)) n
    have efP : ((ordE (L.map (·.2))).map (·.2)).filter (fun p => decide (p.1 ≠ n)) = (ordE ((L.map (·.2)).filter fun q => decide (q.1 ≠ n))).map (·.2) := by
      rw [← ef, List.filter_map]
      rfl
    generalize ordE (L.map (·.2)) = E at *
    refine ⟨_, rfl, o, rfl, ⟨_, sm2.seq hO⟩, fun D nD => ?_⟩
    refine lc_w (walk_list (xs := qrefs R)) nD (by omega) (fun H' e => e.seq (sm2.seq hO)) (fun i acc H' => ∃ S : QT, acc = qrefs S ∧ QAt K H' S ∧ S.map (·.2) = ((R.map (·.2)).take i).filter fun p => decide (p.1 ≠ n)) (fun _ _ => ⟨[], rfl, (fun _ m => nomatch m), by simp⟩)
      (fun i acc Ha Hb l hD e r => by obtain ⟨S2, r1, r2, r3⟩ := r; exact ⟨S2, r1, fun z m => but_tup hD e (r2 z m), r3⟩) (fun i H x H' y => by rw [y.1]; exact Same.refl _) (fun i x acc Ha Hb Qn Qf hi sm y r at_ kn kf => ?_) (fun acc H3 sm at_ _ r => ?_)
    · obtain ⟨rfl, hx⟩ := y
      obtain ⟨S, rfl, r2, r3⟩ := r
      obtain ⟨r1, hr1, rm1, rfl⟩ := qrefs_at hx
      rw [ql, rlen] at hi
      have h2 : (R.map (·.2))[i]? = some r1.2 := by rw [List.getElem?_map, hr1]; rfl
      obtain ⟨t, ht, st, hst, ee⟩ := oin E[i] (List.getElem_mem hi)
      have h3 : E[i].2 = r1.2 := by
        have h2 := h2
        rw [re, List.getElem?_map, List.getElem?_eq_getElem hi] at h2
        exact Option.some.inj h2
      have h4 : t.1 = r1.2.1 := by rw [← h3, ee]
      have q1 := same_tup (sm2.trans sm) (hR r1 rm1)
      have dg : DGet Hb d (.int r1.2.1) ((lk r1.2.1 (L'.map (·.2))).map V.str) := by
        have := DGet.k (k := .inl r1.2.1) (sm _ _ hd)
        rw [tv] at this
        exact this
      have tk := take_snoc h2
      refine ⟨_, _, rfl, q1, rfl, _, _, rfl, _, _, rfl, rfl, rfl, ?_⟩
      refine ⟨_, rfl, _, rfl, d, _, rfl, dg, _, rfl, ?_⟩
      by_cases c : r1.2.1 ≠ n
      · have : lk r1.2.1 (L'.map (·.2)) = some t.2 := lk_of asc' (by rw [he, ← h4]; exact List.mem_filter.mpr ⟨ht, by rw [h4]; exact decide_eq_true c⟩)
        rw [this]
        refine iteT ⟨_, rfl, _, rfl, (by show 2 ≤ sizeLine; decide), fun v nv => ?_⟩
        have sv := same_new (o := .tup [.int r1.2.1, .int r1.2.2]) nv
        refine kn _ _ sv ⟨S ++ [(v, r1.2.1, r1.2.2)], ?_, fun w hw => ?_, ?_⟩
        · unfold qrefs; rw [List.map_append]; rfl
        · rcases List.mem_append.mp hw with m | m
          · exact same_tup sv (r2 w m)
          · rw [List.mem_singleton.mp m]
            exact .inl (.inl upd_same)
        · rw [List.map_append, r3, tk, List.filter_append, List.filter_cons_of_pos (by simpa using c)]
          rfl
      · have : lk r1.2.1 (L'.map (·.2)) = none := lk_no fun m => by
          rw [he] at m
          obtain ⟨y, hy, e2⟩ := List.mem_map.mp m
          have := of_decide_eq_true (List.mem_filter.mp hy).2
          rw [e2] at this
          exact c this
        rw [this]
        refine iteF (kf _ (Same.refl _) ⟨S, rfl, r2, ?_⟩)
        rw [r3, tk, List.filter_append, List.filter_cons_of_neg (by simpa using c), List.filter_nil, List.append_nil]
    · obtain ⟨S, rfl, r2, r3⟩ := r
      rw [List.take_of_length_le (by rw [List.length_map, ql]; exact Nat.le_refl _), re, efP] at r3
      exact q D S H3 (sm2.trans sm) (sm2.free nD) at_ r2 r3
end

end SH
set_option Elab.async false
set_option linter.all false
set_option maxRecDepth 100000
set_option maxHeartbeats 4000000
namespace SH
open PySem PySem.Spec PyProof.Rows L2
section
variable {P : Program} {w : World} {K : PySem.W.Frag} {mg : Str → Option Value} {base : Heap} {ea : Ea}
/-- the ends in order, with their letters: a new list -/
def spLEnds (K : PySem.W.Frag) : Sp := fun vs H Q _ => ∃ (a : Addr) (L : PL), vs = [.ref a] ∧ HsAt K H a L ∧ L.length ≤ 500 ∧ (∀ q ∈ L, q.2.2.length ≤ 100) ∧
  ∀ (l : Addr) (Z : NT3) (H' : Hp), Same H H' → H l = none → H' l = some (.lst (nrefs Z)) → NAt H' Z → Z.map (·.2.2) = ordE (L.map (·.2)) → Q (.ref l) H'
theorem sc__law_ends : FnScope ["house", "found", "number", "text", "start"] ["house"] (defScope s__law_ends) := ⟨rfl, rfl, rfl, by decide +kernel, rfl, by decide +kernel, by decide +kernel⟩
theorem ok__law_ends (T : Txt K mg ea) : Cl P w K mg base 1 "_law_ends" (spLEnds K) := by
  have nd := sc__law_ends.nd
  refine cl_of T.d__law_ends sc__law_ends (fun vs H Q E h => ?_) (fun f cdv A outer s H vs Q E hr h => ?_)
  · obtain ⟨a, L, rfl, _⟩ := h
    rfl
  · obtain ⟨a, L, rfl, hA, hl, hz, q⟩ := h
    refine ⟨_, (pss_cons (ps_set (i := 1) nd rfl (.inl rfl) (pe_lst pa_nil))
      (pss_cons (ps_for PassesOwn.never rfl (pi_listK (K := K) (pv 0)) (pg_tup rfl (pgs_cons (pg_name (i := 2) nd rfl (.inl rfl)) (pgs_cons (pg_name (i := 3) nd rfl (.inl rfl)) pgs_nil)))
        (pss_one (ps_for PassesOwn.never rfl (pi_range1 rfl T.b_range (pa_cons (pe_op op_add (pe_callB call_len_str (by rfl) T.b_len PySem.boot_len (pa_cons (pv 3) pa_nil)) pe_int) pa_nil)) (pg_name (i := 4) nd rfl (.inl rfl))
            (pss_one (ps_expr (pe_bm PySem.F.plainAttrs_list PySem.F.slot_list_append PySem.F.type_list_append mt_append (pv 1) (pa_cons (pe_tup (pa_cons (pe_slice sl_str (pv 3) (po_some (pv 4)) po_none) (pa_cons (pe_tup (pa_cons (pv 2) (pa_cons (pv 4) pa_nil))) pa_nil))) pa_nil)))))))
      (pss_one (ps_ret (pe_callB (cr_sortDK (K := K) hr.units) (by rfl) T.b_sorted (by decide +kernel) (pa_cons (pv 1) pa_nil)))))), ?_⟩
    have rl : (refs L).length = L.length := List.length_map ..
    have ml : (L.map (·.2)).length = L.length := List.length_map ..
    have big : ∀ h : List (Int × Str), h.length ≤ 500 → (∀ q ∈ h, q.2.length ≤ 100) → (ends3 h).length ≤ 50500 := fun h h1 h2 => Nat.le_trans (ends3_len h2) (by omega)
    refine ⟨Nat.zero_le _, fun D nD => ?_⟩
    have sm0 : Same H (upd H D (.lst [])) := same_new nD
    refine ⟨_, rfl, a, rfl, ⟨_, sm0.seq hA.1⟩, ?_⟩
    refine for_it (walk_list (K := K) (a := a) (xs := refs L)) (fun i σ H' => ∃ (Z : NT3) (y2 y3 y4 : Option V), σ = [some (.ref a), some (.ref D), y2, y3, y4] ∧ Same H H' ∧ H' D = some (.lst (nrefs Z)) ∧ NAt H' Z ∧ Z.map (·.2.2) = ends3 ((L.map (·.2)).take i))
      ⟨[], none, none, none, rfl, sm0, upd_same, (fun z m => nomatch m), rfl⟩ (fun i σ H' _ hW => ?_) (fun i x σ H1 H2 hi hW y => ?_) (fun σ H1 hW => ?_)
    · obtain ⟨Z, y2, y3, y4, rfl, sm, _⟩ := hW
      exact sm.seq hA.1
    · obtain ⟨Z, y2, y3, y4, rfl, sm, at_, za, ze⟩ := hW
      obtain ⟨rfl, hx⟩ := y
      obtain ⟨t, ht, tm, rfl⟩ := refs_get hx
      have tl := hz t tm
      have ht2 : (L.map (·.2))[i]? = some t.2 := by rw [List.getElem?_map, ht]; rfl
      have tk := take_snoc ht2
      refine ⟨_, _, rfl, same_tup sm (hA.2 t tm), rfl, _, _, rfl, _, _, rfl, rfl, ?_⟩
      refine ⟨_, rfl, t.2.2, rfl, Nat.le_trans tl (by decide), _, _, rfl, rfl, _, rfl, by omega, by omega, ?_⟩
      refine for_range (lo := 0) (n := ((t.2.2.length : Int) + 1).toNat) (fun j σ H' => ∃ (Z : NT3) (y4 : Option V), σ = [some (.ref a), some (.ref D), some (.int t.2.1), some (.str t.2.2), y4] ∧ Same H H' ∧ H' D = some (.lst (nrefs Z)) ∧ NAt H' Z ∧ Z.map (·.2.2) = ends3 ((L.map (·.2)).take i) ++ (endsOf t.2).take j)
        ⟨Z, y4, rfl, sm, at_, za, by rw [ze]; simp⟩ (fun j σ H2 hj hW => ?_) (fun σ H1 hW => ?_)
      · obtain ⟨Z, y4, rfl, sm, at_, za, ze⟩ := hW
        have e0 : (0 : Int) + (j : Int) = (j : Int) := Int.zero_add _
        rw [e0]
        refine ⟨_, rfl, .inl ⟨rfl, _, SqL.of at_⟩, _, rfl, _, rfl, _, rfl, t.2.2, rfl, Nat.le_trans tl (by decide), _, rfl, _, rfl, (by show 2 ≤ sizeLine; decide), fun u nu => ⟨(by show 2 ≤ sizeLine; decide), fun v nv => ?_⟩⟩
        have s2 := same_new (o := .tup [.int t.2.1, .int (j : Int)]) nu
        have s3 := same_new (o := .tup [.str (suf t.2.2 j), .ref u]) nv
        have at2 := s3 _ _ (s2 _ _ at_)
        have zl : Z.length ≤ 50500 := by
          have e := congrArg List.length ze
          rw [List.length_map, List.length_append] at e
          have b1 := List.length_take_le' j (endsOf t.2)
          rw [endsOf_len] at b1
          have b2 : (ends3 ((L.map (·.2)).take (i + 1))).length ≤ 50500 := big _ (by have := List.length_take_le' (i + 1) (L.map (·.2)); omega) fun q hq => by
            obtain ⟨z, hz2, rfl⟩ := List.mem_map.mp (List.mem_of_mem_take hq)
            exact hz z hz2
          rw [tk, ends3_snoc, List.length_append, endsOf_len] at b2
          omega
        refine ⟨D, _, _, rfl, rfl, at2, ?_, Z ++ [(v, u, suf t.2.2 j, t.2.1, (j : Int))], _, rfl, same_mut ((sm.trans s2).trans s3) nD, ?_, ?_, ?_⟩
        · show (List.map _ Z).length < _
          rw [List.length_map]
          exact Nat.lt_of_le_of_lt zl (by decide)
        · rw [upd_same]
          show _ = some (HO.lst (List.map _ _))
          rw [List.map_append]
          rfl
        · refine NAt.put (l := nrefs Z) ?_ at2
          exact ((za.same s2).same s3).snoc ⟨upd_same, s3 _ _ upd_same⟩
        · rw [List.map_append, ze, take_snoc (endsOf_at (q := t.2) (s := j) (by omega)), List.append_assoc]
          rfl
      · obtain ⟨Z, y4, rfl, sm, at_, za, ze⟩ := hW
        refine ⟨Z, _, _, _, rfl, sm, at_, za, ?_⟩
        rw [ze, tk, ends3_snoc, List.take_of_length_le (l := endsOf t.2) (by rw [endsOf_len]; omega)]
    · obtain ⟨Z, y2, y3, y4, rfl, sm', at_, za, ze⟩ := hW
      rw [List.take_of_length_le (by omega)] at ze
      refine ⟨_, rfl, E3, eNest, D, Z.map fun z => (V.ref z.1, z.2.2), rfl, ?_, ?_, ?_, ?_, fun z _ => nest_deep z.2, fun p np => ?_⟩
      · rw [List.map_map]
        exact SqL.of at_
      · intro z hz2
        obtain ⟨y, hy, rfl⟩ := List.mem_map.mp hz2
        exact .tup (.inl (.inl (za y hy).1)) (.cons (.str _) (.cons (.tup (.inl (.inl (za y hy).2)) (.cons (.int _) (.cons (.int _) .nil))) .nil))
      · rw [List.map_map]
        exact nest_alike (fun z : Addr × Addr × E3 => z.2.2) Z
      · rw [List.map_map]
        exact nest_able (fun z : Addr × Addr × E3 => z.2.2) Z
      · rw [sort_nest]
        have s2 := same_new (o := .lst (nrefs (Z.mergeSort fun p q => le3 p.2.2 q.2.2))) np
        refine q p (Z.mergeSort fun p q => le3 p.2.2 q.2.2) _ (sm'.trans s2) (sm'.free np) upd_same (fun z m => (za.same s2) z (List.mem_mergeSort.mp m)) ?_
        rw [sort3_map (fun z : Addr × Addr × E3 => z.2.2), ze]
        rfl
end

section
variable {P : Program} {w : World} {K : PySem.W.Frag} {mg : Str → Option Value} {base : Heap} {ea : Ea}
theorem sc__law_order : FnScope ["house", "letters", "end"] ["house"] (defScope s__law_order) := ⟨rfl, rfl, rfl, by decide +kernel, rfl, by decide +kernel, by decide +kernel⟩
theorem ok__law_order (T : Txt K mg ea) (c__law_ends : Cl P w K mg base 1 "_law_ends" (spLEnds K)) : Cl P w K mg base 2 "_law_order" (spOrder K) := by
  have nd := sc__law_order.nd
  refine cl_of T.d__law_order sc__law_order (fun vs H Q E h => ?_) (fun f cdv A outer s H vs Q E hr h => ?_)
  · obtain ⟨a, L, rfl, _⟩ := h
    rfl
  · obtain ⟨a, L, rfl, hA, hl, hz, q⟩ := h
    refine ⟨_, (pss_one (ps_ret (pe_lc (own := [("letters", 1), ("end", 2)]) (g := (gTup K 2 (gCons (gName 1) (gCons (gName 2) gNil)))) rfl nd (pi_listK (K := K) (C8.pe_c c__law_ends hr (by decide) (by rfl) (pa_cons (pv 0) pa_nil))) (blkOk_by (own := [("letters", 1), ("end", 2)]) (N := ["house", "letters", "end"]) (sc := defScope s__law_order) (by decide +kernel)) (fun _ _ _ _ _ => (pg_tup rfl (pgs_cons (pg_name (i := 1) nd rfl (.inl rfl)) (pgs_cons (pg_name (i := 2) nd rfl (.inl rfl)) pgs_nil)))) (fun _ _ _ _ _ => pts_nil) (fun _ _ _ _ _ => (pv 2))))), ?_⟩
    refine ⟨_, rfl, a, L, rfl, hA, hl, hz, fun l Z H1 sm nl at_ za ze => ⟨l, rfl, ⟨_, SqL.of at_⟩, fun D nD => ?_⟩⟩
    have zl : (nrefs Z).length = Z.length := List.length_map ..
    have zl2 : Z.length ≤ 50500 := by
      have e := congrArg List.length ze
      rw [List.length_map] at e
      rw [e]
      refine Nat.le_trans (ordE_len (m := 100) fun q hq => ?_) (by rw [List.length_map]; omega)
      obtain ⟨z, hz2, rfl⟩ := List.mem_map.mp hq
      exact hz z hz2
    refine lc_w (walk_list (xs := nrefs Z)) nD (by omega) (fun H' e => SqL.of (e _ _ at_)) (fun i acc H' => acc = (Z.take i).map fun z => V.ref z.2.1) (fun _ _ => rfl) (fun _ _ _ _ _ _ _ r => r) (fun i H x H' y => by rw [y.1]; exact Same.refl _) (fun i x acc Ha Hb Qn Qf hi sm2 y r at2 kn kf => ?_) (fun acc Hb sm2 at2 _ r => ?_)
    · obtain ⟨rfl, hx⟩ := y
      obtain ⟨z, hz1, rfl⟩ : ∃ z, Z[i]? = some z ∧ x = .ref z.1 := by
        unfold nrefs at hx
        rw [List.getElem?_map] at hx
        cases e : Z[i]? with
        | none => rw [e] at hx; cases hx
        | some z => rw [e] at hx; cases hx; exact ⟨z, rfl, rfl⟩
      have zz := sm2 _ _ (za z (List.mem_of_getElem? hz1)).1
      refine ⟨_, _, rfl, .inl (.inl zz), rfl, _, _, rfl, _, _, rfl, rfl, rfl, ?_⟩
      refine ⟨_, rfl, kn _ _ (Same.refl _) ?_⟩
      rw [r, take_snoc hz1, List.map_append]
      rfl
    · rw [List.take_of_length_le (by omega)] at r
      refine q D (Z.map fun z => (z.2.1, z.2.2.2)) Hb (sm.trans sm2) (sm.free nD) ?_ (fun y hy => ?_) ?_
      · rw [at2, r]
        unfold qrefs
        rw [List.map_map]
        rfl
      · obtain ⟨z, hz1, rfl⟩ := List.mem_map.mp hy
        exact .inl (.inl (sm2 _ _ (za z hz1).2))
      · rw [List.map_map, ← ze, List.map_map]
        rfl
end

end SH
set_option Elab.async false
set_option linter.all false
set_option maxRecDepth 100000
set_option maxHeartbeats 4000000
namespace SH
open PySem PySem.Spec PyProof.Rows L2
section
variable {P : Program} {w : World} {K : PySem.W.Frag} {mg : Str → Option Value} {base : Heap} {ea : Ea}
def dueW (h : List (Int × Str)) (n : Int) (z : Str) : Str × PyData :=
  if ¬ (0 ≤ n ∧ n ≤ 99) then ("range", .int n) else if n ∈ h.map (·.1) then ("taken", .int n) else if isTxt z = false then ("text", .int n) else if 8 ≤ h.length then ("many", .int n) else ("order", dQ ((ordE (ins n z h)).map (·.2)))
theorem map_nums (L : PL) : (L.map (·.2)).map (·.1) = L.map fun q => q.2.1 := by rw [List.map_map]; rfl
theorem dueW_ok (h : List (Int × Str)) (n : Int) (z : Str) : SeqAt.shaped (dT (dueW h n z)) = true ∧ PyData.eqv (dT (dueW h n z)) (dT (dueW h n z)) = true := by
  have a1 : PyData.strOk ("range" : Str) = true := by decide +kernel
  have a2 : PyData.strOk ("taken" : Str) = true := by decide +kernel
  have a3 : PyData.strOk ("text" : Str) = true := by decide +kernel
  have a4 : PyData.strOk ("many" : Str) = true := by decide +kernel
  have a5 : PyData.strOk ("order" : Str) = true := by decide +kernel
  unfold dueW
  split
  · exact dT_ok a1 (okd_int _)
  · split
    · exact dT_ok a2 (okd_int _)
    · split
      · exact dT_ok a3 (okd_int _)
      · split
        · exact dT_ok a4 (okd_int _)
        · exact dT_ok a5 (okd_Q _)
/-- the order with a text more, told -/
def spLWith (K : PySem.W.Frag) : Sp := fun vs H Q _ => ∃ (a o : Addr) (L : PL) (n : Int) (z : Str) (R : QT), vs = [.ref a, .ref o, .int n, .str z] ∧ HsAt K H a L ∧ L.length ≤ 8 ∧ IsHs 40 (L.map (·.2)) ∧ Small n ∧ z.length ≤ 1000 ∧
  SqL K H o (qrefs R) ∧ QAt K H R ∧ R.map (·.2) = (ordE (L.map (·.2))).map (·.2) ∧ ∀ (v : V) (H' : Hp), Same H H' → Due K H' v (dueW (L.map (·.2)) n z) → Q v H'
theorem sc__law_with : FnScope ["house", "order", "number", "text", "e"] ["house", "order", "number", "text"] (defScope s__law_with) := ⟨rfl, rfl, rfl, by decide +kernel, rfl, by decide +kernel, by decide +kernel⟩
theorem ok__law_with (T : Txt K mg ea) (c_order_with : ClX P w K mg base 4 "order_with" (spOrdWith K ea)) : Cl P w K mg base 5 "_law_with" (spLWith K) := by
  have nd := sc__law_with.nd
  refine cl_of T.d__law_with sc__law_with (fun vs H Q E h => ?_) (fun f cdv A outer s H vs Q E hr h => ?_)
  · obtain ⟨a, o, L, n, z, R, rfl, _⟩ := h
    rfl
  · obtain ⟨a, o, L, n, z, R, rfl, hA, hl, hh, hs, hz, hO, hR, re, q⟩ := h
    refine ⟨_, (pss_one (ps_try_hds rfl rfl takes0 (fun W pn xe tk _ => (pss_one (ps_ret (pe_tup (pa_cons pe_str (pa_cons (pe_cx c_order_with hr (by decide) (fun σ => passAt tk σ) (by rfl) (pa_cons (pv 0) (pa_cons (pv 1) (pa_cons (pv 2) (pa_cons (pv 3) pa_nil))))) pa_nil))))))
        (HdsN.named ⟨rfl, by decide, Or.inl T.x_OutOfRange.g⟩ nd (i := 4) rfl rfl (fun a o c d l hz hf => (pss_one (ps_ret (pe_tup (pa_cons pe_str (pa_cons (pe_xf T.x_OutOfRange.f T.x_OutOfRange.no hz hf (pv 4)) pa_nil))))))
        (HdsN.named ⟨rfl, by decide, Or.inl T.x_TakenNumber.g⟩ nd (i := 4) rfl rfl (fun a o c d l hz hf => (pss_one (ps_ret (pe_tup (pa_cons pe_str (pa_cons (pe_xf T.x_TakenNumber.f T.x_TakenNumber.no hz hf (pv 4)) pa_nil))))))
        (HdsN.named ⟨rfl, by decide, Or.inl T.x_BadText.g⟩ nd (i := 4) rfl rfl (fun a o c d l hz hf => (pss_one (ps_ret (pe_tup (pa_cons pe_str (pa_cons (pe_xf T.x_BadText.f T.x_BadText.no hz hf (pv 4)) pa_nil))))))
        (HdsN.named ⟨rfl, by decide, Or.inl T.x_TooMany.g⟩ nd (i := 4) rfl rfl (fun a o c d l hz hf => (pss_one (ps_ret (pe_tup (pa_cons pe_str (pa_cons (pe_xf T.x_TooMany.f T.x_TooMany.no hz hf (pv 4)) pa_nil))))))
        HdsN.nil)))))), ?_⟩
    have hm := map_nums L
    have sz : 2 ≤ sizeLine := by decide
    have hd : dueW (L.map (·.2)) n z = if ¬ (0 ≤ n ∧ n ≤ 99) then (("range" : Str), PyData.int n) else if n ∈ L.map (fun q => q.2.1) then (("taken" : Str), PyData.int n) else if isTxt z = false then (("text" : Str), PyData.int n) else if 8 ≤ L.length then (("many" : Str), PyData.int n) else (("order" : Str), dQ ((ordE (ins n z (L.map (·.2)))).map (·.2))) := by
      unfold dueW
      rw [hm, List.length_map]
    have tell : ∀ (s : Str) (H2 : Hp) (t : Addr), Same H H2 → H2 t = none → dueW (L.map (·.2)) n z = (s, PyData.int n) → Q (.ref t) (upd H2 t (.tup [.str s, .int n])) := fun s H2 t sm nt e =>
      q _ _ (sm.trans (same_new nt)) (Due.of e.symm ⟨t, .int n, rfl, upd_same, .int n⟩)
    refine ⟨_, rfl, _, rfl, _, rfl, _, rfl, a, o, L, n, z, R, rfl, hA, hl, hh, hs, hz, hO, hR, re, fun c1 d H2 s2 nd2 e3 => ?_, fun c1 c2 d H2 s2 nd2 e3 => ?_, fun c1 c2 c3 d H2 s2 nd2 e3 => ?_, fun c1 c2 c3 c4 d H2 s2 nd2 e3 => ?_, fun c1 c2 c3 c4 l R' H2 s2 nl at_ hp hL => ⟨sz, fun t nt => ?_⟩⟩
    · rw [if_pos c1] at hd
      refine wHds_take T.e_OutOfRange_OutOfRange fun a0 na => ?_
      exact ⟨_, rfl, rfl, rfl, d, _, _, rfl, e3, rfl, sz, fun t nt => tell "range" _ t s2 nt hd⟩
    · rw [if_neg (fun z => z c1), if_pos c2] at hd
      refine wHds_skip T.e_TakenNumber_OutOfRange (wHds_take T.e_TakenNumber_TakenNumber fun a0 na => ?_)
      exact ⟨_, rfl, rfl, rfl, d, _, _, rfl, e3, rfl, sz, fun t nt => tell "taken" _ t s2 nt hd⟩
    · rw [if_neg (fun z => z c1), if_neg c2, if_pos c3] at hd
      refine wHds_skip T.e_BadText_OutOfRange (wHds_skip T.e_BadText_TakenNumber (wHds_take T.e_BadText_BadText fun a0 na => ?_))
      exact ⟨_, rfl, rfl, rfl, d, _, _, rfl, e3, rfl, sz, fun t nt => tell "text" _ t s2 nt hd⟩
    · rw [if_neg (fun z => z c1), if_neg c2, if_neg (by rw [c3]; decide), if_pos c4] at hd
      refine wHds_skip T.e_TooMany_OutOfRange (wHds_skip T.e_TooMany_TakenNumber (wHds_skip T.e_TooMany_BadText (wHds_take T.e_TooMany_TooMany fun a0 na => ?_)))
      exact ⟨_, rfl, rfl, rfl, d, _, _, rfl, e3, rfl, sz, fun t nt => tell "many" _ t s2 nt hd⟩
    · rw [if_neg (fun z => z c1), if_neg c2, if_neg (by rw [c3]; decide), if_neg (by omega)] at hd
      have st := same_new (o := .tup [.str "order", .ref l]) nt
      refine q _ _ (s2.trans st) (Due.of hd.symm ⟨t, .ref l, rfl, upd_same, ?_⟩)
      rw [← hL]
      exact dp_q (SqL.of (st _ _ at_)) (hp.same st)
def dueO (h : List (Int × Str)) (n : Int) : Str × PyData := if n ∈ h.map (·.1) then ("order", dQ ((ordE (h.filter fun q => decide (q.1 ≠ n))).map (·.2))) else ("none", .int n)
theorem dueO_ok (h : List (Int × Str)) (n : Int) : SeqAt.shaped (dT (dueO h n)) = true ∧ PyData.eqv (dT (dueO h n)) (dT (dueO h n)) = true := by
  have a1 : PyData.strOk ("order" : Str) = true := by decide +kernel
  have a2 : PyData.strOk ("none" : Str) = true := by decide +kernel
  unfold dueO
  split
  · exact dT_ok a1 (okd_Q _)
  · exact dT_ok a2 (okd_int _)
/-- the order without a text, told: a new list in a new pair -/
def spLWithout (K : PySem.W.Frag) : Sp := fun vs H Q _ => ∃ (a o : Addr) (L : PL) (n : Int) (R : QT), vs = [.ref a, .ref o, .int n] ∧ HsAt K H a L ∧ L.length ≤ 500 ∧ ((L.map (·.2)).map (·.1)).Pairwise (· < ·) ∧ (∀ q ∈ L, q.2.2.length ≤ 100) ∧ Small n ∧
  SqL K H o (qrefs R) ∧ QAt K H R ∧ R.map (·.2) = (ordE (L.map (·.2))).map (·.2) ∧
  (n ∉ L.map (fun q => q.2.1) → ∀ (t : Addr) (H' : Hp), Same H H' → H' t = some (.tup [.str "none", .int n]) → Q (.ref t) H') ∧
  (n ∈ L.map (fun q => q.2.1) → ∀ (t l : Addr) (R' : QT) (H' : Hp), Same H H' → H' t = some (.tup [.str "order", .ref l]) → H l = none → H' l = some (.lst (qrefs R')) → QAt K H' R' → R'.map (·.2) = (ordE ((L.map (·.2)).filter fun q => decide (q.1 ≠ n))).map (·.2) → Q (.ref t) H')
theorem sc__law_without : FnScope ["house", "order", "number", "e"] ["house", "order", "number"] (defScope s__law_without) := ⟨rfl, rfl, rfl, by decide +kernel, rfl, by decide +kernel, by decide +kernel⟩
theorem ok__law_without (T : Txt K mg ea) (c_order_without : ClX P w K mg base 4 "order_without" (spOrdWithout K ea)) : Cl P w K mg base 5 "_law_without" (spLWithout K) := by
  have nd := sc__law_without.nd
  refine cl_of T.d__law_without sc__law_without (fun vs H Q E h => ?_) (fun f cdv A outer s H vs Q E hr h => ?_)
  · obtain ⟨a, o, L, n, R, rfl, _⟩ := h
    rfl
  · obtain ⟨a, o, L, n, R, rfl, hA, hl, asc, hz, hs, hO, hR, re, q1, q2⟩ := h
    refine ⟨_, (pss_one (ps_try_hds rfl rfl takes0 (fun W pn xe tk _ => (pss_one (ps_ret (pe_tup (pa_cons pe_str (pa_cons (pe_cx c_order_without hr (by decide) (fun σ => passAt tk σ) (by rfl) (pa_cons (pv 0) (pa_cons (pv 1) (pa_cons (pv 2) pa_nil)))) pa_nil))))))
        (HdsN.named ⟨rfl, by decide, Or.inl T.x_NoText.g⟩ nd (i := 3) rfl rfl (fun a o c d l hz hf => (pss_one (ps_ret (pe_tup (pa_cons pe_str (pa_cons (pe_xf T.x_NoText.f T.x_NoText.no hz hf (pv 3)) pa_nil))))))
        HdsN.nil))), ?_⟩
    have sz : 2 ≤ sizeLine := by decide
    refine ⟨_, rfl, _, rfl, _, rfl, a, o, L, n, R, rfl, hA, hl, asc, hz, hs, hO, hR, re, fun c1 d H2 s2 nd2 e3 => ?_, fun c1 l R' H2 s2 nl at_ hp hL => ⟨sz, fun t nt => ?_⟩⟩
    · refine wHds_take T.e_NoText_NoText fun a0 na => ?_
      exact ⟨_, rfl, rfl, rfl, d, _, _, rfl, e3, rfl, sz, fun t nt => q1 c1 t _ (s2.trans (same_new nt)) upd_same⟩
    · have st := same_new (o := .tup [.str "order", .ref l]) nt
      exact q2 c1 t l R' _ (s2.trans st) upd_same nl (st _ _ at_) (hp.same st) hL
/-- what is due when a text is put in -/
def spLDue (K : PySem.W.Frag) : Sp := fun vs H Q _ => ∃ (a : Addr) (L : PL) (n : Int) (z : Str), vs = [.ref a, .int n, .str z] ∧ H a = some (.lst (refs L)) ∧ PairsAt K H L ∧ L.length ≤ 8 ∧ IsHs 40 (L.map (·.2)) ∧ Tryable z ∧ ∀ (v : V) (H' : Hp), Same H H' → Due K H' v (dueW (L.map (·.2)) n z) → Q v H'
theorem one_text {L : PL} {t : Addr} {n : Int} {z : Str} (hpw : (L.map (·.2)).Pairwise (fun q r => q.1 < r.1)) (n2 : n ∉ L.map (fun q => q.2.1)) : ∀ q ∈ L ++ [(t, n, z)], ∀ r ∈ L ++ [(t, n, z)], q.2.1 = r.2.1 → q.2.2 = r.2.2 := by
  have asc2 : ((L ++ [(t, n, z)]).map (·.2)).Pairwise (fun q r => q.1 ≠ r.1) := by
    rw [List.map_append, List.pairwise_append]
    refine ⟨hpw.imp (fun h e => by omega), by simp, fun x hx y hy e => ?_⟩
    simp at hy
    subst hy
    refine n2 ?_
    obtain ⟨q, hq, rfl⟩ := List.mem_map.mp hx
    exact List.mem_map.mpr ⟨q, hq, e⟩
  intro q hq r hr e
  refine Decidable.byContradiction fun ne => ?_
  rw [List.pairwise_map] at asc2
  have key : ∀ {M : PL}, M.Pairwise (fun q r => q.2.1 ≠ r.2.1) → q ∈ M → r ∈ M → q.2.2 = r.2.2 := by
    intro M
    induction M with
    | nil => intro _ m; cases m
    | cons x M ih =>
      intro pw mq mr
      rw [List.pairwise_cons] at pw
      rcases List.mem_cons.mp mq with e1 | m1 <;> rcases List.mem_cons.mp mr with e2 | m2
      · rw [e1, e2]
      · exact absurd (e1 ▸ e) (pw.1 r m2)
      · exact absurd (e2 ▸ e).symm (pw.1 q m1)
      · exact ih pw.2 m1 m2
  exact ne (key asc2 hq hr)
theorem ins_of_perm {L : PL} {t : Addr} {n : Int} {z : Str} {L' : PL} (hpw : (L.map (·.2)).Pairwise (fun q r => q.1 < r.1)) (n2 : n ∉ L.map (fun q => q.2.1)) (perm : L'.Perm (L ++ [(t, n, z)])) (srt : L'.Pairwise (fun q r => q.2.1 ≤ r.2.1)) : L'.map (·.2) = ins n z (L.map (·.2)) := by
  have nmem : n ∉ (L.map (·.2)).map (·.1) := by rw [List.map_map]; exact n2
  have p2 : (L'.map (·.2)).Perm (ins n z (L.map (·.2))) := by
    have := perm.map (fun q : Addr × Int × Str => q.2)
    rw [List.map_append] at this
    exact this.trans (ins_perm nmem).symm
  refine asc_uniq p2 ?_ (ins_asc hpw)
  have nodup : (L'.map (·.2)).Pairwise (fun q r => q.1 ≠ r.1) := p2.pairwise_iff (fun h e => h e.symm) |>.mpr ((ins_asc hpw).imp fun h e => by omega)
  have srt2 : (L'.map (·.2)).Pairwise (fun q r => q.1 ≤ r.1) := List.pairwise_map.mpr srt
  exact (nodup.and srt2).imp fun h => by have := h.1; have := h.2; omega
theorem sc__law_due : FnScope ["house", "number", "text", "pair"] ["house", "number", "text"] (defScope s__law_due) := ⟨rfl, rfl, rfl, by decide +kernel, rfl, by decide +kernel, by decide +kernel⟩
theorem ok__law_due (T : Txt K mg ea) (c__law_order : Cl P w K mg base 2 "_law_order" (spOrder K)) : Cl P w K mg base 3 "_law_due" (spLDue K) := by
  have nd := sc__law_due.nd
  refine cl_of T.d__law_due sc__law_due (fun vs H Q E h => ?_) (fun f cdv A outer s H vs Q E hr h => ?_)
  · obtain ⟨a, L, n, z, rfl, _⟩ := h
    rfl
  · obtain ⟨a, L, n, z, rfl, hat, hpr, hl, hh, ⟨hz, ht, _⟩, q⟩ := h
    refine ⟨_, (pss_cons (ps_if (pt_not (pt_chain op_le op_le pe_int (pv 1) pe_int))
        (pss_one (ps_ret (pe_tup (pa_cons pe_str (pa_cons (pv 1) pa_nil)))))
        pss_nil)
      (pss_cons (ps_if (pt_cmpR op_in_seq (pv 1) (pe_lc (own := [("pair", 3)]) (g := (gName 3)) rfl nd (pi_listK (K := K) (pv 0)) (blkOk_by (own := [("pair", 3)]) (N := ["house", "number", "text", "pair"]) (sc := defScope s__law_due) (by decide +kernel)) (fun _ _ _ _ _ => (pg_name (i := 3) nd rfl (.inl rfl))) (fun _ _ _ _ _ => pts_nil) (fun _ _ _ _ _ => (pe_ix (ixt (K := K)) (pv 3) pe_int (fun _ _ => rfl)))) (by rfl))
        (pss_one (ps_ret (pe_tup (pa_cons pe_str (pa_cons (pv 1) pa_nil)))))
        pss_nil)
      (pss_cons (ps_if (PW.pt (pw_or (pt_cmpR op_gt (pe_callB call_len_str (by rfl) T.b_len PySem.boot_len (pa_cons (pv 2) pa_nil)) pe_int (nomark _)) (pw_or1 (pt_cmpR op_in_sign pe_str (pv 2) rfl))))
        (pss_one (ps_ret (pe_tup (pa_cons pe_str (pa_cons (pv 1) pa_nil)))))
        pss_nil)
      (pss_cons (ps_if (pt_cmpR op_eq (pe_callB call_len_seq (by rfl) T.b_len PySem.boot_len (pa_cons (pv 0) pa_nil)) pe_int (nomark _))
        (pss_one (ps_ret (pe_tup (pa_cons pe_str (pa_cons (pv 1) pa_nil)))))
        pss_nil)
      (pss_one (ps_ret (pe_tup (pa_cons pe_str (pa_cons (C8.pe_c c__law_order hr (by decide) (by rfl) (pa_cons (pe_callB cr_sortNT (by rfl) T.b_sorted (by decide +kernel) (pa_cons (pe_op op_cat (pv 0) (pe_lst (pa_cons (pe_tup (pa_cons (pv 1) (pa_cons (pv 2) pa_nil))) pa_nil))) pa_nil)) pa_nil)) pa_nil))))))))), ?_⟩
    have hA : HsAt K H a L := ⟨SqL.of hat, hpr⟩
    have sz : 2 ≤ sizeLine := by decide
    have hm := map_nums L
    have rl := refs_len L
    have hd : dueW (L.map (·.2)) n z = if ¬ (0 ≤ n ∧ n ≤ 99) then (("range" : Str), PyData.int n) else if n ∈ L.map (fun q => q.2.1) then (("taken" : Str), PyData.int n) else if isTxt z = false then (("text" : Str), PyData.int n) else if 8 ≤ L.length then (("many" : Str), PyData.int n) else (("order" : Str), dQ ((ordE (ins n z (L.map (·.2)))).map (·.2))) := by
      unfold dueW
      rw [hm, List.length_map]
    have tell : ∀ (s : Str) (H2 : Hp) (t : Addr), Same H H2 → H2 t = none → dueW (L.map (·.2)) n z = (s, PyData.int n) → Q (.ref t) (upd H2 t (.tup [.str s, .int n])) := fun s H2 t sm nt e =>
      q _ _ (sm.trans (same_new nt)) (Due.of e.symm ⟨t, .int n, rfl, upd_same, .int n⟩)
    refine ⟨_, rfl, _, _, rfl, rfl, _, rfl, ite2 (fun c0 => ?_) (fun c0 => ?_)⟩
    · have n0 := of_decide_eq_true c0
      refine ⟨_, _, rfl, rfl, _, rfl, ?_⟩
      by_cases n1 : n ≤ 99
      · rw [decide_eq_true n1]
        have nn : 0 ≤ n ∧ n ≤ 99 := ⟨n0, n1⟩
        rw [if_neg (fun z => z nn)] at hd
        refine ⟨_, rfl, _, rfl, a, rfl, ⟨_, hA.1⟩, fun D nD => ?_⟩
        refine lc_w (walk_list (xs := refs L)) nD (by omega) (fun H' e => e.seq hA.1) (fun i acc _ => acc = ((L.take i).map fun q => q.2.1).map V.int) (fun _ _ => rfl) (fun _ _ _ _ _ _ _ r => r) (fun i H x H' y => by rw [y.1]; exact Same.refl _) (fun i x acc Ha Hb Qn Qf hi sm y r at_ kn kf => ?_) (fun acc H1 s1 at_ _ r => ?_)
        · obtain ⟨rfl, hx⟩ := y
          obtain ⟨t, ht, tm, rfl⟩ := refs_at hx
          refine ⟨rfl, _, rfl, _, _, _, _, rfl, rfl, same_tup sm (hA.2 t tm), (show atI [V.int t.2.1, V.str t.2.2] 0 = some (.int t.2.1) from rfl), kn _ _ (Same.refl _) ?_⟩
          rw [r, take_snoc ht, List.map_append, List.map_append]
          rfl
        rw [List.take_of_length_le (by rw [rl]; exact Nat.le_refl _)] at r
        subst r
        refine ⟨D, _, rfl, .inl (SqL.of at_), rfl, (by simp [flatV]), _, rfl, ?_⟩
        rw [if_neg Bool.false_ne_true, inV_ints]
        by_cases c2 : n ∈ L.map (fun q => q.2.1)
        · rw [decide_eq_true c2]
          rw [if_pos c2] at hd
          exact ⟨_, rfl, sz, fun t nt => tell "taken" _ t s1 nt hd⟩
        · rw [decide_eq_false c2]
          rw [if_neg c2] at hd
          refine ⟨_, rfl, z, rfl, Nat.le_trans hz (by decide), _, _, rfl, rfl, _, rfl, ite2 (fun c5 => ?_) (fun c5 => ?_)⟩
          · have c6 := of_decide_eq_true c5
            have : isTxt z = false := by rw [ht, decide_eq_false (by omega)]; rfl
            rw [if_pos this] at hd
            exact ⟨_, rfl, sz, fun t nt => tell "text" _ t s1 nt hd⟩
          · have c6 : z.length ≤ 40 := by
              have : ¬ (40 : Int) < (z.length : Int) := fun y => c5 (decide_eq_true y)
              omega
            refine ⟨_, rfl, 10, z, rfl, rfl, _, rfl, ite2 (fun c7 => ?_) (fun c7 => ?_)⟩
            · have : isTxt z = false := by rw [ht, c7]; simp
              rw [if_pos this] at hd
              exact ⟨_, rfl, sz, fun t nt => tell "text" _ t s1 nt hd⟩
            · have c8 : isTxt z = true := by
                have c9 : decide (10 ∈ z.cps.toList) = false := by simpa using c7
                rw [ht, c9, decide_eq_true c6]
                rfl
              rw [if_neg (by rw [c8]; decide)] at hd
              refine ⟨_, rfl, a, _, rfl, .inl (s1.seq hA.1), rfl, _, rfl, ite2 (fun c9 => ?_) (fun c9 => ?_)⟩
              · have : L.length = 8 := by
                  have := of_decide_eq_true c9
                  injection this with this
                  omega
                rw [if_pos (by omega)] at hd
                exact ⟨_, rfl, sz, fun t nt => tell "many" _ t s1 nt hd⟩
              · have l8 : ¬ 8 ≤ L.length := fun y => c9 (decide_eq_true (by
                  have : (refs L).length = 8 := by omega
                  rw [this]; rfl))
                rw [if_neg l8] at hd
                refine ⟨_, rfl, _, rfl, _, rfl, sz, fun u nu => ?_⟩
                have s3 := same_new (o := .tup [.int n, .str z]) nu
                have hu : (upd H1 u (.tup [.int n, .str z])) u = some (.tup [.int n, .str z]) := upd_same
                refine ⟨(by show 1 ≤ sizeLine; decide), fun l nl => ?_⟩
                have s4 := same_new (o := .lst [.ref u]) nl
                have hl1 : (upd (upd H1 u (.tup [.int n, .str z])) l (.lst [.ref u])) l = some (.lst [.ref u]) := upd_same
                have hu4 := s4 _ _ hu
                have s14 := s1.trans (s3.trans s4)
                generalize upd (upd H1 u (.tup [.int n, .str z])) l (.lst [.ref u]) = H4 at s14 hl1 hu4 ⊢
                have l9 : (refs L ++ [V.ref u]).length = L.length + 1 := by rw [List.length_append, rl]; rfl
                refine ⟨a, l, _, _, rfl, rfl, s14 _ _ hat, hl1, (Nat.le_trans (by rw [rl]; show L.length + 1 ≤ 1000; omega : _ ≤ 1000) (by decide)), fun m nm => ?_⟩
                have s5 := same_new (o := .lst (refs L ++ [V.ref u])) nm
                have hp5 : PairsAt K (upd H4 m (.lst (refs L ++ [V.ref u]))) (L ++ [(u, n, z)]) := fun y hy => by
                  rcases List.mem_append.mp hy with mm | mm
                  · exact same_tup (s14.trans s5) (hpr y mm)
                  · rw [List.mem_singleton.mp mm]
                    exact .inl (.inl (s5 _ _ hu4))
                have hm5 : (upd H4 m (.lst (refs L ++ [V.ref u]))) m = some (.lst (refs (L ++ [(u, n, z)]))) := by
                  rw [upd_same]
                  unfold refs
                  rw [List.map_append]
                  rfl
                generalize upd H4 m (.lst (refs L ++ [V.ref u])) = H5 at s5 hp5 hm5 ⊢
                have hpw := hh.pw
                refine ⟨m, L ++ [(u, n, z)], rfl, ⟨SqL.of hm5, hp5⟩, one_text hpw c2, fun L' p perm srt np => ?_⟩
                have s6 := same_new (o := .lst (refs L')) np
                have hp6 : PairsAt K (upd H5 p (.lst (refs L'))) L' := fun y hy => same_tup s6 (hp5 y (perm.mem_iff.mp hy))
                have i6 := ins_of_perm hpw c2 perm srt
                have ll : L'.length = L.length + 1 := by rw [perm.length_eq, List.length_append]; rfl
                have tx : ∀ y ∈ L', y.2.2.length ≤ 100 := fun y hy => by
                  rcases List.mem_append.mp (perm.mem_iff.mp hy) with mm | mm
                  · exact Nat.le_trans (hh.txt y.2 (List.mem_map_of_mem mm)).2 (by decide)
                  · rw [List.mem_singleton.mp mm]
                    show z.length ≤ 100
                    omega
                have smp := (s14.trans s5).trans s6
                refine ⟨p, L', rfl, ⟨SqL.of upd_same, hp6⟩, by omega, tx, fun lo R' H7 s7 nlo at7 q7 r7 => ?_⟩
                refine ⟨sz, fun t nt => ?_⟩
                have st := same_new (o := .tup [.str "order", .ref lo]) nt
                refine q _ _ (smp.trans (s7.trans st)) (Due.of hd.symm ⟨t, .ref lo, rfl, upd_same, ?_⟩)
                rw [← i6, ← r7]
                exact dp_q (SqL.of (st _ _ at7)) (q7.same st)
      · rw [decide_eq_false n1]
        rw [if_pos (fun z => n1 z.2)] at hd
        exact ⟨_, rfl, sz, fun t nt => tell "range" _ t (Same.refl _) nt hd⟩
    · have n0 : ¬ 0 ≤ n := fun z => c0 (decide_eq_true z)
      rw [if_pos (fun z => n0 z.1)] at hd
      exact ⟨_, rfl, _, rfl, sz, fun t nt => tell "range" _ t (Same.refl _) nt hd⟩
end

end SH
set_option Elab.async false
set_option linter.all false
set_option maxRecDepth 100000
set_option maxHeartbeats 4000000
namespace SH
open PySem PySem.Spec PyProof.Rows L2
section
variable {P : Program} {w : World} {K : PySem.W.Frag} {mg : Str → Option Value} {base : Heap} {ea : Ea}
def spLaw (K : PySem.W.Frag) : Sp := fun vs H Q _ => ∃ (a : Addr) (ns : List Int), vs = [.ref a] ∧ SqL K H a (ns.map V.int) ∧ ns.length ≤ 63 ∧ ∀ H', Q (.bl true) H'
theorem sc_law : FnScope ["script", "draws", "house", "order", "kept", "turn", "number", "text", "size", "told", "due", "k", "pair"] ["script"] (defScope s_law) := ⟨rfl, rfl, rfl, by decide +kernel, rfl, by decide +kernel, by decide +kernel⟩
theorem ok_law (T : Txt K mg ea) {f : Addr} {fd : FuncData} (F0 : Fun K "law" "law" s_law f fd) (c__law_draws : Cl P w K mg base 1 "_law_draws" (spDraws K)) (c__law_house : Cl P w K mg base 3 "_law_house" (spHouse K)) (c__law_mix : Cl P w K mg base 1 "_law_mix" (spDraw K)) (c__law_text : Cl P w K mg base 2 "_law_text" (spText K))
    (c__law_order : Cl P w K mg base 2 "_law_order" (spOrder K)) (c__law_with : Cl P w K mg base 5 "_law_with" (spLWith K)) (c__law_without : Cl P w K mg base 5 "_law_without" (spLWithout K)) (c__law_due : Cl P w K mg base 3 "_law_due" (spLDue K)) :
    FnOk P w K mg base CX0 8 f fd ["script"] (spLaw K) := by
  have nd := sc_law.nd
  refine F0.ok sc_law (fun vs H Q E h => ?_) (fun cdv A outer s H vs Q E hr h => ?_)
  · obtain ⟨a, ns, rfl, _⟩ := h
    rfl
  · obtain ⟨a, ns, rfl, hS, hl, q⟩ := h
    refine ⟨_, (pss_cons (ps_set (i := 1) nd rfl (.inl rfl) (C8.pe_c c__law_draws hr (by decide) (by rfl) (pa_cons (pv 0) pa_nil)))
      (pss_cons (ps_set (i := 2) nd rfl (.inl rfl) (C8.pe_c c__law_house hr (by decide) (by rfl) (pa_cons (pv 1) (pa_cons pe_int (pa_cons pe_int pa_nil)))))
      (pss_cons (ps_set (i := 3) nd rfl (.inl rfl) (C8.pe_c c__law_order hr (by decide) (by rfl) (pa_cons (pv 2) pa_nil)))
      (pss_cons (ps_set (i := 4) nd rfl (.inl rfl) (pe_tup (pa_cons (pe_callTy call_list_of (by rfl) T.b_list (by decide +kernel) (pa_cons (pv 2) pa_nil)) (pa_cons (pe_callTy call_list_of (by rfl) T.b_list (by decide +kernel) (pa_cons (pv 3) pa_nil)) pa_nil))))
      (pss_cons (ps_for PassesOwn.never rfl (pi_range1 rfl T.b_range (pa_cons pe_int pa_nil)) (pg_name (i := 5) nd rfl (.inl rfl))
        (pss_cons (ps_set (i := 6) nd rfl (.inr rfl) (pe_ix (ixl (K := K)) (pe_lst (pa_cons (C8.pe_c c__law_mix hr (by decide) (by rfl) (pa_cons (pv 1) (pa_cons (pe_op op_add pe_int (pv 5)) (pa_cons pe_int pa_nil)))) (pa_cons (pe_op op_add pe_int (pv 5)) (pa_cons (pe_op op_sub (pe_un un_neg pe_int) (pv 5)) pa_nil)))) (pe_callB (call_min2 rfl) (by rfl) T.b_min (by decide +kernel) (pa_cons pe_int (pa_cons (pe_op op_fdiv (C8.pe_c c__law_mix hr (by decide) (by rfl) (pa_cons (pv 1) (pa_cons (pe_op op_add pe_int (pv 5)) (pa_cons pe_int pa_nil)))) pe_int) pa_nil))) (fun _ _ => rfl)))
          (C8.pss_cut (ps_if (PW.pt (pw_and (pt_cmpR op_gt (pe_callB call_len_seq (by rfl) T.b_len PySem.boot_len (pa_cons (pv 2) pa_nil)) pe_int (nomark _)) (pw_and1 (pt_cmpR op_eq (C8.pe_c c__law_mix hr (by decide) (by rfl) (pa_cons (pv 1) (pa_cons (pe_op op_add pe_int (pv 5)) (pa_cons pe_int pa_nil)))) pe_int (nomark _)))))
            (pss_one (ps_set (i := 6) nd rfl (.inr rfl) (pe_ix (ixt (K := K)) (pe_ix (ixl (K := K)) (pv 2) (C8.pe_c c__law_mix hr (by decide) (by rfl) (pa_cons (pv 1) (pa_cons (pe_op op_add pe_int (pv 5)) (pa_cons (pe_callB call_len_seq (by rfl) T.b_len PySem.boot_len (pa_cons (pv 2) pa_nil)) pa_nil)))) (fun _ _ => rfl)) pe_int (fun _ _ => rfl))))
            pss_nil)
          (pss_cons (ps_set (i := 7) nd rfl (.inl rfl) (C8.pe_c c__law_text hr (by decide) (by rfl) (pa_cons (pv 1) (pa_cons (pe_op op_add pe_int (pe_op op_mul pe_int (pv 5))) (pa_cons pe_int pa_nil)))))
          (C8.pss_cut (ps_if (pt_cmpR op_eq (C8.pe_c c__law_mix hr (by decide) (by rfl) (pa_cons (pv 1) (pa_cons (pe_op op_add pe_int (pv 5)) (pa_cons pe_int pa_nil)))) pe_int (nomark _))
            (pss_cons (ps_set (i := 8) nd rfl (.inl rfl) (pe_op op_add pe_int (C8.pe_c c__law_mix hr (by decide) (by rfl) (pa_cons (pv 1) (pa_cons (pe_op op_add pe_int (pv 5)) (pa_cons pe_int pa_nil))))))
              (pss_one (ps_set (i := 7) nd rfl (.inl rfl) (pe_ix (ixl (K := K)) (pe_lst (pa_cons (pe_join pe_str (pe_lc (own := [("k", 11)]) (g := (gName 11)) rfl nd (pi_range1 rfl T.b_range (pa_cons (pv 8) pa_nil)) (blkOk_by (own := [("k", 11)]) (N := ["script", "draws", "house", "order", "kept", "turn", "number", "text", "size", "told", "due", "k", "pair"]) (sc := defScope s_law) (by decide +kernel)) (fun _ _ _ _ _ => (pg_name (i := 11) nd rfl (.inl rfl))) (fun _ _ _ _ _ => pts_nil) (fun _ _ _ _ _ => pe_str))) (pa_cons (pe_op op_add_str (pv 7) pe_str) pa_nil))) (C8.pe_c c__law_mix hr (by decide) (by rfl) (pa_cons (pv 1) (pa_cons (pe_op op_add pe_int (pv 5)) (pa_cons pe_int pa_nil)))) (fun _ _ => rfl)))))
            pss_nil)
          (pss_cons (ps_set (i := 9) nd rfl (.inl rfl) (C8.pe_c c__law_with hr (by decide) (by rfl) (pa_cons (pv 2) (pa_cons (pv 3) (pa_cons (pv 6) (pa_cons (pv 7) pa_nil))))))
          (pss_cons (ps_if (PW.pt (pw_or (pt_cmpR (op_neDK (K := K) hr.units) (pv 9) (C8.pe_c c__law_due hr (by decide) (by rfl) (pa_cons (pv 2) (pa_cons (pv 6) (pa_cons (pv 7) pa_nil)))) (nomark _)) (pw_or1 (pt_cmpR (op_neDK (K := K) hr.units) (pe_tup (pa_cons (pv 2) (pa_cons (pv 3) pa_nil))) (pv 4) (nomark _)))))
            (pss_one (ps_ret pe_bl))
            pss_nil)
          (pss_cons (ps_set (i := 10) nd rfl (.inl rfl) (pe_tup (pa_cons pe_str (pa_cons (pv 6) pa_nil))))
          (C8.pss_cut (ps_if (pt_cmpR op_in_seq (pv 6) (pe_lc (own := [("pair", 12)]) (g := (gName 12)) rfl nd (pi_listK (K := K) (pv 2)) (blkOk_by (own := [("pair", 12)]) (N := ["script", "draws", "house", "order", "kept", "turn", "number", "text", "size", "told", "due", "k", "pair"]) (sc := defScope s_law) (by decide +kernel)) (fun _ _ _ _ _ => (pg_name (i := 12) nd rfl (.inl rfl))) (fun _ _ _ _ _ => pts_nil) (fun _ _ _ _ _ => (pe_ix (ixt (K := K)) (pv 12) pe_int (fun _ _ => rfl)))) (by rfl))
            (pss_one (ps_set (i := 10) nd rfl (.inl rfl) (pe_tup (pa_cons pe_str (pa_cons (C8.pe_c c__law_order hr (by decide) (by rfl) (pa_cons (pe_lc (own := [("pair", 12)]) (g := (gName 12)) rfl nd (pi_listK (K := K) (pv 2)) (blkOk_by (own := [("pair", 12)]) (N := ["script", "draws", "house", "order", "kept", "turn", "number", "text", "size", "told", "due", "k", "pair"]) (sc := defScope s_law) (by decide +kernel)) (fun _ _ _ _ _ => (pg_name (i := 12) nd rfl (.inl rfl))) (fun _ _ _ _ _ => pts_one (pt_cmpR op_ne (pe_ix (ixt (K := K)) (pv 12) pe_int (fun _ _ => rfl)) (pv 6) (nomark _))) (fun _ _ _ _ _ => (pv 12))) pa_nil)) pa_nil)))))
            pss_nil)
          (pss_cons (ps_set (i := 9) nd rfl (.inl rfl) (C8.pe_c c__law_without hr (by decide) (by rfl) (pa_cons (pv 2) (pa_cons (pv 3) (pa_cons (pv 6) pa_nil)))))
          (pss_cons (ps_if (PW.pt (pw_or (pt_cmpR (op_neDK (K := K) hr.units) (pv 9) (pv 10) (nomark _)) (pw_or1 (pt_cmpR (op_neDK (K := K) hr.units) (pe_tup (pa_cons (pv 2) (pa_cons (pv 3) pa_nil))) (pv 4) (nomark _)))))
            (pss_one (ps_ret pe_bl))
            pss_nil)
          (pss_one (ps_if (pt_cmpR op_eq (pe_ix (ixt (K := K)) (pv 9) pe_int (fun _ _ => rfl)) pe_str (nomark _))
            (pss_cons (ps_expr (pe_bm PySem.F.plainAttrs_list PySem.F.slot_list_append PySem.F.type_list_append mt_append (pe_ix (ixt (K := K)) (pv 9) pe_int (fun _ _ => rfl)) (pa_cons (pe_tup (pa_cons pe_int (pa_cons pe_int pa_nil))) pa_nil)))
              (pss_one (ps_if (pt_cmpR (op_neDK (K := K) hr.units) (C8.pe_c c__law_without hr (by decide) (by rfl) (pa_cons (pv 2) (pa_cons (pv 3) (pa_cons (pv 6) pa_nil)))) (pv 10) (nomark _))
                (pss_one (ps_ret pe_bl))
                pss_nil)))
            pss_nil)))))))))))))
      (pss_one (ps_ret pe_bl))))))), ?_⟩
    have sz : 2 ≤ sizeLine := by decide
    refine ⟨_, rfl, a, ns, rfl, hS, hl, fun dr ds H1 s1 nd1 at1 hD => ?_⟩
    refine ⟨_, rfl, dr, ds, 3, 12, rfl, SqL.of at1, hD, by omega, by omega, by omega, fun hp L H2 s2 nh at2 hpr hlen hh => ?_⟩
    have lets : LetAll (L.map (·.2)) := hh.letAll
    have tx : ∀ q ∈ L, q.2.2.length ≤ 12 := fun q hq => (hh.txt q.2 (List.mem_map_of_mem hq)).2
    have tx100 : ∀ q ∈ L, q.2.2.length ≤ 100 := fun q hq => Nat.le_trans (tx q hq) (by decide)
    have hh40 : IsHs 40 (L.map (·.2)) := ⟨hh.asc, hh.num, fun x hx => ⟨(hh.txt x hx).1, Nat.le_trans (hh.txt x hx).2 (by decide)⟩⟩
    have hA2 : HsAt K H2 hp L := ⟨SqL.of at2, hpr⟩
    have rl := refs_len L
    refine ⟨_, rfl, hp, L, rfl, hA2, by omega, tx100, fun lo R H4 s4 nlo at4 q4 r4 => ?_⟩
    -- kept
    have hA4 := hA2.same s4
    refine ⟨_, rfl, hp, _, rfl, .inl hA4.1, fun k1 nk1 => ?_⟩
    have s5 := same_new (o := .lst (refs L)) nk1
    have hK5 : HsAt K (upd H4 k1 (.lst (refs L))) k1 L := ⟨SqL.of upd_same, (hA4.same s5).2⟩
    generalize upd H4 k1 (.lst (refs L)) = H5 at s5 hK5 ⊢
    have at45 := s5 _ _ at4
    have q5 := q4.same s5
    refine ⟨_, rfl, lo, _, rfl, .inl (SqL.of at45), fun k2 nk2 => ?_⟩
    have s6 := same_new (o := .lst (qrefs R)) nk2
    have at6 : (upd H5 k2 (.lst (qrefs R))) k2 = some (.lst (qrefs R)) := upd_same
    generalize upd H5 k2 (.lst (qrefs R)) = H6 at s6 at6 ⊢
    refine ⟨sz, fun kt nkt => ?_⟩
    have s7 := same_new (o := .tup [.ref k1, .ref k2]) nkt
    have at7 : (upd H6 kt (.tup [.ref k1, .ref k2])) kt = some (.tup [.ref k1, .ref k2]) := upd_same
    generalize upd H6 kt (.tup [.ref k1, .ref k2]) = H7 at s7 at7 ⊢
    have s57 := s6.trans s7
    have s47 := s5.trans s57
    have hA7 := hA4.same s47
    have hat7 := s47 _ _ (s4 _ _ at2)
    have hK7 := hK5.same s57
    have lo7 := s57 _ _ at45
    have k27 := s7 _ _ at6
    have q7 := q5.same s57
    have dr7 : SqL K H7 dr (ds.map V.int) := ((s2.trans s4).trans s47).seq (SqL.of at1)
    have okp := okd_sh (okd_HQ lets ((ordE (L.map (·.2))).map (·.2)))
    have dK : Dp K H7 (.ref kt) (.tuple [dH (L.map (·.2)), dQ ((ordE (L.map (·.2))).map (·.2))]) :=
      .tup (.inl (.inl at7)) (.cons (dp_house hK7) (.cons (by rw [← r4]; exact dp_q (SqL.of k27) q7) .nil))
    -- (house, order) != kept is never so
    have same2 : ∀ {H' : Hp} {t : Addr}, Same H7 H' → H' t = none → Dp K (upd H' t (.tup [.ref hp, .ref lo])) (.ref t) (.tuple [dH (L.map (·.2)), dQ ((ordE (L.map (·.2))).map (·.2))]) ∧ Dp K (upd H' t (.tup [.ref hp, .ref lo])) (.ref kt) (.tuple [dH (L.map (·.2)), dQ ((ordE (L.map (·.2))).map (·.2))]) := fun {H' t} sm nt => by
      have smt := sm.trans (same_new (o := .tup [.ref hp, .ref lo]) nt)
      exact ⟨.tup (.inl (.inl upd_same)) (.cons (dp_house (hA7.same smt)) (.cons (by rw [← r4]; exact dp_q (SqL.of (smt _ _ lo7)) (q7.same smt)) .nil)), dp_same smt dK⟩
    refine ⟨5, rfl, by decide, by decide, ?_⟩
    refine for_range (lo := 0) (n := 5) (fun i σ H' => Same H7 H' ∧ ∃ y5 y6 y7 y8 y9 y10 y11 y12 : Option V, σ = [some (.ref a), some (.ref dr), some (.ref hp), some (.ref lo), some (.ref kt), y5, y6, y7, y8, y9, y10, y11, y12])
      ⟨Same.refl _, none, none, none, none, none, none, none, none, rfl⟩ (fun i σ H' hi hW => ?_) (fun σ H' hW => q _)
    obtain ⟨sm, y5, y6, y7, y8, y9, y10, y11, y12, rfl⟩ := hW
    -- the number
    repeat (first | refine ⟨_, rfl, ?_⟩ | refine ⟨rfl, ?_⟩ | refine ⟨_, _, rfl, rfl, ?_⟩ | refine ⟨_, _, _, rfl, rfl, ?_⟩)
    refine ⟨dr, ds, _, 100, rfl, sm.seq dr7, hD, by omega, by omega, by omega, fun n1 _ _ => ?_⟩
    repeat (first | refine ⟨_, rfl, ?_⟩ | refine ⟨rfl, ?_⟩ | refine ⟨_, _, rfl, rfl, ?_⟩ | refine ⟨_, _, _, rfl, rfl, ?_⟩)
    refine ⟨(by show 3 ≤ sizeLine; decide), fun l nl => ?_⟩
    have sl := same_new (o := .lst [.int n1, .int (100 + (0 + (i : Int))), .int (-1 - (0 + (i : Int)))]) nl
    have sml := sm.trans sl
    repeat (first | refine ⟨_, rfl, ?_⟩ | refine ⟨rfl, ?_⟩ | refine ⟨_, _, rfl, rfl, ?_⟩ | refine ⟨_, _, _, rfl, rfl, ?_⟩)
    refine ⟨dr, ds, _, 12, rfl, sml.seq dr7, hD, by omega, by omega, by omega, fun n2 _ _ => ?_⟩
    refine ⟨_, _, rfl, rfl, (by constructor <;> decide), _, _, rfl, ?_⟩
    obtain ⟨j, hj0, hj1⟩ : ∃ j : Int, (if n2 / 5 < 2 then n2 / 5 else 2) = j ∧ 0 ≤ j ∧ j < 3 := ⟨_, rfl, by split <;> omega, by split <;> omega⟩
    obtain ⟨n, hn1, hn2⟩ := at_map V.int (xs := [n1, 100 + (0 + (i : Int)), -1 - (0 + (i : Int))]) (i := j) hj1.1 (by show j < 3; exact hj1.2)
    have nb : -1000 ≤ n ∧ n ≤ 1000 := by
      simp only [List.mem_cons, List.not_mem_nil, or_false] at hn2
      rcases hn2 with e | e | e <;> rw [e] <;> omega
    dsimp only
    rw [hj0]
    refine ⟨l, _, _, _, rfl, rfl, .inl (.inl upd_same), hn1, ?_⟩
    generalize upd H' l (.lst [.int n1, .int (100 + (0 + (i : Int))), .int (-1 - (0 + (i : Int)))]) = Hl at sml ⊢
    refine ⟨fun σ H9 => H9 = Hl ∧ ∃ n : Int, -1000 ≤ n ∧ n ≤ 1000 ∧ σ = [some (.ref a), some (.ref dr), some (.ref hp), some (.ref lo), some (.ref kt), some (.int (0 + (i : Int))), some (.int n), y7, y8, y9, y10, y11, y12], ?_, ?_⟩
    · refine ⟨_, rfl, hp, _, rfl, .inl (hA7.same sml).1, _, _, rfl, rfl, _, rfl, ite2 (fun e => ?_) (fun e => iteF ⟨rfl, n, nb.1, nb.2, rfl⟩)⟩
      have e' := of_decide_eq_true e
      repeat (first | refine ⟨_, rfl, ?_⟩ | refine ⟨rfl, ?_⟩ | refine ⟨_, _, rfl, rfl, ?_⟩ | refine ⟨_, _, _, rfl, rfl, ?_⟩)
      refine ⟨dr, ds, _, 4, rfl, sml.seq dr7, hD, by omega, by omega, by omega, fun r _ _ => ?_⟩
      refine ⟨rfl, _, rfl, ite2 (fun e2 => ?_) (fun e2 => ⟨rfl, n, nb.1, nb.2, rfl⟩)⟩
      repeat (first | refine ⟨_, rfl, ?_⟩ | refine ⟨rfl, ?_⟩ | refine ⟨_, _, rfl, rfl, ?_⟩ | refine ⟨_, _, _, rfl, rfl, ?_⟩)
      refine ⟨hp, _, rfl, .inl (hA7.same sml).1, dr, ds, _, _, rfl, sml.seq dr7, hD, by omega, by omega, by omega, fun r r0 r1 => ?_⟩
      obtain ⟨t, ht, hm⟩ := at_map (fun q : Addr × Int × Str => V.ref q.1) (xs := L) r0 (by omega)
      refine ⟨hp, _, _, _, rfl, rfl, (hA7.same sml).1, ht, ?_⟩
      have hb := hh.num t.2 (List.mem_map_of_mem hm)
      exact ⟨_, _, _, _, rfl, rfl, (hA7.same sml).2 t hm, (show atI [V.int t.2.1, V.str t.2.2] 0 = some (.int t.2.1) from rfl), rfl, t.2.1, by omega, by omega, rfl⟩
    rintro σ' H9 ⟨rfl, n, hn3, hn4, rfl⟩
    clear hn1 hn2 nb hj0 hj1
    have small : Small n := small_of (by omega) (by omega)
    -- the text
    repeat (first | refine ⟨_, rfl, ?_⟩ | refine ⟨rfl, ?_⟩ | refine ⟨_, _, rfl, rfl, ?_⟩ | refine ⟨_, _, _, rfl, rfl, ?_⟩)
    refine ⟨.inl (by decide), ?_⟩
    repeat (first | refine ⟨_, rfl, ?_⟩ | refine ⟨rfl, ?_⟩ | refine ⟨_, _, rfl, rfl, ?_⟩ | refine ⟨_, _, _, rfl, rfl, ?_⟩)
    refine ⟨dr, ds, _, 12, rfl, sml.seq dr7, hD, by omega, by omega, by omega, fun z Hz sz1 zl zn => ?_⟩
    have smz := sml.trans sz1
    refine ⟨fun σ H9 => Same H7 H9 ∧ ∃ (x : Str) (y8 y11 : Option V), Tryable x ∧ σ = [some (.ref a), some (.ref dr), some (.ref hp), some (.ref lo), some (.ref kt), some (.int (0 + (i : Int))), some (.int n), some (.str x), y8, y9, y10, y11, y12], ?_, ?_⟩
    · repeat (first | refine ⟨_, rfl, ?_⟩ | refine ⟨rfl, ?_⟩ | refine ⟨_, _, rfl, rfl, ?_⟩ | refine ⟨_, _, _, rfl, rfl, ?_⟩)
      refine ⟨dr, ds, _, 8, rfl, smz.seq dr7, hD, by omega, by omega, by omega, fun r _ _ => ?_⟩
      refine ⟨rfl, _, rfl, ite2 (fun e2 => ?_) (fun e2 => ⟨smz, z, _, _, tryable_let zl (by omega), rfl⟩)⟩
      repeat (first | refine ⟨_, rfl, ?_⟩ | refine ⟨rfl, ?_⟩ | refine ⟨_, _, rfl, rfl, ?_⟩ | refine ⟨_, _, _, rfl, rfl, ?_⟩)
      refine ⟨dr, ds, _, 3, rfl, smz.seq dr7, hD, by omega, by omega, by omega, fun r3 _ _ => ?_⟩
      refine ⟨_, _, rfl, rfl, ?_⟩
      refine ⟨⟨_, rfl⟩, _, rfl, _, rfl, by omega, by omega, fun D nD => ?_⟩
      refine lc_w (walk_range (lo := 0) (n := (40 + r3).toNat)) nD (by omega) (fun _ _ => trivial) (fun j acc _ => acc = (List.replicate j (⟨#[97]⟩ : Str)).map V.str) (fun _ _ => rfl) (fun _ _ _ _ _ _ _ r => r) (fun j H x H' y => by rw [y.1]; exact Same.refl _) (fun j v acc Ha Hb Qn Qf hj sm y rr at_ kn kf => ?_) (fun acc H10 s10 at10 _ rr => ?_)
      · obtain ⟨rfl, rfl⟩ := y
        refine ⟨rfl, kn _ _ (Same.refl _) ?_⟩
        rw [rr, List.replicate_succ', List.map_append]
        rfl
      · subst rr
        have jl : (Txt.join "" (List.replicate (40 + r3).toNat (⟨#[97]⟩ : Str))).length = (40 + r3).toNat := join_len
        have jt := join_let (n := (40 + r3).toNat)
        refine ⟨"", D, List.replicate (40 + r3).toNat (⟨#[97]⟩ : Str), rfl, rfl, .inl (SqL.of at10), ?_, ?_⟩
        · rw [List.map_replicate, List.sum_replicate_nat, List.length_replicate]
          show (40 + r3).toNat * 1 + (40 + r3).toNat * 0 ≤ 16777216
          omega
        generalize Txt.join "" (List.replicate (40 + r3).toNat (⟨#[97]⟩ : Str)) = u at jl jt ⊢
        refine ⟨_, rfl, z, "\n", rfl, rfl, Nat.le_trans (by show z.length + 1 ≤ 100; omega : _ ≤ 100) (by decide), sz, fun l2 nl2 => ?_⟩
        have s11 := same_new (o := .lst ([u, z ++ "\n"].map V.str)) nl2
        have sm11 := smz.trans (s10.trans s11)
        repeat (first | refine ⟨_, rfl, ?_⟩ | refine ⟨rfl, ?_⟩ | refine ⟨_, _, rfl, rfl, ?_⟩ | refine ⟨_, _, _, rfl, rfl, ?_⟩)
        refine ⟨dr, ds, _, 2, rfl, sm11.seq dr7, hD, by omega, by omega, by omega, fun g g0 g1 => ?_⟩
        obtain ⟨x, hx, hxm⟩ := at_map V.str (xs := [u, z ++ "\n"]) (i := g) g0 g1
        refine ⟨l2, _, g, .str x, rfl, rfl, .inl (.inl upd_same), hx, sm11, x, _, _, ?_, rfl⟩
        simp only [List.mem_cons, List.not_mem_nil, or_false] at hxm
        rcases hxm with e | e
        · rw [e]; exact tryable_any jt (by omega)
        · rw [e]; exact tryable_nl zl (by omega)
    rintro σ' H9 ⟨sm9, x, y8, y11, htry, rfl⟩
    clear sl sml smz sz1
    -- the order with the text
    refine ⟨_, rfl, _, rfl, _, rfl, _, rfl, hp, lo, L, n, x, R, rfl, hA7.same sm9, hlen, hh40, small, htry.1, SqL.of (sm9 _ _ lo7), q7.same sm9, r4, fun v H10 s10 told => ?_⟩
    have sm10 := sm9.trans s10
    have ok1 := dueW_ok (L.map (·.2)) n x
    refine ⟨_, rfl, _, rfl, _, rfl, _, rfl, hp, L, n, x, rfl, sm10 _ _ hat7, (hA7.same sm10).2, hlen, hh40, htry, fun v2 H11 s11 due => ?_⟩
    refine ⟨_, _, (told.same s11).dp, due.dp, ok1.1, ok1.1, ?_⟩
    rw [ok1.2]
    refine ⟨_, rfl, iteF ?_⟩
    have sm11 := sm10.trans s11
    refine ⟨_, rfl, _, rfl, sz, fun t3 nt3 => ⟨_, rfl, _, _, (same2 sm11 nt3).1, (same2 sm11 nt3).2, okp.1, okp.1, ?_⟩⟩
    rw [okp.2]
    refine ⟨_, rfl, iteF ?_⟩
    have sm12 := sm11.trans (same_new (o := .tup [.ref hp, .ref lo]) nt3)
    generalize upd H11 t3 (.tup [.ref hp, .ref lo]) = H12 at sm12 ⊢
    -- what is due without it
    have hm := map_nums L
    refine ⟨_, rfl, sz, fun td ntd => ?_⟩
    have sd := same_new (o := .tup [.str "none", .int n]) ntd
    refine ⟨fun σ H9 => Same H7 H9 ∧ ∃ (u : V) (y12 : Option V), Due K H9 u (dueO (L.map (·.2)) n) ∧ σ = [some (.ref a), some (.ref dr), some (.ref hp), some (.ref lo), some (.ref kt), some (.int (0 + (i : Int))), some (.int n), some (.str x), y8, some v, some u, y11, y12], ?_, ?_⟩
    · have sm13 := sm12.trans sd
      have hA13 := hA7.same sm13
      refine ⟨_, rfl, _, rfl, hp, rfl, ⟨_, hA13.1⟩, fun D nD => ?_⟩
      refine lc_w (walk_list (xs := refs L)) nD (by omega) (fun H' e => e.seq hA13.1) (fun i acc _ => acc = ((L.take i).map fun q => q.2.1).map V.int) (fun _ _ => rfl) (fun _ _ _ _ _ _ _ r => r) (fun i H x H' y => by rw [y.1]; exact Same.refl _) (fun i x acc Ha Hb Qn Qf hi sm y r at_ kn kf => ?_) (fun acc H14 s14 at_ _ r => ?_)
      · obtain ⟨rfl, hx⟩ := y
        obtain ⟨t, ht, tm, rfl⟩ := refs_at hx
        refine ⟨rfl, _, rfl, _, _, _, _, rfl, rfl, same_tup sm (hA13.2 t tm), (show atI [V.int t.2.1, V.str t.2.2] 0 = some (.int t.2.1) from rfl), kn _ _ (Same.refl _) ?_⟩
        rw [r, take_snoc ht, List.map_append, List.map_append]
        rfl
      rw [List.take_of_length_le (by rw [rl]; exact Nat.le_refl _)] at r
      subst r
      refine ⟨D, _, rfl, .inl (SqL.of at_), rfl, (by simp [flatV]), _, rfl, ?_⟩
      rw [if_neg Bool.false_ne_true, inV_ints]
      have sm14 := sm13.trans s14
      by_cases c2 : n ∈ L.map (fun q => q.2.1)
      · rw [decide_eq_true c2]
        have hA14 := hA7.same sm14
        refine ⟨_, rfl, hp, rfl, ⟨_, hA14.1⟩, fun D2 nD2 => ?_⟩
        refine lc_filter nD2 hA14 (by omega) (fun q => decide (q.2.1 ≠ n)) (fun t H2 Qn Qf tm sm kn kf => ?_) (fun H15 s15 at15 => ?_)
        · refine ⟨rfl, _, rfl, _, _, _, _, rfl, rfl, same_tup sm (hA14.2 t tm), (show atI [V.int t.2.1, V.str t.2.2] 0 = some (.int t.2.1) from rfl), _, rfl, rfl, _, rfl, ite2 (fun e => ?_) (fun e => ?_)⟩
          · exact ⟨_, rfl, kn (decide_eq_true (fun z => by rw [z] at e; simp at e))⟩
          · refine kf (decide_eq_false fun ne => e ?_)
            have : ¬ V.int t.2.1 = V.int n := fun z => ne (by injection z)
            rw [decide_eq_false this]
            rfl
        have hf := HsAt.filter (K := K) (hA14.2.same s15) (fun q => decide (q.2.1 ≠ n))
        have fl := List.length_filter_le (fun q : Addr × Int × Str => decide (q.2.1 ≠ n)) L
        refine ⟨D2, L.filter fun q => decide (q.2.1 ≠ n), rfl, ⟨SqL.of at15, hf⟩, by omega, (fun q hq => tx100 q (List.mem_filter.mp hq).1), fun l2 R2 H16 s16 nl2 at16 q16 r16 => ?_⟩
        refine ⟨sz, fun tu ntu => ?_⟩
        have su := same_new (o := .tup [.str "order", .ref l2]) ntu
        refine ⟨sm14.trans (s15.trans (s16.trans su)), _, _, ⟨tu, .ref l2, rfl, ?_, ?_⟩, rfl⟩
        · unfold dueO
          rw [hm, if_pos c2, upd_same]
        · unfold dueO
          rw [hm, if_pos c2, ← map_filter L (fun q => decide (q.1 ≠ n)), ← r16]
          exact dp_q (SqL.of (su _ _ at16)) (q16.same su)
      · rw [decide_eq_false c2]
        refine ⟨sm14, _, _, ⟨td, .int n, rfl, ?_, ?_⟩, rfl⟩
        · unfold dueO
          rw [hm, if_neg c2]
          exact s14 _ _ upd_same
        · unfold dueO
          rw [hm, if_neg c2]
          exact .int n
    rintro σ' H15 ⟨sm15, u, y12, due, rfl⟩
    have ok2 := dueO_ok (L.map (·.2)) n
    have fin : ∀ {H' : Hp} {w9 : Option V}, Same H7 H' → Same H7 H' ∧ ∃ y5 y6 y7 y8' y9 y10 y11' y12' : Option V, [some (V.ref a), some (.ref dr), some (.ref hp), some (.ref lo), some (.ref kt), some (.int (0 + (i : Int))), some (.int n), some (.str x), y8, w9, some u, y11, y12] = [some (.ref a), some (.ref dr), some (.ref hp), some (.ref lo), some (.ref kt), y5, y6, y7, y8', y9, y10, y11', y12'] := fun s => ⟨s, _, _, _, _, _, _, _, _, rfl⟩
    refine ⟨_, rfl, _, rfl, _, rfl, hp, lo, L, n, R, rfl, hA7.same sm15, by omega, hh.asc, tx100, small, SqL.of (sm15 _ _ lo7), q7.same sm15, r4, fun c2 t H16 s16 at16 => ?_, fun c2 t l2 R2 H16 s16 at16 nl2 al2 q16 r16 => ?_⟩
    · -- none
      have e1 : dueO (L.map (·.2)) n = (("none" : Str), PyData.int n) := by unfold dueO; rw [hm, if_neg c2]
      have told2 : Due K H16 (.ref t) (dueO (L.map (·.2)) n) := Due.of e1.symm ⟨t, .int n, rfl, at16, .int n⟩
      refine ⟨_, rfl, _, rfl, _, _, told2.dp, (due.same s16).dp, ok2.1, ok2.1, ?_⟩
      rw [ok2.2]
      refine ⟨_, rfl, iteF ?_⟩
      have sm16 := sm15.trans s16
      refine ⟨_, rfl, _, rfl, sz, fun t3 nt3 => ⟨_, rfl, _, _, (same2 sm16 nt3).1, (same2 sm16 nt3).2, okp.1, okp.1, ?_⟩⟩
      rw [okp.2]
      refine ⟨_, rfl, iteF ?_⟩
      have s17 := same_new (o := .tup [.ref hp, .ref lo]) nt3
      refine ⟨_, rfl, t, _, _, _, rfl, rfl, .inl (.inl (s17 _ _ at16)), (show atI [V.str "none", V.int n] 0 = some (.str "none") from rfl), rfl, _, rfl, ?_⟩
      exact iteF (fin (sm16.trans s17))
    · -- an order: it is written to, and told once more
      have e1 : dueO (L.map (·.2)) n = (("order" : Str), dQ ((ordE ((L.map (·.2)).filter fun q => decide (q.1 ≠ n))).map (·.2))) := by unfold dueO; rw [hm, if_pos c2]
      have told2 : Due K H16 (.ref t) (dueO (L.map (·.2)) n) := Due.of e1.symm ⟨t, .ref l2, rfl, at16, by rw [← r16]; exact dp_q (SqL.of al2) q16⟩
      refine ⟨_, rfl, _, rfl, _, _, told2.dp, (due.same s16).dp, ok2.1, ok2.1, ?_⟩
      rw [ok2.2]
      refine ⟨_, rfl, iteF ?_⟩
      have sm16 := sm15.trans s16
      refine ⟨_, rfl, _, rfl, sz, fun t3 nt3 => ⟨_, rfl, _, _, (same2 sm16 nt3).1, (same2 sm16 nt3).2, okp.1, okp.1, ?_⟩⟩
      rw [okp.2]
      refine ⟨_, rfl, iteF ?_⟩
      have s17 := same_new (o := .tup [.ref hp, .ref lo]) nt3
      have sm17 := s16.trans s17
      have at17 := s17 _ _ at16
      have al17 := s17 _ _ al2
      generalize upd H16 t3 (.tup [.ref hp, .ref lo]) = H17 at s17 sm17 at17 al17 ⊢
      refine ⟨_, rfl, t, _, _, _, rfl, rfl, .inl (.inl at17), (show atI [V.str "order", V.ref l2] 0 = some (.str "order") from rfl), rfl, _, rfl, ?_⟩
      refine iteT ?_
      refine ⟨_, rfl, t, _, _, _, rfl, rfl, .inl (.inl at17), (show atI [V.str "order", V.ref l2] 1 = some (.ref l2) from rfl), .inl ⟨rfl, _, SqL.of al17⟩, sz, fun t4 nt4 => ?_⟩
      have s18 := same_new (o := .tup [.int 0, .int 0]) nt4
      have rr : R2.length ≤ 60000 := by
        have e := congrArg List.length r16
        rw [List.length_map, List.length_map] at e
        rw [e]
        refine Nat.le_trans (ordE_len (m := 100) fun q hq => ?_) ?_
        · obtain ⟨y, hy, rfl⟩ := List.mem_map.mp (List.mem_filter.mp hq).1
          exact tx100 y hy
        · have := List.length_filter_le (fun q : Int × Str => decide (q.1 ≠ n)) (L.map (·.2))
          rw [List.length_map] at this
          omega
      refine ⟨l2, _, _, rfl, rfl, s18 _ _ al17, (by rw [qrefs_len]; exact Nat.lt_of_le_of_lt rr (by decide)), ?_⟩
      have sm19 : Same H15 (upd (upd H17 t4 (.tup [.int 0, .int 0])) l2 (.lst (qrefs R2 ++ [.ref t4]))) := same_mut (sm17.trans s18) nl2
      generalize upd (upd H17 t4 (.tup [.int 0, .int 0])) l2 (.lst (qrefs R2 ++ [.ref t4])) = H19 at sm19 ⊢
      have sm20 := sm15.trans sm19
      refine ⟨_, rfl, _, rfl, _, rfl, hp, lo, L, n, R, rfl, hA7.same sm20, by omega, hh.asc, tx100, small, SqL.of (sm20 _ _ lo7), q7.same sm20, r4, fun c3 => absurd c2 c3, fun _ t' l3 R3 H21 s21 at21 nl3 al3 q21 r21 => ?_⟩
      have told3 : Due K H21 (.ref t') (dueO (L.map (·.2)) n) := Due.of e1.symm ⟨t', .ref l3, rfl, at21, by rw [← r21]; exact dp_q (SqL.of al3) q21⟩
      refine ⟨_, rfl, _, _, told3.dp, (due.same (sm19.trans s21)).dp, ok2.1, ok2.1, ?_⟩
      rw [ok2.2]
      exact ⟨_, rfl, iteF (fin (sm20.trans s21))⟩
end

end SH
set_option Elab.async false
set_option linter.all false
set_option maxRecDepth 100000
set_option maxHeartbeats 4000000
namespace SH
open PySem PySem.Spec PyProof.Rows L2
theorem law_all {P : Program} {w : World} {K : PySem.W.Frag} {mg : Str → Option Value} {base : Heap} {ea : Ea} {f : Addr} {fd : FuncData} (T : Txt K mg ea) (F : Fun K "law" "law" s_law f fd) : FnOk P w K mg base CX0 8 f fd ["script"] (spLaw K) :=
  have mix := ok__law_mix (P := P) (w := w) (base := base) T
  have text := ok__law_text T mix
  have has := ok__has_number (P := P) (w := w) (base := base) T
  have ends := ok__law_ends (P := P) (w := w) (base := base) T
  have ord := ok__law_order T ends
  ok_law T F (ok__law_draws T) (ok__law_house T mix text) mix text ord (ok__law_with T (ok_order_with T (ok_with_text T has (ok__is_text T (ok__is_letter T))))) (ok__law_without T (ok_order_without T (ok_without_text T has))) (ok__law_due T ord)
theorem all_mk {P : Program} {w : World} {K : PySem.W.Frag} {h : Heap} {mg : Str → Option Value} {fa : Addr} (X : K.In h) (G : h.Ns mainGlobals mg) (hfa : mg "law" = some (.ref fa))
    {t__GREATEST_NUMBER : Tok}
    {t__MOST_LETTERS : Tok}
    {t__MOST_TEXTS : Tok}
    {t__PERCENT_SIGN : Tok}
    {f_with_text f_without_text f__is_text f__is_letter f__has_number f_order_with f_order_without f__law_draws f__law_mix f__law_text f__law_house f__law_ends f__law_order f__law_with f__law_without f__law_due f_law : Addr}
    {od_with_text an_with_text od_without_text an_without_text od__is_text an__is_text od__is_letter an__is_letter od__has_number an__has_number od_order_with an_order_with od_order_without an_order_without od__law_draws an__law_draws od__law_mix an__law_mix od__law_text an__law_text od__law_house an__law_house od__law_ends an__law_ends od__law_order an__law_order od__law_with an__law_with od__law_without an__law_without od__law_due an__law_due od_law an_law : Option Addr}
    {sl_with_text sl_without_text sl__is_text sl__is_letter sl__has_number sl_order_with sl_order_without sl__law_draws sl__law_mix sl__law_text sl__law_house sl__law_ends sl__law_order sl__law_with sl__law_without sl__law_due sl_law : Array (Option Value)}
    {oc_with_text kV_with_text dc_with_text pm_with_text cd_with_text ct_with_text oc_without_text kV_without_text dc_without_text pm_without_text cd_without_text ct_without_text oc__is_text kV__is_text dc__is_text pm__is_text cd__is_text ct__is_text oc__is_letter kV__is_letter dc__is_letter pm__is_letter cd__is_letter ct__is_letter oc__has_number kV__has_number dc__has_number pm__has_number cd__has_number ct__has_number oc_order_with kV_order_with dc_order_with pm_order_with cd_order_with ct_order_with oc_order_without kV_order_without dc_order_without pm_order_without cd_order_without ct_order_without oc__law_draws kV__law_draws dc__law_draws pm__law_draws cd__law_draws ct__law_draws oc__law_mix kV__law_mix dc__law_mix pm__law_mix cd__law_mix ct__law_mix oc__law_text kV__law_text dc__law_text pm__law_text cd__law_text ct__law_text oc__law_house kV__law_house dc__law_house pm__law_house cd__law_house ct__law_house oc__law_ends kV__law_ends dc__law_ends pm__law_ends cd__law_ends ct__law_ends oc__law_order kV__law_order dc__law_order pm__law_order cd__law_order ct__law_order oc__law_with kV__law_with dc__law_with pm__law_with cd__law_with ct__law_with oc__law_without kV__law_without dc__law_without pm__law_without cd__law_without ct__law_without oc__law_due kV__law_due dc__law_due pm__law_due cd__law_due ct__law_due oc_law kV_law dc_law pm_law cd_law ct_law : Value}
    {fI : Addr} {odI anI : Option Addr} {slI : Array (Option Value)} {ocI kVI dcI pmI cdI ctI : Value}
    {C_HouseError N_HouseError C_BadText N_BadText C_TooMany N_TooMany C_TakenNumber N_TakenNumber C_NoText N_NoText C_OutOfRange N_OutOfRange : Addr}
    {nm_HouseError q_HouseError : Str} {bs_HouseError : List Value} {sn_HouseError : List Str} {sub_HouseError : List Value} {ab_HouseError : Bool} {col_HouseError : Option Bool} {dd_HouseError : Option Addr} {m0_HouseError m1_HouseError m2_HouseError m3_HouseError m5_HouseError : Option Value}
    {nm_BadText q_BadText : Str} {bs_BadText : List Value} {sn_BadText : List Str} {sub_BadText : List Value} {ab_BadText : Bool} {col_BadText : Option Bool} {dd_BadText : Option Addr} {m0_BadText m1_BadText m2_BadText m3_BadText m5_BadText : Option Value}
    {nm_TooMany q_TooMany : Str} {bs_TooMany : List Value} {sn_TooMany : List Str} {sub_TooMany : List Value} {ab_TooMany : Bool} {col_TooMany : Option Bool} {dd_TooMany : Option Addr} {m0_TooMany m1_TooMany m2_TooMany m3_TooMany m5_TooMany : Option Value}
    {nm_TakenNumber q_TakenNumber : Str} {bs_TakenNumber : List Value} {sn_TakenNumber : List Str} {sub_TakenNumber : List Value} {ab_TakenNumber : Bool} {col_TakenNumber : Option Bool} {dd_TakenNumber : Option Addr} {m0_TakenNumber m1_TakenNumber m2_TakenNumber m3_TakenNumber m5_TakenNumber : Option Value}
    {nm_NoText q_NoText : Str} {bs_NoText : List Value} {sn_NoText : List Str} {sub_NoText : List Value} {ab_NoText : Bool} {col_NoText : Option Bool} {dd_NoText : Option Addr} {m0_NoText m1_NoText m2_NoText m3_NoText m5_NoText : Option Value}
    {nm_OutOfRange q_OutOfRange : Str} {bs_OutOfRange : List Value} {sn_OutOfRange : List Str} {sub_OutOfRange : List Value} {ab_OutOfRange : Bool} {col_OutOfRange : Option Bool} {dd_OutOfRange : Option Addr} {m0_OutOfRange m1_OutOfRange m2_OutOfRange m3_OutOfRange m5_OutOfRange : Option Value}
    (z_abs : PySem.W.nsIn K mainGlobals "abs" = some none)
    (z_all : PySem.W.nsIn K mainGlobals "all" = some none)
    (z_bool : PySem.W.nsIn K mainGlobals "bool" = some none)
    (z_dict : PySem.W.nsIn K mainGlobals "dict" = some none)
    (z_int : PySem.W.nsIn K mainGlobals "int" = some none)
    (z_isinstance : PySem.W.nsIn K mainGlobals "isinstance" = some none)
    (z_len : PySem.W.nsIn K mainGlobals "len" = some none)
    (z_list : PySem.W.nsIn K mainGlobals "list" = some none)
    (z_min : PySem.W.nsIn K mainGlobals "min" = some none)
    (z_ord : PySem.W.nsIn K mainGlobals "ord" = some none)
    (z_range : PySem.W.nsIn K mainGlobals "range" = some none)
    (z_sorted : PySem.W.nsIn K mainGlobals "sorted" = some none)
    (n__GREATEST_NUMBER : PySem.W.nsIn K mainGlobals "_GREATEST_NUMBER" = some (some (.int 99 t__GREATEST_NUMBER)))
    (n__MOST_LETTERS : PySem.W.nsIn K mainGlobals "_MOST_LETTERS" = some (some (.int 40 t__MOST_LETTERS)))
    (n__MOST_TEXTS : PySem.W.nsIn K mainGlobals "_MOST_TEXTS" = some (some (.int 8 t__MOST_TEXTS)))
    (n__PERCENT_SIGN : PySem.W.nsIn K mainGlobals "_PERCENT_SIGN" = some (some (.int 37 t__PERCENT_SIGN)))
    (a_with_text : PySem.W.nsIn K mainGlobals "with_text" = some (some (.ref f_with_text)))
    (l_with_text : K.lookup f_with_text = some ⟨oc_with_text, od_with_text, .func (PySem.W.fnOf "with_text" "with_text" (defArgs s_with_text) (defBody s_with_text) (defScope s_with_text) .none kV_with_text dc_with_text pm_with_text an_with_text cd_with_text ct_with_text), sl_with_text⟩)
    (c_with_text : PySem.W.codeIn K cd_with_text "with_text" = true)
    (k_with_text : PySem.W.keepIn K (.ref f_with_text) = true)
    (a_without_text : PySem.W.nsIn K mainGlobals "without_text" = some (some (.ref f_without_text)))
    (l_without_text : K.lookup f_without_text = some ⟨oc_without_text, od_without_text, .func (PySem.W.fnOf "without_text" "without_text" (defArgs s_without_text) (defBody s_without_text) (defScope s_without_text) .none kV_without_text dc_without_text pm_without_text an_without_text cd_without_text ct_without_text), sl_without_text⟩)
    (c_without_text : PySem.W.codeIn K cd_without_text "without_text" = true)
    (k_without_text : PySem.W.keepIn K (.ref f_without_text) = true)
    (a__is_text : PySem.W.nsIn K mainGlobals "_is_text" = some (some (.ref f__is_text)))
    (l__is_text : K.lookup f__is_text = some ⟨oc__is_text, od__is_text, .func (PySem.W.fnOf "_is_text" "_is_text" (defArgs s__is_text) (defBody s__is_text) (defScope s__is_text) .none kV__is_text dc__is_text pm__is_text an__is_text cd__is_text ct__is_text), sl__is_text⟩)
    (c__is_text : PySem.W.codeIn K cd__is_text "_is_text" = true)
    (k__is_text : PySem.W.keepIn K (.ref f__is_text) = true)
    (a__is_letter : PySem.W.nsIn K mainGlobals "_is_letter" = some (some (.ref f__is_letter)))
    (l__is_letter : K.lookup f__is_letter = some ⟨oc__is_letter, od__is_letter, .func (PySem.W.fnOf "_is_letter" "_is_letter" (defArgs s__is_letter) (defBody s__is_letter) (defScope s__is_letter) .none kV__is_letter dc__is_letter pm__is_letter an__is_letter cd__is_letter ct__is_letter), sl__is_letter⟩)
    (c__is_letter : PySem.W.codeIn K cd__is_letter "_is_letter" = true)
    (k__is_letter : PySem.W.keepIn K (.ref f__is_letter) = true)
    (a__has_number : PySem.W.nsIn K mainGlobals "_has_number" = some (some (.ref f__has_number)))
    (l__has_number : K.lookup f__has_number = some ⟨oc__has_number, od__has_number, .func (PySem.W.fnOf "_has_number" "_has_number" (defArgs s__has_number) (defBody s__has_number) (defScope s__has_number) .none kV__has_number dc__has_number pm__has_number an__has_number cd__has_number ct__has_number), sl__has_number⟩)
    (c__has_number : PySem.W.codeIn K cd__has_number "_has_number" = true)
    (k__has_number : PySem.W.keepIn K (.ref f__has_number) = true)
    (a_order_with : PySem.W.nsIn K mainGlobals "order_with" = some (some (.ref f_order_with)))
    (l_order_with : K.lookup f_order_with = some ⟨oc_order_with, od_order_with, .func (PySem.W.fnOf "order_with" "order_with" (defArgs s_order_with) (defBody s_order_with) (defScope s_order_with) .none kV_order_with dc_order_with pm_order_with an_order_with cd_order_with ct_order_with), sl_order_with⟩)
    (c_order_with : PySem.W.codeIn K cd_order_with "order_with" = true)
    (k_order_with : PySem.W.keepIn K (.ref f_order_with) = true)
    (a_order_without : PySem.W.nsIn K mainGlobals "order_without" = some (some (.ref f_order_without)))
    (l_order_without : K.lookup f_order_without = some ⟨oc_order_without, od_order_without, .func (PySem.W.fnOf "order_without" "order_without" (defArgs s_order_without) (defBody s_order_without) (defScope s_order_without) .none kV_order_without dc_order_without pm_order_without an_order_without cd_order_without ct_order_without), sl_order_without⟩)
    (c_order_without : PySem.W.codeIn K cd_order_without "order_without" = true)
    (k_order_without : PySem.W.keepIn K (.ref f_order_without) = true)
    (a__law_draws : PySem.W.nsIn K mainGlobals "_law_draws" = some (some (.ref f__law_draws)))
    (l__law_draws : K.lookup f__law_draws = some ⟨oc__law_draws, od__law_draws, .func (PySem.W.fnOf "_law_draws" "_law_draws" (defArgs s__law_draws) (defBody s__law_draws) (defScope s__law_draws) .none kV__law_draws dc__law_draws pm__law_draws an__law_draws cd__law_draws ct__law_draws), sl__law_draws⟩)
    (c__law_draws : PySem.W.codeIn K cd__law_draws "_law_draws" = true)
    (k__law_draws : PySem.W.keepIn K (.ref f__law_draws) = true)
    (a__law_mix : PySem.W.nsIn K mainGlobals "_law_mix" = some (some (.ref f__law_mix)))
    (l__law_mix : K.lookup f__law_mix = some ⟨oc__law_mix, od__law_mix, .func (PySem.W.fnOf "_law_mix" "_law_mix" (defArgs s__law_mix) (defBody s__law_mix) (defScope s__law_mix) .none kV__law_mix dc__law_mix pm__law_mix an__law_mix cd__law_mix ct__law_mix), sl__law_mix⟩)
    (c__law_mix : PySem.W.codeIn K cd__law_mix "_law_mix" = true)
    (k__law_mix : PySem.W.keepIn K (.ref f__law_mix) = true)
    (a__law_text : PySem.W.nsIn K mainGlobals "_law_text" = some (some (.ref f__law_text)))
    (l__law_text : K.lookup f__law_text = some ⟨oc__law_text, od__law_text, .func (PySem.W.fnOf "_law_text" "_law_text" (defArgs s__law_text) (defBody s__law_text) (defScope s__law_text) .none kV__law_text dc__law_text pm__law_text an__law_text cd__law_text ct__law_text), sl__law_text⟩)
    (c__law_text : PySem.W.codeIn K cd__law_text "_law_text" = true)
    (k__law_text : PySem.W.keepIn K (.ref f__law_text) = true)
    (a__law_house : PySem.W.nsIn K mainGlobals "_law_house" = some (some (.ref f__law_house)))
    (l__law_house : K.lookup f__law_house = some ⟨oc__law_house, od__law_house, .func (PySem.W.fnOf "_law_house" "_law_house" (defArgs s__law_house) (defBody s__law_house) (defScope s__law_house) .none kV__law_house dc__law_house pm__law_house an__law_house cd__law_house ct__law_house), sl__law_house⟩)
    (c__law_house : PySem.W.codeIn K cd__law_house "_law_house" = true)
    (k__law_house : PySem.W.keepIn K (.ref f__law_house) = true)
    (a__law_ends : PySem.W.nsIn K mainGlobals "_law_ends" = some (some (.ref f__law_ends)))
    (l__law_ends : K.lookup f__law_ends = some ⟨oc__law_ends, od__law_ends, .func (PySem.W.fnOf "_law_ends" "_law_ends" (defArgs s__law_ends) (defBody s__law_ends) (defScope s__law_ends) .none kV__law_ends dc__law_ends pm__law_ends an__law_ends cd__law_ends ct__law_ends), sl__law_ends⟩)
    (c__law_ends : PySem.W.codeIn K cd__law_ends "_law_ends" = true)
    (k__law_ends : PySem.W.keepIn K (.ref f__law_ends) = true)
    (a__law_order : PySem.W.nsIn K mainGlobals "_law_order" = some (some (.ref f__law_order)))
    (l__law_order : K.lookup f__law_order = some ⟨oc__law_order, od__law_order, .func (PySem.W.fnOf "_law_order" "_law_order" (defArgs s__law_order) (defBody s__law_order) (defScope s__law_order) .none kV__law_order dc__law_order pm__law_order an__law_order cd__law_order ct__law_order), sl__law_order⟩)
    (c__law_order : PySem.W.codeIn K cd__law_order "_law_order" = true)
    (k__law_order : PySem.W.keepIn K (.ref f__law_order) = true)
    (a__law_with : PySem.W.nsIn K mainGlobals "_law_with" = some (some (.ref f__law_with)))
    (l__law_with : K.lookup f__law_with = some ⟨oc__law_with, od__law_with, .func (PySem.W.fnOf "_law_with" "_law_with" (defArgs s__law_with) (defBody s__law_with) (defScope s__law_with) .none kV__law_with dc__law_with pm__law_with an__law_with cd__law_with ct__law_with), sl__law_with⟩)
    (c__law_with : PySem.W.codeIn K cd__law_with "_law_with" = true)
    (k__law_with : PySem.W.keepIn K (.ref f__law_with) = true)
    (a__law_without : PySem.W.nsIn K mainGlobals "_law_without" = some (some (.ref f__law_without)))
    (l__law_without : K.lookup f__law_without = some ⟨oc__law_without, od__law_without, .func (PySem.W.fnOf "_law_without" "_law_without" (defArgs s__law_without) (defBody s__law_without) (defScope s__law_without) .none kV__law_without dc__law_without pm__law_without an__law_without cd__law_without ct__law_without), sl__law_without⟩)
    (c__law_without : PySem.W.codeIn K cd__law_without "_law_without" = true)
    (k__law_without : PySem.W.keepIn K (.ref f__law_without) = true)
    (a__law_due : PySem.W.nsIn K mainGlobals "_law_due" = some (some (.ref f__law_due)))
    (l__law_due : K.lookup f__law_due = some ⟨oc__law_due, od__law_due, .func (PySem.W.fnOf "_law_due" "_law_due" (defArgs s__law_due) (defBody s__law_due) (defScope s__law_due) .none kV__law_due dc__law_due pm__law_due an__law_due cd__law_due ct__law_due), sl__law_due⟩)
    (c__law_due : PySem.W.codeIn K cd__law_due "_law_due" = true)
    (k__law_due : PySem.W.keepIn K (.ref f__law_due) = true)
    (a_law : PySem.W.nsIn K mainGlobals "law" = some (some (.ref f_law)))
    (l_law : K.lookup f_law = some ⟨oc_law, od_law, .func (PySem.W.fnOf "law" "law" (defArgs s_law) (defBody s_law) (defScope s_law) .none kV_law dc_law pm_law an_law cd_law ct_law), sl_law⟩)
    (c_law : PySem.W.codeIn K cd_law "law" = true)
    (k_law : PySem.W.keepIn K (.ref f_law) = true)
    (xg_HouseError : PySem.W.nsIn K mainGlobals "HouseError" = some (some (.ref C_HouseError)))
    (xx_HouseError : K.lookup C_HouseError = some (excClassObj nm_HouseError q_HouseError C_HouseError N_HouseError bs_HouseError [.type "ValueError", .type "Exception", .type "BaseException", .type "object"] true sn_HouseError sub_HouseError ab_HouseError col_HouseError dd_HouseError m0_HouseError m1_HouseError m2_HouseError m3_HouseError m5_HouseError "ValueError.__new__"))
    (xs_HouseError : PySem.W.findIn K (.ref C_HouseError) "__setattr__" = some (some (.builtin "object.__setattr__")))
    (xga_HouseError : PySem.W.findIn K (.ref C_HouseError) "__getattribute__" = some (some (.builtin "BaseException.__getattribute__")))
    (xgg_HouseError : PySem.W.findIn K (.ref C_HouseError) "__getattr__" = some none)
    (xat_HouseError : PySem.W.findIn K (.ref C_HouseError) "at" = some none)
    (xi_HouseError : PySem.W.findIn K (.ref C_HouseError) "__init__" = some (some (.ref fI)))
    (xb_HouseError : PySem.W.subIn K (.ref C_HouseError) (.type "BaseException") = some true)
    (xt_HouseError : PySem.W.typeIn K (.ref C_HouseError) = some (.type "type"))
    (xh_HouseError : PySem.W.hasDictIn K C_HouseError = true)
    (xk_HouseError : PySem.W.keepIn K (.ref C_HouseError) = true)
    (xis_HouseError : PySem.W.isClsIn K C_HouseError = true)
    (xg_BadText : PySem.W.nsIn K mainGlobals "BadText" = some (some (.ref C_BadText)))
    (xx_BadText : K.lookup C_BadText = some (excClassObj nm_BadText q_BadText C_BadText N_BadText bs_BadText (.ref C_HouseError :: [.type "ValueError", .type "Exception", .type "BaseException", .type "object"]) true sn_BadText sub_BadText ab_BadText col_BadText dd_BadText m0_BadText m1_BadText m2_BadText m3_BadText m5_BadText "ValueError.__new__"))
    (xs_BadText : PySem.W.findIn K (.ref C_BadText) "__setattr__" = some (some (.builtin "object.__setattr__")))
    (xga_BadText : PySem.W.findIn K (.ref C_BadText) "__getattribute__" = some (some (.builtin "BaseException.__getattribute__")))
    (xgg_BadText : PySem.W.findIn K (.ref C_BadText) "__getattr__" = some none)
    (xat_BadText : PySem.W.findIn K (.ref C_BadText) "at" = some none)
    (xi_BadText : PySem.W.findIn K (.ref C_BadText) "__init__" = some (some (.ref fI)))
    (xb_BadText : PySem.W.subIn K (.ref C_BadText) (.type "BaseException") = some true)
    (xt_BadText : PySem.W.typeIn K (.ref C_BadText) = some (.type "type"))
    (xh_BadText : PySem.W.hasDictIn K C_BadText = true)
    (xk_BadText : PySem.W.keepIn K (.ref C_BadText) = true)
    (xis_BadText : PySem.W.isClsIn K C_BadText = true)
    (xg_TooMany : PySem.W.nsIn K mainGlobals "TooMany" = some (some (.ref C_TooMany)))
    (xx_TooMany : K.lookup C_TooMany = some (excClassObj nm_TooMany q_TooMany C_TooMany N_TooMany bs_TooMany (.ref C_HouseError :: [.type "ValueError", .type "Exception", .type "BaseException", .type "object"]) true sn_TooMany sub_TooMany ab_TooMany col_TooMany dd_TooMany m0_TooMany m1_TooMany m2_TooMany m3_TooMany m5_TooMany "ValueError.__new__"))
    (xs_TooMany : PySem.W.findIn K (.ref C_TooMany) "__setattr__" = some (some (.builtin "object.__setattr__")))
    (xga_TooMany : PySem.W.findIn K (.ref C_TooMany) "__getattribute__" = some (some (.builtin "BaseException.__getattribute__")))
    (xgg_TooMany : PySem.W.findIn K (.ref C_TooMany) "__getattr__" = some none)
    (xat_TooMany : PySem.W.findIn K (.ref C_TooMany) "at" = some none)
    (xi_TooMany : PySem.W.findIn K (.ref C_TooMany) "__init__" = some (some (.ref fI)))
    (xb_TooMany : PySem.W.subIn K (.ref C_TooMany) (.type "BaseException") = some true)
    (xt_TooMany : PySem.W.typeIn K (.ref C_TooMany) = some (.type "type"))
    (xh_TooMany : PySem.W.hasDictIn K C_TooMany = true)
    (xk_TooMany : PySem.W.keepIn K (.ref C_TooMany) = true)
    (xis_TooMany : PySem.W.isClsIn K C_TooMany = true)
    (xg_TakenNumber : PySem.W.nsIn K mainGlobals "TakenNumber" = some (some (.ref C_TakenNumber)))
    (xx_TakenNumber : K.lookup C_TakenNumber = some (excClassObj nm_TakenNumber q_TakenNumber C_TakenNumber N_TakenNumber bs_TakenNumber (.ref C_HouseError :: [.type "ValueError", .type "Exception", .type "BaseException", .type "object"]) true sn_TakenNumber sub_TakenNumber ab_TakenNumber col_TakenNumber dd_TakenNumber m0_TakenNumber m1_TakenNumber m2_TakenNumber m3_TakenNumber m5_TakenNumber "ValueError.__new__"))
    (xs_TakenNumber : PySem.W.findIn K (.ref C_TakenNumber) "__setattr__" = some (some (.builtin "object.__setattr__")))
    (xga_TakenNumber : PySem.W.findIn K (.ref C_TakenNumber) "__getattribute__" = some (some (.builtin "BaseException.__getattribute__")))
    (xgg_TakenNumber : PySem.W.findIn K (.ref C_TakenNumber) "__getattr__" = some none)
    (xat_TakenNumber : PySem.W.findIn K (.ref C_TakenNumber) "at" = some none)
    (xi_TakenNumber : PySem.W.findIn K (.ref C_TakenNumber) "__init__" = some (some (.ref fI)))
    (xb_TakenNumber : PySem.W.subIn K (.ref C_TakenNumber) (.type "BaseException") = some true)
    (xt_TakenNumber : PySem.W.typeIn K (.ref C_TakenNumber) = some (.type "type"))
    (xh_TakenNumber : PySem.W.hasDictIn K C_TakenNumber = true)
    (xk_TakenNumber : PySem.W.keepIn K (.ref C_TakenNumber) = true)
    (xis_TakenNumber : PySem.W.isClsIn K C_TakenNumber = true)
    (xg_NoText : PySem.W.nsIn K mainGlobals "NoText" = some (some (.ref C_NoText)))
    (xx_NoText : K.lookup C_NoText = some (excClassObj nm_NoText q_NoText C_NoText N_NoText bs_NoText (.ref C_HouseError :: [.type "ValueError", .type "Exception", .type "BaseException", .type "object"]) true sn_NoText sub_NoText ab_NoText col_NoText dd_NoText m0_NoText m1_NoText m2_NoText m3_NoText m5_NoText "ValueError.__new__"))
    (xs_NoText : PySem.W.findIn K (.ref C_NoText) "__setattr__" = some (some (.builtin "object.__setattr__")))
    (xga_NoText : PySem.W.findIn K (.ref C_NoText) "__getattribute__" = some (some (.builtin "BaseException.__getattribute__")))
    (xgg_NoText : PySem.W.findIn K (.ref C_NoText) "__getattr__" = some none)
    (xat_NoText : PySem.W.findIn K (.ref C_NoText) "at" = some none)
    (xi_NoText : PySem.W.findIn K (.ref C_NoText) "__init__" = some (some (.ref fI)))
    (xb_NoText : PySem.W.subIn K (.ref C_NoText) (.type "BaseException") = some true)
    (xt_NoText : PySem.W.typeIn K (.ref C_NoText) = some (.type "type"))
    (xh_NoText : PySem.W.hasDictIn K C_NoText = true)
    (xk_NoText : PySem.W.keepIn K (.ref C_NoText) = true)
    (xis_NoText : PySem.W.isClsIn K C_NoText = true)
    (xg_OutOfRange : PySem.W.nsIn K mainGlobals "OutOfRange" = some (some (.ref C_OutOfRange)))
    (xx_OutOfRange : K.lookup C_OutOfRange = some (excClassObj nm_OutOfRange q_OutOfRange C_OutOfRange N_OutOfRange bs_OutOfRange (.ref C_HouseError :: [.type "ValueError", .type "Exception", .type "BaseException", .type "object"]) true sn_OutOfRange sub_OutOfRange ab_OutOfRange col_OutOfRange dd_OutOfRange m0_OutOfRange m1_OutOfRange m2_OutOfRange m3_OutOfRange m5_OutOfRange "ValueError.__new__"))
    (xs_OutOfRange : PySem.W.findIn K (.ref C_OutOfRange) "__setattr__" = some (some (.builtin "object.__setattr__")))
    (xga_OutOfRange : PySem.W.findIn K (.ref C_OutOfRange) "__getattribute__" = some (some (.builtin "BaseException.__getattribute__")))
    (xgg_OutOfRange : PySem.W.findIn K (.ref C_OutOfRange) "__getattr__" = some none)
    (xat_OutOfRange : PySem.W.findIn K (.ref C_OutOfRange) "at" = some none)
    (xi_OutOfRange : PySem.W.findIn K (.ref C_OutOfRange) "__init__" = some (some (.ref fI)))
    (xb_OutOfRange : PySem.W.subIn K (.ref C_OutOfRange) (.type "BaseException") = some true)
    (xt_OutOfRange : PySem.W.typeIn K (.ref C_OutOfRange) = some (.type "type"))
    (xh_OutOfRange : PySem.W.hasDictIn K C_OutOfRange = true)
    (xk_OutOfRange : PySem.W.keepIn K (.ref C_OutOfRange) = true)
    (xis_OutOfRange : PySem.W.isClsIn K C_OutOfRange = true)
    (l_I : K.lookup fI = some ⟨ocI, odI, .func (PySem.W.fnOf "__init__" "HouseError.__init__" (defArgs s_init) (defBody s_init) (defScope s_init) .none kVI dcI pmI anI cdI ctI), slI⟩)
    (c_I : PySem.W.codeIn K cdI "HouseError.__init__" = true)
    (k_I : PySem.W.keepIn K (.ref fI) = true)
    (t_I : PySem.W.typeIn K (.ref fI) = some (.type "function"))
    (e_OutOfRange_OutOfRange : PySem.W.subIn K (.ref C_OutOfRange) (.ref C_OutOfRange) = some true)
    (e_TakenNumber_OutOfRange : PySem.W.subIn K (.ref C_TakenNumber) (.ref C_OutOfRange) = some false)
    (e_TakenNumber_TakenNumber : PySem.W.subIn K (.ref C_TakenNumber) (.ref C_TakenNumber) = some true)
    (e_BadText_OutOfRange : PySem.W.subIn K (.ref C_BadText) (.ref C_OutOfRange) = some false)
    (e_BadText_TakenNumber : PySem.W.subIn K (.ref C_BadText) (.ref C_TakenNumber) = some false)
    (e_BadText_BadText : PySem.W.subIn K (.ref C_BadText) (.ref C_BadText) = some true)
    (e_TooMany_OutOfRange : PySem.W.subIn K (.ref C_TooMany) (.ref C_OutOfRange) = some false)
    (e_TooMany_TakenNumber : PySem.W.subIn K (.ref C_TooMany) (.ref C_TakenNumber) = some false)
    (e_TooMany_BadText : PySem.W.subIn K (.ref C_TooMany) (.ref C_BadText) = some false)
    (e_TooMany_TooMany : PySem.W.subIn K (.ref C_TooMany) (.ref C_TooMany) = some true)
    (e_NoText_OutOfRange : PySem.W.subIn K (.ref C_NoText) (.ref C_OutOfRange) = some false)
    (e_NoText_TakenNumber : PySem.W.subIn K (.ref C_NoText) (.ref C_TakenNumber) = some false)
    (e_NoText_BadText : PySem.W.subIn K (.ref C_NoText) (.ref C_BadText) = some false)
    (e_NoText_TooMany : PySem.W.subIn K (.ref C_NoText) (.ref C_TooMany) = some false)
    (e_NoText_NoText : PySem.W.subIn K (.ref C_NoText) (.ref C_NoText) = some true)
    : ∃ fd : FuncData, (∀ (s : Shared) (v : Value), BindsTo s fd ⟨[v], []⟩ [("script", v)]) ∧ ∀ base : Heap, K.In base → base.Ns mainGlobals mg → FnOk P w K mg base CX0 8 fa fd ["script"] (spLaw K) := by
  have e := hfa.symm.trans (PySem.W.mg_of X G a_law)
  cases e
  have T : Txt K mg ⟨fI, C_HouseError, C_BadText, C_TooMany, C_TakenNumber, C_NoText, C_OutOfRange⟩ := ⟨PySem.W.mg_none_of X G z_abs, PySem.W.mg_none_of X G z_all, PySem.W.mg_none_of X G z_bool, PySem.W.mg_none_of X G z_dict, PySem.W.mg_none_of X G z_int, PySem.W.mg_none_of X G z_isinstance, PySem.W.mg_none_of X G z_len, PySem.W.mg_none_of X G z_list, PySem.W.mg_none_of X G z_min, PySem.W.mg_none_of X G z_ord, PySem.W.mg_none_of X G z_range, PySem.W.mg_none_of X G z_sorted, ⟨_, PySem.W.mg_of X G n__GREATEST_NUMBER⟩, ⟨_, PySem.W.mg_of X G n__MOST_LETTERS⟩, ⟨_, PySem.W.mg_of X G n__MOST_TEXTS⟩, ⟨_, PySem.W.mg_of X G n__PERCENT_SIGN⟩, ⟨_, _, fun_mk (st := s_with_text) l_with_text c_with_text k_with_text, PySem.W.mg_of X G a_with_text, (fun_mk (st := s_with_text) l_with_text c_with_text k_with_text).binds (ps := ["house", "number", "text"]) fun _ _ _ _ _ _ us hl => match us, hl with | [_, _, _], _ => rfl⟩, ⟨_, _, fun_mk (st := s_without_text) l_without_text c_without_text k_without_text, PySem.W.mg_of X G a_without_text, (fun_mk (st := s_without_text) l_without_text c_without_text k_without_text).binds (ps := ["house", "number"]) fun _ _ _ _ _ _ us hl => match us, hl with | [_, _], _ => rfl⟩, ⟨_, _, fun_mk (st := s__is_text) l__is_text c__is_text k__is_text, PySem.W.mg_of X G a__is_text, (fun_mk (st := s__is_text) l__is_text c__is_text k__is_text).binds (ps := ["text"]) fun _ _ _ _ _ _ us hl => match us, hl with | [_], _ => rfl⟩, ⟨_, _, fun_mk (st := s__is_letter) l__is_letter c__is_letter k__is_letter, PySem.W.mg_of X G a__is_letter, (fun_mk (st := s__is_letter) l__is_letter c__is_letter k__is_letter).binds (ps := ["character"]) fun _ _ _ _ _ _ us hl => match us, hl with | [_], _ => rfl⟩, ⟨_, _, fun_mk (st := s__has_number) l__has_number c__has_number k__has_number, PySem.W.mg_of X G a__has_number, (fun_mk (st := s__has_number) l__has_number c__has_number k__has_number).binds (ps := ["house", "number"]) fun _ _ _ _ _ _ us hl => match us, hl with | [_, _], _ => rfl⟩, ⟨_, _, fun_mk (st := s_order_with) l_order_with c_order_with k_order_with, PySem.W.mg_of X G a_order_with, (fun_mk (st := s_order_with) l_order_with c_order_with k_order_with).binds (ps := ["house", "order", "number", "text"]) fun _ _ _ _ _ _ us hl => match us, hl with | [_, _, _, _], _ => rfl⟩, ⟨_, _, fun_mk (st := s_order_without) l_order_without c_order_without k_order_without, PySem.W.mg_of X G a_order_without, (fun_mk (st := s_order_without) l_order_without c_order_without k_order_without).binds (ps := ["house", "order", "number"]) fun _ _ _ _ _ _ us hl => match us, hl with | [_, _, _], _ => rfl⟩, ⟨_, _, fun_mk (st := s__law_draws) l__law_draws c__law_draws k__law_draws, PySem.W.mg_of X G a__law_draws, (fun_mk (st := s__law_draws) l__law_draws c__law_draws k__law_draws).binds (ps := ["script"]) fun _ _ _ _ _ _ us hl => match us, hl with | [_], _ => rfl⟩, ⟨_, _, fun_mk (st := s__law_mix) l__law_mix c__law_mix k__law_mix, PySem.W.mg_of X G a__law_mix, (fun_mk (st := s__law_mix) l__law_mix c__law_mix k__law_mix).binds (ps := ["draws", "k", "many"]) fun _ _ _ _ _ _ us hl => match us, hl with | [_, _, _], _ => rfl⟩, ⟨_, _, fun_mk (st := s__law_text) l__law_text c__law_text k__law_text, PySem.W.mg_of X G a__law_text, (fun_mk (st := s__law_text) l__law_text c__law_text k__law_text).binds (ps := ["draws", "k", "most"]) fun _ _ _ _ _ _ us hl => match us, hl with | [_, _, _], _ => rfl⟩, ⟨_, _, fun_mk (st := s__law_house) l__law_house c__law_house k__law_house, PySem.W.mg_of X G a__law_house, (fun_mk (st := s__law_house) l__law_house c__law_house k__law_house).binds (ps := ["draws", "k", "most"]) fun _ _ _ _ _ _ us hl => match us, hl with | [_, _, _], _ => rfl⟩, ⟨_, _, fun_mk (st := s__law_ends) l__law_ends c__law_ends k__law_ends, PySem.W.mg_of X G a__law_ends, (fun_mk (st := s__law_ends) l__law_ends c__law_ends k__law_ends).binds (ps := ["house"]) fun _ _ _ _ _ _ us hl => match us, hl with | [_], _ => rfl⟩, ⟨_, _, fun_mk (st := s__law_order) l__law_order c__law_order k__law_order, PySem.W.mg_of X G a__law_order, (fun_mk (st := s__law_order) l__law_order c__law_order k__law_order).binds (ps := ["house"]) fun _ _ _ _ _ _ us hl => match us, hl with | [_], _ => rfl⟩, ⟨_, _, fun_mk (st := s__law_with) l__law_with c__law_with k__law_with, PySem.W.mg_of X G a__law_with, (fun_mk (st := s__law_with) l__law_with c__law_with k__law_with).binds (ps := ["house", "order", "number", "text"]) fun _ _ _ _ _ _ us hl => match us, hl with | [_, _, _, _], _ => rfl⟩, ⟨_, _, fun_mk (st := s__law_without) l__law_without c__law_without k__law_without, PySem.W.mg_of X G a__law_without, (fun_mk (st := s__law_without) l__law_without c__law_without k__law_without).binds (ps := ["house", "order", "number"]) fun _ _ _ _ _ _ us hl => match us, hl with | [_, _, _], _ => rfl⟩, ⟨_, _, fun_mk (st := s__law_due) l__law_due c__law_due k__law_due, PySem.W.mg_of X G a__law_due, (fun_mk (st := s__law_due) l__law_due c__law_due k__law_due).binds (ps := ["house", "number", "text"]) fun _ _ _ _ _ _ us hl => match us, hl with | [_, _, _], _ => rfl⟩, ⟨_, _, fun_mk (st := s_law) l_law c_law k_law, PySem.W.mg_of X G a_law, (fun_mk (st := s_law) l_law c_law k_law).binds (ps := ["script"]) fun _ _ _ _ _ _ us hl => match us, hl with | [_], _ => rfl⟩, ⟨_, fun_mk (st := s_init) l_I c_I k_I, (fun_mk (st := s_init) l_I c_I k_I).binds (ps := ["self", "at"]) (fun _ _ _ _ _ _ us hl => match us, hl with | [_, _], _ => rfl), t_I⟩, { g := PySem.W.mg_of X G xg_HouseError, o := ⟨⟨nm_HouseError, q_HouseError, N_HouseError, bs_HouseError, _, sn_HouseError, sub_HouseError, ab_HouseError, col_HouseError, dd_HouseError, m0_HouseError, m1_HouseError, m2_HouseError, m3_HouseError, m5_HouseError, xx_HouseError, by first | decide +kernel | rfl⟩, xs_HouseError, xb_HouseError, xt_HouseError, xk_HouseError⟩, i := xi_HouseError, no := xat_HouseError, f := ⟨xga_HouseError, xgg_HouseError, xb_HouseError, xh_HouseError⟩ }, { g := PySem.W.mg_of X G xg_BadText, o := ⟨⟨nm_BadText, q_BadText, N_BadText, bs_BadText, _, sn_BadText, sub_BadText, ab_BadText, col_BadText, dd_BadText, m0_BadText, m1_BadText, m2_BadText, m3_BadText, m5_BadText, xx_BadText, by first | decide +kernel | rfl⟩, xs_BadText, xb_BadText, xt_BadText, xk_BadText⟩, i := xi_BadText, no := xat_BadText, f := ⟨xga_BadText, xgg_BadText, xb_BadText, xh_BadText⟩ }, { g := PySem.W.mg_of X G xg_TooMany, o := ⟨⟨nm_TooMany, q_TooMany, N_TooMany, bs_TooMany, _, sn_TooMany, sub_TooMany, ab_TooMany, col_TooMany, dd_TooMany, m0_TooMany, m1_TooMany, m2_TooMany, m3_TooMany, m5_TooMany, xx_TooMany, by first | decide +kernel | rfl⟩, xs_TooMany, xb_TooMany, xt_TooMany, xk_TooMany⟩, i := xi_TooMany, no := xat_TooMany, f := ⟨xga_TooMany, xgg_TooMany, xb_TooMany, xh_TooMany⟩ }, { g := PySem.W.mg_of X G xg_TakenNumber, o := ⟨⟨nm_TakenNumber, q_TakenNumber, N_TakenNumber, bs_TakenNumber, _, sn_TakenNumber, sub_TakenNumber, ab_TakenNumber, col_TakenNumber, dd_TakenNumber, m0_TakenNumber, m1_TakenNumber, m2_TakenNumber, m3_TakenNumber, m5_TakenNumber, xx_TakenNumber, by first | decide +kernel | rfl⟩, xs_TakenNumber, xb_TakenNumber, xt_TakenNumber, xk_TakenNumber⟩, i := xi_TakenNumber, no := xat_TakenNumber, f := ⟨xga_TakenNumber, xgg_TakenNumber, xb_TakenNumber, xh_TakenNumber⟩ }, { g := PySem.W.mg_of X G xg_NoText, o := ⟨⟨nm_NoText, q_NoText, N_NoText, bs_NoText, _, sn_NoText, sub_NoText, ab_NoText, col_NoText, dd_NoText, m0_NoText, m1_NoText, m2_NoText, m3_NoText, m5_NoText, xx_NoText, by first | decide +kernel | rfl⟩, xs_NoText, xb_NoText, xt_NoText, xk_NoText⟩, i := xi_NoText, no := xat_NoText, f := ⟨xga_NoText, xgg_NoText, xb_NoText, xh_NoText⟩ }, { g := PySem.W.mg_of X G xg_OutOfRange, o := ⟨⟨nm_OutOfRange, q_OutOfRange, N_OutOfRange, bs_OutOfRange, _, sn_OutOfRange, sub_OutOfRange, ab_OutOfRange, col_OutOfRange, dd_OutOfRange, m0_OutOfRange, m1_OutOfRange, m2_OutOfRange, m3_OutOfRange, m5_OutOfRange, xx_OutOfRange, by first | decide +kernel | rfl⟩, xs_OutOfRange, xb_OutOfRange, xt_OutOfRange, xk_OutOfRange⟩, i := xi_OutOfRange, no := xat_OutOfRange, f := ⟨xga_OutOfRange, xgg_OutOfRange, xb_OutOfRange, xh_OutOfRange⟩ }, exm_of xb_OutOfRange xis_OutOfRange xt_OutOfRange e_OutOfRange_OutOfRange, exm_of xb_OutOfRange xis_OutOfRange xt_OutOfRange e_TakenNumber_OutOfRange, exm_of xb_TakenNumber xis_TakenNumber xt_TakenNumber e_TakenNumber_TakenNumber, exm_of xb_OutOfRange xis_OutOfRange xt_OutOfRange e_BadText_OutOfRange, exm_of xb_TakenNumber xis_TakenNumber xt_TakenNumber e_BadText_TakenNumber, exm_of xb_BadText xis_BadText xt_BadText e_BadText_BadText, exm_of xb_OutOfRange xis_OutOfRange xt_OutOfRange e_TooMany_OutOfRange, exm_of xb_TakenNumber xis_TakenNumber xt_TakenNumber e_TooMany_TakenNumber, exm_of xb_BadText xis_BadText xt_BadText e_TooMany_BadText, exm_of xb_TooMany xis_TooMany xt_TooMany e_TooMany_TooMany, exm_of xb_OutOfRange xis_OutOfRange xt_OutOfRange e_NoText_OutOfRange, exm_of xb_TakenNumber xis_TakenNumber xt_TakenNumber e_NoText_TakenNumber, exm_of xb_BadText xis_BadText xt_BadText e_NoText_BadText, exm_of xb_TooMany xis_TooMany xt_TooMany e_NoText_TooMany, exm_of xb_NoText xis_NoText xt_NoText e_NoText_NoText⟩
  exact ⟨PySem.W.fnOf "law" "law" (defArgs s_law) (defBody s_law) (defScope s_law) .none kV_law dc_law pm_law an_law cd_law ct_law, fun s v => .of_eq rfl, fun base _ _ => law_all T (fun_mk (st := s_law) l_law c_law k_law)⟩
end SH
open PySem PySem.W PyProof.Rows
set_option maxHeartbeats 0 in
theorem PySem.Challenge.cw_suffixhouse_k17_orders_with_and_without_holds : PySem.Challenge.rw_suffixhouse_k17_orders_with_and_without.Holds := by
  w_on; o_law; k_head; (case hw => w_witness2)
  k_fill
  refine L2.walk_of (l := PySem.Challenge.rw_suffixhouse_k17_orders_with_and_without) (n := 63) (k := 8) (x := "script") (CX := fun _ => L2.CX0) (sp := fun w => SH.spLaw _) rfl (by decide) rfl ⟨rfl, by decide, by decide⟩ (fun w h Y => PySem.W.kIn_of Y) ?F (fun _ _ a ns hl _ hS => ⟨a, ns, rfl, hS, hl, fun _ => rfl⟩) (fun _ _ _ _ _ h => h)
  case F =>
    intro w mg fa h KX G hmg
    refine' SH.all_mk KX G hmg ?z_abs ?z_all ?z_bool ?z_dict ?z_int ?z_isinstance ?z_len ?z_list ?z_min ?z_ord ?z_range ?z_sorted ?n__GREATEST_NUMBER ?n__MOST_LETTERS ?n__MOST_TEXTS ?n__PERCENT_SIGN ?a_with_text ?l_with_text ?c_with_text ?k_with_text ?a_without_text ?l_without_text ?c_without_text ?k_without_text ?a__is_text ?l__is_text ?c__is_text ?k__is_text ?a__is_letter ?l__is_letter ?c__is_letter ?k__is_letter ?a__has_number ?l__has_number ?c__has_number ?k__has_number ?a_order_with ?l_order_with ?c_order_with ?k_order_with ?a_order_without ?l_order_without ?c_order_without ?k_order_without ?a__law_draws ?l__law_draws ?c__law_draws ?k__law_draws ?a__law_mix ?l__law_mix ?c__law_mix ?k__law_mix ?a__law_text ?l__law_text ?c__law_text ?k__law_text ?a__law_house ?l__law_house ?c__law_house ?k__law_house ?a__law_ends ?l__law_ends ?c__law_ends ?k__law_ends ?a__law_order ?l__law_order ?c__law_order ?k__law_order ?a__law_with ?l__law_with ?c__law_with ?k__law_with ?a__law_without ?l__law_without ?c__law_without ?k__law_without ?a__law_due ?l__law_due ?c__law_due ?k__law_due ?a_law ?l_law ?c_law ?k_law ?xg_HouseError ?xx_HouseError ?xs_HouseError ?xga_HouseError ?xgg_HouseError ?xat_HouseError ?xi_HouseError ?xb_HouseError ?xt_HouseError ?xh_HouseError ?xk_HouseError ?xis_HouseError ?xg_BadText ?xx_BadText ?xs_BadText ?xga_BadText ?xgg_BadText ?xat_BadText ?xi_BadText ?xb_BadText ?xt_BadText ?xh_BadText ?xk_BadText ?xis_BadText ?xg_TooMany ?xx_TooMany ?xs_TooMany ?xga_TooMany ?xgg_TooMany ?xat_TooMany ?xi_TooMany ?xb_TooMany ?xt_TooMany ?xh_TooMany ?xk_TooMany ?xis_TooMany ?xg_TakenNumber ?xx_TakenNumber ?xs_TakenNumber ?xga_TakenNumber ?xgg_TakenNumber ?xat_TakenNumber ?xi_TakenNumber ?xb_TakenNumber ?xt_TakenNumber ?xh_TakenNumber ?xk_TakenNumber ?xis_TakenNumber ?xg_NoText ?xx_NoText ?xs_NoText ?xga_NoText ?xgg_NoText ?xat_NoText ?xi_NoText ?xb_NoText ?xt_NoText ?xh_NoText ?xk_NoText ?xis_NoText ?xg_OutOfRange ?xx_OutOfRange ?xs_OutOfRange ?xga_OutOfRange ?xgg_OutOfRange ?xat_OutOfRange ?xi_OutOfRange ?xb_OutOfRange ?xt_OutOfRange ?xh_OutOfRange ?xk_OutOfRange ?xis_OutOfRange ?l_I ?c_I ?k_I ?t_I ?e_OutOfRange_OutOfRange ?e_TakenNumber_OutOfRange ?e_TakenNumber_TakenNumber ?e_BadText_OutOfRange ?e_BadText_TakenNumber ?e_BadText_BadText ?e_TooMany_OutOfRange ?e_TooMany_TakenNumber ?e_TooMany_BadText ?e_TooMany_TooMany ?e_NoText_OutOfRange ?e_NoText_TakenNumber ?e_NoText_BadText ?e_NoText_TooMany ?e_NoText_NoText
    (case z_abs => first | k_is | rfl)
    (case z_all => first | k_is | rfl)
    (case z_bool => first | k_is | rfl)
    (case z_dict => first | k_is | rfl)
    (case z_int => first | k_is | rfl)
    (case z_isinstance => first | k_is | rfl)
    (case z_len => first | k_is | rfl)
    (case z_list => first | k_is | rfl)
    (case z_min => first | k_is | rfl)
    (case z_ord => first | k_is | rfl)
    (case z_range => first | k_is | rfl)
    (case z_sorted => first | k_is | rfl)
    (case n__GREATEST_NUMBER => first | k_is | rfl)
    (case n__MOST_LETTERS => first | k_is | rfl)
    (case n__MOST_TEXTS => first | k_is | rfl)
    (case n__PERCENT_SIGN => first | k_is | rfl)
    (case a_with_text => first | k_is | rfl)
    (case l_with_text => first | k_is | rfl)
    (case c_with_text => first | k_is | rfl)
    (case k_with_text => first | k_is | rfl)
    (case a_without_text => first | k_is | rfl)
    (case l_without_text => first | k_is | rfl)
    (case c_without_text => first | k_is | rfl)
    (case k_without_text => first | k_is | rfl)
    (case a__is_text => first | k_is | rfl)
    (case l__is_text => first | k_is | rfl)
    (case c__is_text => first | k_is | rfl)
    (case k__is_text => first | k_is | rfl)
    (case a__is_letter => first | k_is | rfl)
    (case l__is_letter => first | k_is | rfl)
    (case c__is_letter => first | k_is | rfl)
    (case k__is_letter => first | k_is | rfl)
    (case a__has_number => first | k_is | rfl)
    (case l__has_number => first | k_is | rfl)
    (case c__has_number => first | k_is | rfl)
    (case k__has_number => first | k_is | rfl)
    (case a_order_with => first | k_is | rfl)
    (case l_order_with => first | k_is | rfl)
    (case c_order_with => first | k_is | rfl)
    (case k_order_with => first | k_is | rfl)
    (case a_order_without => first | k_is | rfl)
    (case l_order_without => first | k_is | rfl)
    (case c_order_without => first | k_is | rfl)
    (case k_order_without => first | k_is | rfl)
    (case a__law_draws => first | k_is | rfl)
    (case l__law_draws => first | k_is | rfl)
    (case c__law_draws => first | k_is | rfl)
    (case k__law_draws => first | k_is | rfl)
    (case a__law_mix => first | k_is | rfl)
    (case l__law_mix => first | k_is | rfl)
    (case c__law_mix => first | k_is | rfl)
    (case k__law_mix => first | k_is | rfl)
    (case a__law_text => first | k_is | rfl)
    (case l__law_text => first | k_is | rfl)
    (case c__law_text => first | k_is | rfl)
    (case k__law_text => first | k_is | rfl)
    (case a__law_house => first | k_is | rfl)
    (case l__law_house => first | k_is | rfl)
    (case c__law_house => first | k_is | rfl)
    (case k__law_house => first | k_is | rfl)
    (case a__law_ends => first | k_is | rfl)
    (case l__law_ends => first | k_is | rfl)
    (case c__law_ends => first | k_is | rfl)
    (case k__law_ends => first | k_is | rfl)
    (case a__law_order => first | k_is | rfl)
    (case l__law_order => first | k_is | rfl)
    (case c__law_order => first | k_is | rfl)
    (case k__law_order => first | k_is | rfl)
    (case a__law_with => first | k_is | rfl)
    (case l__law_with => first | k_is | rfl)
    (case c__law_with => first | k_is | rfl)
    (case k__law_with => first | k_is | rfl)
    (case a__law_without => first | k_is | rfl)
    (case l__law_without => first | k_is | rfl)
    (case c__law_without => first | k_is | rfl)
    (case k__law_without => first | k_is | rfl)
    (case a__law_due => first | k_is | rfl)
    (case l__law_due => first | k_is | rfl)
    (case c__law_due => first | k_is | rfl)
    (case k__law_due => first | k_is | rfl)
    (case a_law => first | k_is | rfl)
    (case l_law => first | k_is | rfl)
    (case c_law => first | k_is | rfl)
    (case k_law => first | k_is | rfl)
    (case xg_HouseError => first | k_is | rfl)
    (case xx_HouseError => first | k_is | rfl)
    (case xs_HouseError => first | k_is | rfl)
    (case xga_HouseError => first | k_is | rfl)
    (case xgg_HouseError => first | k_is | rfl)
    (case xat_HouseError => first | k_is | rfl)
    (case xi_HouseError => first | k_is | rfl)
    (case xb_HouseError => first | k_is | rfl)
    (case xt_HouseError => first | k_is | rfl)
    (case xh_HouseError => first | k_is | rfl)
    (case xk_HouseError => first | k_is | rfl)
    (case xis_HouseError => first | k_is | rfl)
    (case xg_BadText => first | k_is | rfl)
    (case xx_BadText => first | k_is | rfl)
    (case xs_BadText => first | k_is | rfl)
    (case xga_BadText => first | k_is | rfl)
    (case xgg_BadText => first | k_is | rfl)
    (case xat_BadText => first | k_is | rfl)
    (case xi_BadText => first | k_is | rfl)
    (case xb_BadText => first | k_is | rfl)
    (case xt_BadText => first | k_is | rfl)
    (case xh_BadText => first | k_is | rfl)
    (case xk_BadText => first | k_is | rfl)
    (case xis_BadText => first | k_is | rfl)
    (case xg_TooMany => first | k_is | rfl)
    (case xx_TooMany => first | k_is | rfl)
    (case xs_TooMany => first | k_is | rfl)
    (case xga_TooMany => first | k_is | rfl)
    (case xgg_TooMany => first | k_is | rfl)
    (case xat_TooMany => first | k_is | rfl)
    (case xi_TooMany => first | k_is | rfl)
    (case xb_TooMany => first | k_is | rfl)
    (case xt_TooMany => first | k_is | rfl)
    (case xh_TooMany => first | k_is | rfl)
    (case xk_TooMany => first | k_is | rfl)
    (case xis_TooMany => first | k_is | rfl)
    (case xg_TakenNumber => first | k_is | rfl)
    (case xx_TakenNumber => first | k_is | rfl)
    (case xs_TakenNumber => first | k_is | rfl)
    (case xga_TakenNumber => first | k_is | rfl)
    (case xgg_TakenNumber => first | k_is | rfl)
    (case xat_TakenNumber => first | k_is | rfl)
    (case xi_TakenNumber => first | k_is | rfl)
    (case xb_TakenNumber => first | k_is | rfl)
    (case xt_TakenNumber => first | k_is | rfl)
    (case xh_TakenNumber => first | k_is | rfl)
    (case xk_TakenNumber => first | k_is | rfl)
    (case xis_TakenNumber => first | k_is | rfl)
    (case xg_NoText => first | k_is | rfl)
    (case xx_NoText => first | k_is | rfl)
    (case xs_NoText => first | k_is | rfl)
    (case xga_NoText => first | k_is | rfl)
    (case xgg_NoText => first | k_is | rfl)
    (case xat_NoText => first | k_is | rfl)
    (case xi_NoText => first | k_is | rfl)
    (case xb_NoText => first | k_is | rfl)
    (case xt_NoText => first | k_is | rfl)
    (case xh_NoText => first | k_is | rfl)
    (case xk_NoText => first | k_is | rfl)
    (case xis_NoText => first | k_is | rfl)
    (case xg_OutOfRange => first | k_is | rfl)
    (case xx_OutOfRange => first | k_is | rfl)
    (case xs_OutOfRange => first | k_is | rfl)
    (case xga_OutOfRange => first | k_is | rfl)
    (case xgg_OutOfRange => first | k_is | rfl)
    (case xat_OutOfRange => first | k_is | rfl)
    (case xi_OutOfRange => first | k_is | rfl)
    (case xb_OutOfRange => first | k_is | rfl)
    (case xt_OutOfRange => first | k_is | rfl)
    (case xh_OutOfRange => first | k_is | rfl)
    (case xk_OutOfRange => first | k_is | rfl)
    (case xis_OutOfRange => first | k_is | rfl)
    (case l_I => first | k_is | rfl)
    (case c_I => first | k_is | rfl)
    (case k_I => first | k_is | rfl)
    (case t_I => first | k_is | rfl)
    (case e_OutOfRange_OutOfRange => first | k_is | rfl)
    (case e_TakenNumber_OutOfRange => first | k_is | rfl)
    (case e_TakenNumber_TakenNumber => first | k_is | rfl)
    (case e_BadText_OutOfRange => first | k_is | rfl)
    (case e_BadText_TakenNumber => first | k_is | rfl)
    (case e_BadText_BadText => first | k_is | rfl)
    (case e_TooMany_OutOfRange => first | k_is | rfl)
    (case e_TooMany_TakenNumber => first | k_is | rfl)
    (case e_TooMany_BadText => first | k_is | rfl)
    (case e_TooMany_TooMany => first | k_is | rfl)
    (case e_NoText_OutOfRange => first | k_is | rfl)
    (case e_NoText_TakenNumber => first | k_is | rfl)
    (case e_NoText_BadText => first | k_is | rfl)
    (case e_NoText_TooMany => first | k_is | rfl)
    (case e_NoText_NoText => first | k_is | rfl)
