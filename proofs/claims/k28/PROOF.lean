import PyProof.Rows.All
import Wide.All
import OpenK.AllK
import Wide.FinOn
import PyProof.EqAt
import PyProof.EqKinds
import PyProof.TupleCall
import HandS.ForMost
import HandS.Wide
import HandS.Codes
import HandS.TupLe
import HandS.Star
import HandS.StrMore
import HandS.FStr
import HandS.Evl
import HandS.Exc
import HandS.TryMany
import HandS.ExcInit
import HandS.ExcField
import HandS.WideBits
import HandS.WordsExc
import HandS.Walk
import HandS.SortRule
import KE.SortData
import HandS.Set
import HandS.SetBool
import HandS.SetKeys
import HandS.SortKw
import KE.SortKeyHeap
import HandS.Comp
import HandS.Dict
import KE.GoesEnum
import HandS.IsInst
import HandS.DictComp
import HandS.More
import HandS.Conv
import PySem.Challenge.RW_suffixhouse_k28_numbers_of_stretches
set_option Elab.async false
set_option linter.all false
set_option maxRecDepth 100000
set_option maxHeartbeats 4000000
namespace SH
open PySem PySem.Spec PyProof.Rows L2
section
variable {P : Program} {w : World} {K : PySem.W.Frag} {mg : Str → Option Value} {base : Heap}
/-- a def of the top as it stands: its text, its name's value, how it binds -/
structure Dd (K : PySem.W.Frag) (mg : Str → Option Value) (x : Str) (st : Stmt) (ps : List Str) : Prop where
  ex : ∃ (f : Addr) (fd : FuncData), Fun K x x st f fd ∧ mg x = some (.ref f) ∧ Binds K fd ps []
/-- a def that lets nothing out, callable by its name -/
abbrev Cl (P : Program) (w : World) (K : PySem.W.Frag) (mg : Str → Option Value) (base : Heap) (k : Nat) (x : Str) (sp : Sp) : Prop := C8.Cal P w K mg base k x sp []
/-- a def that may raise -/
structure ClX (P : Program) (w : World) (K : PySem.W.Frag) (mg : Str → Option Value) (base : Heap) (k : Nat) (x : Str) (sp : Sp) : Prop where
  ex : ∃ (f : Addr) (fd : FuncData) (ps : List Str), FnOk P w K mg base (L2.CX P w) k f fd ps sp ∧ mg x = some (.ref f) ∧ PySem.W.keepIn K (.ref f) = true ∧ Binds K fd ps []
theorem cl_of {x : Str} {st : Stmt} {ps N : List Str} {k : Nat} {sp : Sp} (D : Dd K mg x st ps) (S : FnScope N ps (defScope st)) (len : ∀ vs H Q E, sp vs H Q E → vs.length = ps.length)
    (hbody : ∀ (f : Addr) (cdv : Value) (A : Around) (outer : List Env) (s : Shared) (H : Hp) (vs : List V) (Q : VK) (E : XK), Room k (A.deeper (envOfC x (defScope st) s.heap.objs.size f cdv)) → sp vs H Q E →
      ∃ t, PSs (cxOf CX0 P w K mg base N x (defScope st) f cdv A outer s H E).nox (defBody st) t ∧ t { nx := fun _ H' => Q .non H', rt := Q } (start N vs) H) : Cl P w K mg base (k + 1) x sp := by
  obtain ⟨f, fd, F, hm, b⟩ := D.ex
  exact ⟨f, fd, ps, [], F.ok S len (fun cdv A outer s H vs Q E hr h => hbody f cdv A outer s H vs Q E hr h), hm, F.kp, b, .nil⟩
theorem clx_of {x : Str} {st : Stmt} {ps N : List Str} {k : Nat} {sp : Sp} (D : Dd K mg x st ps) (S : FnScope N ps (defScope st)) (len : ∀ vs H Q E, sp vs H Q E → vs.length = ps.length)
    (hbody : ∀ (f : Addr) (cdv : Value) (A : Around) (outer : List Env) (s : Shared) (H : Hp) (vs : List V) (Q : VK) (E : XK), Room k (A.deeper (envOfC x (defScope st) s.heap.objs.size f cdv)) → sp vs H Q E →
      ∃ t, PSs (cxOf (L2.CX P w) P w K mg base N x (defScope st) f cdv A outer s H E) (defBody st) t ∧ t { nx := fun _ H' => Q .non H', rt := Q } (start N vs) H) : ClX P w K mg base (k + 1) x sp := by
  obtain ⟨f, fd, F, hm, b⟩ := D.ex
  exact ⟨f, fd, ps, F.okX S len (fun cdv A outer s H vs Q E hr h => hbody f cdv A outer s H vs Q E hr h), hm, F.kp, b⟩
end
section
variable {X : Cx} {k j : Nat} {x : Str} {sp : Sp} {p pos : Pos} {e : Expr} {es : List Expr} {t : TA}
/-- f(e, ..) of a def that may raise, in a try's body or where it passes on -/
theorem pe_cx (c : ClX X.prog X.w X.K X.mg X.base k x sp) {E : L2.St → XK} (hr : Room j X.A) (hk : k ≤ j) (hx : ∀ σ, PassesAt (L2.CX X.prog X.w) X σ (E σ)) (hg : Gl X x) (ha : PA X (e :: es) t)
    (hdb : (x == ("__debug__" : Str)) = false := by decide) (he : starEach (e :: es) X.env = (false, eval e X.env) :: starEach es X.env := by rfl) (hpl : (backTo pos (starEach es X.env)).any (·.1) = false := by rfl) :
    PE X (.Call (.Name x p) (e :: es) [] pos) (tCallS sp E t) := by
  obtain ⟨f, fd, ps, F, hm, kp, b⟩ := c.ex
  exact pe_callS F (hr.mono hk) hg hm kp b hx ha hdb he hpl
end
theorem ixt {X : Cx} {K : PySem.W.Frag} (h : X.K = K := by rfl) : IxR X (rIxT K) := h ▸ ix_tup
theorem ixl {X : Cx} {K : PySem.W.Frag} (h : X.K = K := by rfl) : IxR X (rIxL K) := h ▸ ix_list
/-- a module's number -/
theorem pe_k {X : Cx} {x : Str} {pos : Pos} {v : Int} (h : ∃ t, X.mg x = some (.int v t)) (hg : Gl X x := by rfl) (hdb : (x == ("__debug__" : Str)) = false := by decide) : PE X (.Name x pos) (tC (.int v)) := by
  obtain ⟨t, h⟩ := h
  exact pe_glob hg h ⟨t, rfl⟩ hdb
/-! ### numbers drawn: a list of small numbers -/
def Dr (ns : List Int) : Prop := ns.length ≤ 4000 ∧ ∀ n ∈ ns, 0 ≤ n ∧ n < 65536
/-- r(draws, k, many): a number from 0 below many -/
def spDraw (K : PySem.W.Frag) : Sp := fun vs H Q _ => ∃ (a : Addr) (ns : List Int) (k many : Int), vs = [.ref a, .int k, .int many] ∧ SqL K H a (ns.map V.int) ∧ Dr ns ∧ 0 ≤ k ∧ k < 100000 ∧ 0 < many ∧ ∀ r : Int, 0 ≤ r → r < many → Q (.int r) H
theorem at_ints {ns : List Int} {i : Int} (h0 : 0 ≤ i) (h1 : i < ns.length) : ∃ z, atI (ns.map V.int) i = some (.int z) ∧ z ∈ ns := by
  obtain ⟨j, rfl⟩ : ∃ j : Nat, i = j := ⟨i.toNat, by omega⟩
  have hj : j < ns.length := by omega
  refine ⟨ns[j], ?_, List.getElem_mem hj⟩
  refine atI_nat ?_
  rw [List.getElem?_map, List.getElem?_eq_getElem hj]
  rfl
/-! ### heaps -/
theorem same_new {H : Hp} {p : Addr} {o : HO} (h : H p = none) : Same H (upd H p o) := fun b x e => by
  rw [upd_ne (ne_of_none e h)]
  exact e
theorem same_mut {H H' : Hp} {p : Addr} {o : HO} (e : Same H H') (h : H p = none) : Same H (upd H' p o) := fun b x hb => by
  rw [upd_ne (ne_of_none hb h)]
  exact e b x hb
theorem same_tup {K : PySem.W.Frag} {H H' : Hp} {a : Addr} {xs : List V} (e : Same H H') (h : SqT K H a xs) : SqT K H' a xs := by
  rcases h with (h | ⟨o, h⟩) | h
  · exact .inl (.inl (e _ _ h))
  · exact .inl (.inr ⟨o, e _ _ h⟩)
  · exact .inr h
/-! ### texts of letters -/
def okc (c : Nat) : Bool := decide (32 ≤ c) && (decide (c ≤ 126) && decide (c ≠ 37))
def IsLet (z : Str) : Prop := z.cps.toList.all okc = true
instance (z : Str) : Decidable (IsLet z) := inferInstanceAs (Decidable (_ = true))
theorem str_at {z : Str} {i : Int} (h0 : 0 ≤ i) (h1 : i < (z.cps.toList.length : Int)) : ∃ c, atI z.cps.toList i = some c ∧ c ∈ z.cps.toList := by
  obtain ⟨j, rfl⟩ : ∃ j : Nat, i = j := ⟨i.toNat, by omega⟩
  have hj : j < z.cps.toList.length := by omega
  exact ⟨z.cps.toList[j], atI_nat (List.getElem?_eq_getElem hj), List.getElem_mem hj⟩
theorem let_at {z : Str} {c : Nat} (h : IsLet z) (hc : c ∈ z.cps.toList) : IsLet ⟨#[c]⟩ := by
  have := List.all_eq_true.mp h c hc
  show ([c].all okc) = true
  simp [this]
theorem let_app {a b : Str} (ha : IsLet a) (hb : IsLet b) : IsLet (a ++ b) := by
  have e : (a ++ b).cps.toList = a.cps.toList ++ b.cps.toList := TL.tl_append a b
  show (a ++ b).cps.toList.all okc = true
  rw [e, List.all_append, Bool.and_eq_true]
  exact ⟨ha, hb⟩
theorem len_app (a b : Str) : (a ++ b).length = a.length + b.length := by
  have e : (a ++ b).cps.toList = a.cps.toList ++ b.cps.toList := TL.tl_append a b
  have e2 := congrArg List.length e
  rw [List.length_append] at e2
  simpa [Str.length] using e2
theorem at_map {α : Type} (f : α → V) {xs : List α} {i : Int} (h0 : 0 ≤ i) (h1 : i < xs.length) : ∃ x, atI (xs.map f) i = some (f x) ∧ x ∈ xs := by
  obtain ⟨j, rfl⟩ : ∃ j : Nat, i = j := ⟨i.toNat, by omega⟩
  have hj : j < xs.length := by omega
  refine ⟨xs[j], ?_, List.getElem_mem hj⟩
  refine atI_nat ?_
  rw [List.getElem?_map, List.getElem?_eq_getElem hj]
  rfl
theorem ixs_let {z : Str} {j : Int} {H : Hp} {Q : VK} (hz : IsLet z) (hl : z.length ≤ sizeLine) (h0 : 0 ≤ j) (h1 : j < (z.cps.toList.length : Int)) (h : ∀ c, okc c = true → Q (.str ⟨#[c]⟩) H) : rIxS (.str z) (.int j) H Q := by
  obtain ⟨c, hc, hm⟩ := str_at h0 h1
  exact ⟨z, j, c, rfl, rfl, hl, hc, h c (List.all_eq_true.mp hz c hm)⟩
theorem let_one {c : Nat} (h : okc c = true) : IsLet ⟨#[c]⟩ := by
  show ([c].all okc) = true
  simp [h]
/-! ### houses: pairs of a number and a text, each at its address -/
abbrev PL := List (Addr × Int × Str)
def refs (L : PL) : List V := L.map fun q => V.ref q.1
def PairsAt (K : PySem.W.Frag) (H : Hp) (L : PL) : Prop := ∀ q ∈ L, SqT K H q.1 [.int q.2.1, .str q.2.2]
def HsAt (K : PySem.W.Frag) (H : Hp) (a : Addr) (L : PL) : Prop := SqL K H a (refs L) ∧ PairsAt K H L
theorem PairsAt.same {K : PySem.W.Frag} {H H' : Hp} {L : PL} (e : Same H H') (h : PairsAt K H L) : PairsAt K H' L := fun q hq => same_tup e (h q hq)
theorem HsAt.same {K : PySem.W.Frag} {H H' : Hp} {a : Addr} {L : PL} (e : Same H H') (h : HsAt K H a L) : HsAt K H' a L := ⟨e.seq h.1, h.2.same e⟩
/-- numbers ascending from 0 to 99, texts of at most m letters -/
structure IsHs (m : Nat) (h : List (Int × Str)) : Prop where
  asc : (h.map (·.1)).Pairwise (· < ·)
  num : ∀ q ∈ h, 0 ≤ q.1 ∧ q.1 ≤ 99
  txt : ∀ q ∈ h, IsLet q.2 ∧ q.2.length ≤ m
/-- == of data, the frame said -/
theorem op_eqDK {X : Cx} {K : PySem.W.Frag} (hu : X.A.units + 64 < cLine) (h : X.K = K := by rfl) : OpR X (compareOp .Eq) (rEqD K) := h ▸ op_eqD hu
theorem op_neDK {X : Cx} {K : PySem.W.Frag} (hu : X.A.units + 64 < cLine) (h : X.K = K := by rfl) : OpR X (compareOp .NotEq) (rNeD K) := h ▸ op_neD hu
end SH
set_option Elab.async false
set_option linter.all false
set_option maxRecDepth 100000
set_option maxHeartbeats 4000000
/-! except clauses, any number, with and without a name -/
namespace SH
open PySem PySem.Spec PyProof.Rows L2
abbrev Suite := Addr → Value → Option Addr → TS
/-- behind a suite whose name is forgotten -/
def gone (i : Nat) (D : Ends) : Ends :=
  ⟨fun τ G => D.nx (τ.set i none) G, D.rt, fun τ G => D.bk (τ.set i none) G, fun τ G => D.ct (τ.set i none) G⟩
/-- how a suite is entered: with its name in slot i, or without one -/
def enter (o : Option Nat) (ts : Suite) (a : Addr) (c : Value) (d : Option Addr) (D : Ends) (τ : L2.St) (G : Hp) : Prop :=
  match o with
  | none => ts a c d D τ G
  | some i => ts a c d (gone i D) (τ.set i (some (.ref a))) G
/-- the clauses' wishes: the first that matches -/
def wHds (K : PySem.W.Frag) (Wo : WX) (D : Ends) : List (Value × Option Nat × Suite) → WX
  | [] => Wo
  | q :: r => fun c d τ G => ∃ b, PySem.W.exmOne K c q.1 = some b ∧ (b = true → ∀ a, G a = none → enter q.2.1 q.2.2 a c d D τ G) ∧ (b = false → wHds K Wo D r c d τ G)
/-- a suite's text does what ts says -/
def SuiteOk (X : Cx) (sts : List Stmt) (ts : Suite) : Prop :=
  ∀ (a : Addr) (o : Obj) (c : Value) (d : Option Addr) (l : List (Addr × Obj)), Zc c d o → (∃ f, o.data = .fields f) → PSs (X.suite a ((a, o) :: l)) sts (ts a c d)
inductive HdsN (X : Cx) : List ExceptHandler → List (Value × Option Nat × Suite) → Prop
  | nil : HdsN X [] []
  | cons {x : Str} {c : Value} {ts : Suite} {u : Stmt} {us : List Stmt} {p p' : Pos} {hs : List ExceptHandler} {l : List (Value × Option Nat × Suite)} :
      Names X x c → SuiteOk X (u :: us) ts → HdsN X hs l → HdsN X (.ExceptHandler (some (.Name x p)) none (u :: us) p' :: hs) ((c, none, ts) :: l)
  | named {x n : Str} {i : Nat} {c : Value} {ts : Suite} {u : Stmt} {us : List Stmt} {p p' : Pos} {hs : List ExceptHandler} {l : List (Value × Option Nat × Suite)} :
      Names X x c → X.N.Nodup → X.N[i]? = some n → X.env.kindOf n = some .local → SuiteOk X (u :: us) ts → HdsN X hs l → HdsN X (.ExceptHandler (some (.Name x p)) (some n) (u :: us) p' :: hs) ((c, some i, ts) :: l)
/-- an exception that has come down to this frame: at a, of the class c, with its dict d, over the ground B -/
structure Down (X : Cx) (pins : List (Addr × Obj)) (B : Heap) (a : Addr) (c : Value) (d : Option Addr) (τ : L2.St) (G : Hp) (s : Shared) : Prop where
  st : X.stack = X.env :: X.outer
  fr : X.env.frame = some X.env.locals
  fl : HandSPX.FlyingZ B (X.env :: X.outer) a (Zc c d) s.heap
  on : ∀ h, B.StaysIn h → s.heap.UpToSlots h → Inv X pins τ G { s with heap := h }
  ok : Inv X pins τ G s
  no : G a = none
  out : ∀ (h : Heap) (W : WX), HandSPX.HeldZ B (X.env :: X.outer) a (Zc c d) X.env.locals h → s.heap.UpToSlots h → W c d τ G → XE X W (.ref a) { s with heap := h }
section
variable {X : Cx} {pins : List (Addr × Obj)} {B : Heap} {a : Addr} {c : Value} {d : Option Addr} {τ : L2.St} {G : Hp} {s : Shared}
theorem Down.inner (Y : Down X pins B a c d τ G s) : ∃ o, s.heap.get? a = some o ∧ Zc c d o ∧ (∃ f, o.data = .fields f) ∧ Inv (X.suite a ((a, o) :: (X.pn ++ pins))) [] τ G s := by
  obtain ⟨o, f, ga, za, da⟩ := Y.fl.there
  have away : a ∉ frs (X.env :: X.outer) := by
    intro m
    obtain ⟨-, o', g', nf⟩ := Y.fl.2.2.1.mem m
    cases ga.symm.trans g'
    exact nf _ da
  refine ⟨o, ga, za, ⟨f, da⟩, Y.ok.suite ga da Y.no ?_ ?_⟩
  · intro z
    refine away (List.mem_filterMap.mpr ⟨X.env, List.mem_cons_self, ?_⟩)
    rw [Y.fr, z]
  · intro m
    obtain ⟨e, me, q⟩ := List.mem_filterMap.mp m
    exact away (List.mem_filterMap.mpr ⟨e, List.mem_cons_of_mem _ me, q⟩)
/-- the clause's name is asked, and whether the exception is of it -/
theorem Down.asked (Y : Down X pins B a c d τ G s) {x : Str} {p : Pos} {cl : Value} {b : Bool} (nm : Names X x cl) (hb : PySem.W.exmOne X.K c cl = some b) {Q : Bool → Shared → Prop} {E : Value → Shared → Prop} (q : Q b s) :
    wpAny (model X.prog X.w) (X.A.mark (some (.ref a))) (eval (.Name x p) X.env) (fun u s1 => wpAny (model X.prog X.w) (X.A.mark (some (.ref a))) (excMatches (.ref a) u) Q E s1) E s := by
  obtain ⟨o, ga, za, -, S⟩ := Y.inner
  have ty : PySem.W.Looks (model X.prog X.w) s.heap (typeOf (.ref a)) c := fun _ _ _ _ k z => wpAny_typeOf_ref (k _ _ ga) (by rw [za.1]; exact z)
  have mt := (PySem.W.exm_one (M := model X.prog X.w) Y.ok.kIn ty hb).here (A := X.A.mark (some (.ref a))) (Q := Q) (E := E) q
  obtain ⟨g, nd, hm | ⟨hm, hv, nn⟩⟩ := nm
  · exact ld_glob (X := X.suite a ((a, o) :: (X.pn ++ pins))) S g hm mt nd
  · exact ld_blt (X := X.suite a ((a, o) :: (X.pn ++ pins))) S g hm hv mt nn nd
/-- once more at the suite's beginning -/
theorem Down.again (Y : Down X pins B a c d τ G s) {h : Heap} (f : HandSPX.FlyingZ B (X.env :: X.outer) a (Zc c d) h) (u : s.heap.UpToSlots h) : Down X pins B a c d τ G { s with heap := h } :=
  ⟨Y.st, Y.fr, f, fun g k v => Y.on g k (u.trans v), Y.on h f.1 u, Y.no, fun g W k v w => Y.out g W k (u.trans v) w⟩
theorem Down.handle (Y : Down X pins B a c d τ G s) {D : Ends} {Wo : WX} (tk : Takes X Wo) {hs : List ExceptHandler} {l : List (Value × Option Nat × Suite)} (hk : HdsN X hs l) :
    wHds X.K Wo D l c d τ G → wpAny (model X.prog X.w) X.A (handleBy (.ref a) X.env hs) (SP X pins D) X.xe s := by
  induction hk with
  | nil =>
    intro wish
    refine wpAny_handleBy_nil ?_
    obtain ⟨-, -, -, o, f, T, -, -, go, -, dat, f1, -⟩ := id Y.fl
    unfold PySem.passOn
    refine wpAny_bind (wpAny_field go dat f1 ?_)
    rw [if_neg (by simp : ¬ ((Value.ref T == Value.none) = true))]
    have up : wpAny (model X.prog X.w) X.A (setFlight (.ref a) X.env.frame) (fun _ s4 => wpAny (model X.prog X.w) X.A (throw (.ref a) : Sem Flow) (SP X pins D) X.xe s4) X.xe s := by
      rw [Y.fr]
      exact HandSPX.setFlight_upZ Y.fl fun h held u => wpAny_throw (tk _ _ (Y.out h _ held u wish))
    first
      | exact wpAny_bind (wpAny_pure (wpAny_bind up))
      | exact wpAny_bind up
  | @cons x cl ts u us p p' hs l nm so r ih =>
    rintro ⟨b, hb, yes, no⟩
    refine wpAny_handleBy_cons (codeAny_handlers_test (Y.asked nm hb ?_)) (fun z => nomatch z)
    match b, yes, no with
    | false, _, no => exact ih (no rfl)
    | true, yes, _ =>
      refine codeAny_handlers_suite (HandSPX.lands_againZ Y.fl fun h f v => ?_)
      obtain ⟨o, -, zo, fo, S⟩ := (Y.again f v).inner
      refine wpAny_mono ((so a o c d (X.pn ++ pins) zo fo).run [] _ _ G _ S (yes rfl a Y.no)) ?_ (fun _ _ z => z.elim)
      intro g s6 hsp
      match g, hsp with
      | .next, ⟨τ6, G6, S6, z⟩ => exact ⟨τ6, G6, S6.unsuite Y.ok.ok, z⟩
      | .brk, ⟨τ6, G6, S6, z⟩ => exact ⟨τ6, G6, S6.unsuite Y.ok.ok, z⟩
      | .cont, ⟨τ6, G6, S6, z⟩ => exact ⟨τ6, G6, S6.unsuite Y.ok.ok, z⟩
      | .ret u, ⟨v6, τ6, G6, S6, r6, z⟩ => exact ⟨v6, τ6, G6, S6.unsuite Y.ok.ok, r6, z⟩
  | @named x n i cl ts u us p p' hs l nm hN hi ho so r ih =>
    rintro ⟨b, hb, yes, no⟩
    refine wpAny_handleBy_cons (codeAny_handlers_test (Y.asked nm hb ?_)) (fun z => nomatch z)
    match b, yes, no with
    | false, _, no => exact ih (no rfl)
    | true, yes, _ =>
      refine codeAny_handlers_suite_as (HandSPX.lands_againZ Y.fl fun h f v => ?_)
      obtain ⟨o, -, zo, fo, S⟩ := (Y.again f v).inner
      refine store_ok (X := X.suite a ((a, o) :: (X.pn ++ pins))) (v := .ref a) S hN hi (.inl ho) rfl (fun s5 S5 => ?_) (.inr ho)
      refine wpAny_mono ((so a o c d (X.pn ++ pins) zo fo).run [] s5 _ G _ S5 (yes rfl a Y.no)) ?_ (fun _ _ z => z.elim)
      intro g s6 hsp
      match g, hsp with
      | .next, ⟨τ6, G6, S6, z⟩ => exact gone_ok (S6.unsuite Y.ok.ok) hN hi ho fun s7 J => ⟨τ6.set i none, G6, J, z⟩
      | .brk, ⟨τ6, G6, S6, z⟩ => exact gone_ok (S6.unsuite Y.ok.ok) hN hi ho fun s7 J => ⟨τ6.set i none, G6, J, z⟩
      | .cont, ⟨τ6, G6, S6, z⟩ => exact gone_ok (S6.unsuite Y.ok.ok) hN hi ho fun s7 J => ⟨τ6.set i none, G6, J, z⟩
      | .ret u, ⟨v6, τ6, G6, S6, r6, z⟩ => exact gone_ok (S6.unsuite Y.ok.ok) hN hi ho fun s7 J => ⟨v6, τ6.set i none, G6, J, r6, z⟩
end
/-- try: body, any clauses -/
theorem ps_try_hds {X : Cx} {body : List Stmt} {h₀ : ExceptHandler} {hs : List ExceptHandler} {l : List (Value × Option Nat × Suite)} {pos : Pos} {tb : WX → TS} {Wo : WX}
    (st : X.stack = X.env :: X.outer) (fr : X.env.frame = some X.env.locals) (tk : Takes X Wo)
    (bo : ∀ (W : WX) (pn : List (Addr × Obj)) (xe : Value → Shared → Prop), Takes (X.tr pn xe) W → PassesOwn (model X.prog X.w) X.A X.env xe → PSs (X.tr pn xe) body (tb W))
    (hk : HdsN X (h₀ :: hs) l) : PS X (.Try body (h₀ :: hs) [] [] pos) (fun D τ G => tb (wHds X.K Wo D l) D τ G) := by
  constructor
  intro pins s τ G D I q
  have ok := I.ok
  refine wpAny_Try_except (wpAny_mono ((bo (wHds X.K Wo D l) (X.pn ++ pins) _ ?_ PassesOwn.looking).run [] s τ G D (I.toTry _) q) (fun f s1 r => ?_) (fun e s1 r => r))
  · rintro u s2 ⟨a, B, sI, pins', τ2, G2, c, d, rfl, J', nb, up, sky, na, os, ag, wish⟩
    have J := J'.ofTry ok
    have sky2 : Sky B (X.env :: X.outer) a (Zc c d) X.env.locals s2.heap := st ▸ sky
    refine Sky.land Zc.steady (by rw [ok.frames, st]) fr sky2 (fun h f v => ?_)
    refine Down.handle (B := B) (a := a) (c := c) (d := d) (τ := τ2) (G := G2) (s := { s2 with heap := h }) ⟨st, fr, f, fun g k z => J.landed nb k ((up.trans v).trans z) os ag, J.landed nb f.1 (up.trans v) os ag, na, fun g W k z w => ?_⟩ tk hk wish
    exact ⟨a, B, sI, pins, τ2, G2, c, d, rfl, J, nb, (up.trans v).trans z, .inr (.inr (by rw [st]; exact k)), na, os, ag, w⟩
  · match f, r with
    | .next, ⟨τ2, G2, J, z⟩ => exact wpAny_execs_nil ⟨τ2, G2, J.ofTry ok, z⟩
    | .brk, ⟨τ2, G2, J, z⟩ => exact ⟨τ2, G2, J.ofTry ok, z⟩
    | .cont, ⟨τ2, G2, J, z⟩ => exact ⟨τ2, G2, J.ofTry ok, z⟩
    | .ret u, ⟨v, τ2, G2, J, r2, z⟩ => exact ⟨v, τ2, G2, J.ofTry ok, r2, z⟩
end SH
set_option Elab.async false
set_option linter.all false
set_option maxRecDepth 100000
set_option maxHeartbeats 4000000
/-! errors with a number: made by the base's __init__, raised, caught, asked for their number -/
namespace SH
open PySem PySem.Spec PyProof.Rows L2
/-- numbers that an error is made with here -/
def Small (n : Int) : Prop := n.natAbs < 2 ^ 200
theorem small_bits {n : Int} (h : Small n) : decide ((1000 : Int) < ((Builtin.Int.intBits n : Nat) : Int)) = false := by
  have a := PySem.Flt.log2_lt_of (by decide : 0 < 200) h
  have b : Builtin.Int.intBits n ≤ n.natAbs.log2 + 1 := by
    unfold Builtin.Int.intBits
    split <;> omega
  refine decide_eq_false ?_
  omega
theorem small_of {n : Int} (h0 : -1000000 ≤ n) (h1 : n ≤ 1000000) : Small n := Nat.lt_of_le_of_lt (by omega : n.natAbs ≤ 1000000) (by decide)
/-- __init__(self, at) at a new exception: its dict gets the number -/
def spInitAt (K : PySem.W.Frag) : Sp := fun vs H Q _ => ∃ (a C : Addr) (n : Int), vs = [.ref a, .int n] ∧ OexC K C ∧ PySem.W.findIn K (.ref C) "at" = some none ∧ Small n ∧ H a = some (exo a C none) ∧
  ∀ dx : Addr, H dx = none → dx ≠ a → Q .non (upd (upd H dx (exd dx [(("at" : Str), .int n)])) a (exo a C (some dx)))
/-- what the top says of an error's class -/
structure ErrC (K : PySem.W.Frag) (mg : Str → Option Value) (x : Str) (C fI : Addr) : Prop where
  g : mg x = some (.ref C)
  o : OexC K C
  i : PySem.W.findIn K (.ref C) "__init__" = some (some (.ref fI))
  no : PySem.W.findIn K (.ref C) "at" = some none
  f : XfC K C
/-- .. and of the __init__ -/
structure InitOk (P : Program) (w : World) (K : PySem.W.Frag) (mg : Str → Option Value) (base : Heap) (fI : Addr) : Prop where
  ex : ∃ fd : FuncData, FnOk P w K mg base CX0 1 fI fd ["self", "at"] (spInitAt K) ∧ Binds K fd ["self", "at"] [] ∧ PySem.W.typeIn K (.ref fI) = some (.type "function")
/-- .. as it stands in the text -/
structure DdI (K : PySem.W.Frag) (q : Str) (st : Stmt) (fI : Addr) : Prop where
  ex : ∃ fd : FuncData, Fun K "__init__" q st fI fd ∧ Binds K fd ["self", "at"] [] ∧ PySem.W.typeIn K (.ref fI) = some (.type "function")
section
variable {X : Cx} {k : Nat} {x : Str} {C fI : Addr} {e : Expr} {ta : TA} {p pos : Pos}
/-- x(e): a new error of the class at C -/
theorem pmk_at (T : ErrC X.K X.mg x C fI) (I : InitOk X.prog X.w X.K X.mg X.base fI) (hr : Room k X.A) (hk : 2 ≤ k) (hg : Gl X x) (ha : PA X (e :: []) ta)
    (hd : (x == ("__debug__" : Str)) = false := by decide) (he : starEach (e :: []) X.env = (false, eval e X.env) :: starEach [] X.env := by rfl) (hp : (backTo pos (starEach [] X.env)).any (·.1) = false := by rfl) :
    PMk X (.Call (.Name x p) (e :: []) [] pos) (tMkO C (spInitAt X.K) [] ta) := by
  obtain ⟨fd, F, b, t⟩ := I.ex
  exact pmk_oex T.o T.i t F (hr.mono hk) b .nil pass0 hg T.g ha hd he hp
end
/-- the reading of a made error, behind its argument -/
theorem mk_at {K : PySem.W.Frag} {C : Addr} {H1 : Hp} {n : Int} {Q : XK} (To : OexC K C) (Tn : PySem.W.findIn K (.ref C) "at" = some none) (hs : Small n)
    (go : ∀ (d : Addr) (H2 : Hp), Same H1 H2 → H1 d = none → H2 d = some (.xd [(("at" : Str), .int n)]) → Q (.ref C) (some d) H2) :
    [V.int n].length ≤ 1000 ∧ ∀ a, H1 a = none → spInitAt K (.ref a :: ([V.int n] ++ [])) (upd H1 a (exo a C none))
      (fun v H2 => v = .non ∧ ∃ (d : Addr) (fs : List (Str × V)), H2 a = some (exo a C (some d)) ∧ H2 d = some (exd d fs) ∧ H1 d = none ∧ Q (.ref C) (some d) (upd (del H2 a) d (.xd fs))) (fun _ _ _ => False) := by
  refine ⟨(by show 1 ≤ 1000; decide), fun a na => ⟨a, C, n, rfl, To, Tn, hs, upd_same, fun dx ndx ne => ⟨rfl, dx, [(("at" : Str), V.int n)], upd_same, ?_, ?_, ?_⟩⟩⟩
  · rw [upd_ne ne, upd_same]
  · rw [upd_ne ne] at ndx
    exact ndx
  · rw [upd_ne ne] at ndx
    refine go dx _ (fun b o hb => ?_) ndx upd_same
    have b1 : b ≠ dx := ne_of_none hb ndx
    have b2 : b ≠ a := ne_of_none hb na
    rw [upd_ne b1, del_ne b2, upd_ne b2, upd_ne b1, upd_ne b2]
    exact hb
theorem wHds_skip {K : PySem.W.Frag} {Wo : WX} {D : Ends} {q : Value × Option Nat × Suite} {r : List (Value × Option Nat × Suite)} {c : Value} {d : Option Addr} {τ : L2.St} {G : Hp} (h : PySem.W.exmOne K c q.1 = some false)
    (go : wHds K Wo D r c d τ G) : wHds K Wo D (q :: r) c d τ G := ⟨false, h, (fun z => Bool.noConfusion z), fun _ => go⟩
theorem wHds_take {K : PySem.W.Frag} {Wo : WX} {D : Ends} {q : Value × Option Nat × Suite} {r : List (Value × Option Nat × Suite)} {c : Value} {d : Option Addr} {τ : L2.St} {G : Hp} (h : PySem.W.exmOne K c q.1 = some true)
    (go : ∀ a, G a = none → enter q.2.1 q.2.2 a c d D τ G) : wHds K Wo D (q :: r) c d τ G := ⟨true, h, (fun _ => go), (fun z => Bool.noConfusion z)⟩
theorem exm_of {K : PySem.W.Frag} {C D : Addr} {b : Bool} (h1 : PySem.W.subIn K (.ref D) (.type "BaseException") = some true) (h2 : PySem.W.isClsIn K D = true) (h3 : PySem.W.typeIn K (.ref D) = some (.type "type"))
    (h4 : PySem.W.subIn K (.ref C) (.ref D) = some b) : PySem.W.exmOne K (.ref C) (.ref D) = some b := by
  have c1 : (PySem.W.subIn K (.ref D) (.type "BaseException") == some true) = true := by rw [h1]; rfl
  have c2 : ((PySem.W.clsIn K D).isSome && PySem.W.typeIn K (.ref D) == some (.type "type")) = true := by
    have h2' : (PySem.W.clsIn K D).isSome = true := h2
    rw [h3, h2']; rfl
  unfold PySem.W.exmOne
  rw [if_pos c1]
  show (if ((PySem.W.clsIn K D).isSome && PySem.W.typeIn K (.ref D) == some (.type "type")) = true then PySem.W.subIn K (.ref C) (.ref D) else none) = some b
  rw [if_pos c2]
  exact h4
end SH
set_option Elab.async false
set_option linter.all false
set_option maxRecDepth 100000
set_option maxHeartbeats 4000000
namespace SH
open PySem PySem.Spec PyProof.Rows L2
/-! comprehensions whose steps only add to the heap: RL tells what the list made so far is -/
/-- all but what stands at D is as it was -/
def But (D : Addr) (H H' : Hp) : Prop := ∀ b o, b ≠ D → H b = some o → H' b = some o
theorem but_upd {D : Addr} {H : Hp} {o : HO} : But D H (upd H D o) := fun b x n e => by
  rw [upd_ne n]
  exact e
theorem but_tup {K : PySem.W.Frag} {D t : Addr} {H H' : Hp} {l xs : List V} (hD : H D = some (.lst l)) (e : But D H H') (h : SqT K H t xs) : SqT K H' t xs := by
  rcases h with h | h
  · rcases h with h | h
    · refine Or.inl (Or.inl (e _ _ (fun z => ?_) h))
      rw [z, hD] at h
      cases h
    · obtain ⟨o, h⟩ := h
      refine Or.inl (Or.inr ⟨o, e _ _ (fun z => ?_) h⟩)
      rw [z, hD] at h
      cases h
  · exact Or.inr h
theorem but_pairs {K : PySem.W.Frag} {D : Addr} {H H' : Hp} {l : List V} {L : PL} (hD : H D = some (.lst l)) (e : But D H H') (h : PairsAt K H L) : PairsAt K H' L := fun q hq => but_tup hD e (h q hq)
section
variable {J : It} {n : Nat} {G : Hp → Prop} {Y : Nat → Hp → V → Hp → Prop}
theorem lc_w (w : Walk J n G Y) {g : TG} {tt : TT} {te : TE} {vs : List Nat} {τ : L2.St} {H1 : Hp} {D : Addr} {Qd : Hp → Prop} (hD : H1 D = none) (hn : n ≤ 100000) (hG : ∀ H, Same H1 H → G H)
    (RL : Nat → List V → Hp → Prop) (h0 : ∀ H, Same H1 H → RL 0 [] H) (mono : ∀ i acc H H' l, H D = some (.lst l) → But D H H' → RL i acc H → RL i acc H')
    (hY : ∀ i H x H', Y i H x H' → Same H H')
    (hs : ∀ (i : Nat) (x : V) (acc : List V) (H H' : Hp) (Qn : VK) (Qf : Hp → Prop), i < n → Same H1 H' → Y i H x H' → RL i acc H' → H' D = some (.lst acc) → (∀ y H4, Same H' H4 → RL (i + 1) (acc ++ [y]) H4 → Qn y H4) → (∀ H3, Same H' H3 → RL (i + 1) acc H3 → Qf H3) →
      g x (wipe τ vs) H' fun τ2 H2 => wipe τ2 vs = wipe τ vs ∧ tt τ2 H2 fun b H3 => if b = true then te τ2 H3 Qn else Qf H3)
    (hd : ∀ acc H, Same H1 H → H D = some (.lst acc) → acc.length ≤ n → RL n acc H → Qd H) :
    ∃ W : Nat → Nat → Hp → Prop, (∃ m, W 0 m (upd H1 D (.lst []))) ∧ ∀ i m H, W i m H →
      (J.stop i H ∧ Qd H) ∨ (J.go i H ∧ ∃ Nx : Hp → Prop, (∀ H', Nx H' → ∃ m', m' < m ∧ W (i + 1) m' H') ∧ ∀ x H', J.yld i H x H' → g x (wipe τ vs) H' fun τ2 H2 => wipe τ2 vs = wipe τ vs ∧ tt τ2 H2 fun b H3 =>
        if b = true then te τ2 H3 fun y H4 => ∃ acc, H4 D = some (.lst acc) ∧ acc.length < sizeLine ∧ Nx (upd H4 D (.lst (acc ++ [y]))) else Nx H3) := by
  refine lc_it w (fun i H => ∃ acc, Same H1 H ∧ H D = some (.lst acc) ∧ acc.length ≤ i ∧ RL i acc H) ⟨[], same_new hD, upd_same, Nat.le_refl _, h0 _ (same_new hD)⟩ (fun i H _ p => ?_) (fun i x H H' hi p y => ?_) (fun H p => ?_)
  · obtain ⟨acc, e, _⟩ := p
    exact hG H e
  · obtain ⟨acc, e, at_, hl, r⟩ := p
    have e1 := hY i H x H' y
    have at1 := e1 _ _ at_
    refine hs i x acc H H' _ _ hi (e.trans e1) y (mono i acc H H' acc at_ (fun b o _ h => e1 b o h) r) at1 (fun z H4 e2 r2 => ?_) (fun H3 e2 r2 => ?_)
    · have at2 := e2 _ _ at1
      refine ⟨acc, at2, Nat.lt_of_le_of_lt (Nat.le_trans hl (Nat.le_of_lt (Nat.lt_of_lt_of_le hi hn))) (by decide), acc ++ [z], same_mut ((e.trans e1).trans e2) hD, upd_same, by simp; omega, mono _ _ H4 _ acc at2 but_upd r2⟩
    · exact ⟨acc, (e.trans e1).trans e2, e2 _ _ at1, by omega, r2⟩
  · obtain ⟨acc, e, at_, hl, r⟩ := p
    exact hd acc H e at_ hl r
end
/-! ### numbers and texts -/
theorem lt1 (c d : Nat) : decide (([c] : List Nat) < [d]) = decide (c < d) := by
  by_cases h : c < d
  · rw [decide_eq_true h]
    exact decide_eq_true (List.Lex.rel h)
  · rw [decide_eq_false h]
    refine decide_eq_false fun z => ?_
    cases z with
    | rel q => exact h q
    | cons q => cases q
/-- a text of the document: not too long, of letters -/
def isTxt (z : Str) : Bool := decide (z.length ≤ 40) && z.cps.toList.all okc
/-- a house of the document, behind a number -/
def chk (before : Int) : List (Int × Str) → Bool
  | [] => true
  | q :: r => decide (before < q.1) && decide (q.1 ≤ 99) && isTxt q.2 && chk q.1 r
def isH (h : List (Int × Str)) : Bool := decide (h.length ≤ 8) && chk (-1) h
theorem chk_of {m : Nat} (hm : m ≤ 40) : ∀ (h : List (Int × Str)) (b : Int), (∀ q ∈ h, b < q.1) → IsHs m h → chk b h = true
  | [], _, _, _ => rfl
  | q :: r, b, hb, a => by
    have t := a.txt q (List.mem_cons_self ..)
    have n := a.num q (List.mem_cons_self ..)
    have asc := a.asc
    rw [List.map_cons, List.pairwise_cons] at asc
    have ih := chk_of hm r q.1 (fun x hx => asc.1 x.1 (List.mem_map_of_mem hx)) ⟨asc.2, fun x hx => a.num x (List.mem_cons_of_mem _ hx), fun x hx => a.txt x (List.mem_cons_of_mem _ hx)⟩
    show (decide (b < q.1) && decide (q.1 ≤ 99) && isTxt q.2 && chk q.1 r) = true
    have e1 := hb q (List.mem_cons_self ..)
    have e2 : isTxt q.2 = true := by
      unfold isTxt
      rw [decide_eq_true (Nat.le_trans t.2 hm)]
      exact t.1
    rw [ih, e2, decide_eq_true e1, decide_eq_true n.2]
    rfl
end SH
set_option Elab.async false
set_option linter.all false
set_option maxRecDepth 100000
set_option maxHeartbeats 4000000
/-! sorted(xs), xs a list of pairs of a number and a text; pairs with one number have one text -/
namespace SH
open PySem PySem.Spec PyProof.Rows L2
def NT (h : Heap) (v : Value) (p : Int × Str) : Prop := ∃ (a : Addr) (o : Obj) (t u : Tok) (c : Nat), v = .ref a ∧ h.get? a = some o ∧ o.cls = .type "tuple" ∧ o.data = .seq #[.int p.1 t, .str p.2 u] c
theorem NT.on {h h' : Heap} {v : Value} {p : Int × Str} (x : NT h v p) (k : ∀ b o, h.get? b = some o → o.cls = .type "tuple" → h'.get? b = some o) : NT h' v p := by
  obtain ⟨a, o, t, u, c, rfl, g, q, r⟩ := x
  exact ⟨a, o, t, u, c, rfl, k a o g q, q, r⟩
theorem nt_firsts {h : Heap} {k : Value → Int × Str} : ∀ (vs : List Value), (∀ v ∈ vs, NT h v (k v)) → ∃ fs, PySem.W.KatTups h vs fs ∧ fs.length = vs.length ∧ ∀ f ∈ fs, ∃ n t, f = Value.int n t
  | [], _ => ⟨[], PySem.W.KatTups.nil, rfl, fun _ m => nomatch m⟩
  | v :: r, x => by
    obtain ⟨fs, k1, k2, k3⟩ := nt_firsts r (fun u m => x u (List.mem_cons_of_mem _ m))
    obtain ⟨a, o, t, u, c, rfl, g, q, d⟩ := x v (List.mem_cons_self ..)
    refine ⟨_, PySem.W.KatTups.cons g q d rfl k1, by simp [k2], fun f m => ?_⟩
    rcases List.mem_cons.mp m with e | m
    · exact ⟨_, _, e⟩
    · exact k3 f m
def ltN (k : Value → Int × Str) (v u : Value) : Bool := decide ((k v).1 < (k u).1)
theorem ltN_swo (k : Value → Int × Str) : SrtO.Swo (ltN k) :=
  ⟨fun x y h => decide_eq_false (by have := of_decide_eq_true h; omega), fun x y z h1 h2 => decide_eq_false (by have a := of_decide_eq_false h1; have b := of_decide_eq_false h2; omega)⟩
section
variable {prog : Program} {w : World} {A : Around} {s : Shared}
theorem nt_cmp {vs : List Value} {k : Value → Int × Str} (hp : ∀ v ∈ vs, NT s.heap v (k v)) (one : ∀ v ∈ vs, ∀ u ∈ vs, (k v).1 = (k u).1 → (k v).2 = (k u).2) :
    SrtO.Cmp prog w A s (tuples' true) (fun p => p.1 ∈ vs) (SrtO.lt2 (ltN k)) := by
  rintro ⟨x, kx⟩ ⟨y, ky⟩ mp mq
  have same := one _ mp _ mq
  show wpAny (model prog w) A (keyLt' (tuples' true) x y) (fun r s' => s' = s ∧ r = decide ((k x).1 < (k y).1)) (fun _ _ => False) s
  obtain ⟨a, o, t, u, c, e, g, cl, d⟩ := hp _ mp
  obtain ⟨a', o', t', u', c', e', g', cl', d'⟩ := hp _ mq
  have ex : x = .ref a := e
  have ey : y = .ref a' := e'
  subst ex ey
  refine PySem.W.kat_lt g d g' d' (PySem.W.kat_cons (SeqAt.EqAt.int_int _ t _ t' prog w _ _ (PySem.W.kat_go (fun e1 => ?_) (fun e1 => ?_))))
  · have en : (k (.ref a)).1 = (k (.ref a')).1 := by simpa using e1
    have ez := same en
    refine PySem.W.kat_yes (PySem.W.kat_cons (SeqAt.EqAt.str_str _ u _ u' prog w _ _ (PySem.W.kat_go (fun _ => ?_) (fun e2 => ?_))))
    · refine PySem.W.kat_yes (PySem.W.kat_nil ⟨rfl, ?_⟩)
      rw [en]
      simp
    · rw [ez] at e2
      simp at e2
  · exact PySem.W.kat_no (oneLt_int ⟨rfl, rfl⟩)
theorem nt_sortable {a : Addr} {vs : List Value} {k : Value → Int × Str} (h0 : 0 < vs.length) (hp : ∀ v ∈ vs, NT s.heap v (k v)) (one : ∀ v ∈ vs, ∀ u ∈ vs, (k v).1 = (k u).1 → (k v).2 = (k u).2)
    (ha : ∀ o, s.heap.get? a = some o → o.cls ≠ .type "tuple") : SrtO.SortableO prog w A s a vs (ltN k) := by
  intro h' keep
  have hp' : ∀ v ∈ vs, NT h' v (k v) := fun v m => (hp v m).on fun b o g c => keep b o (fun z => ha o (z ▸ g) c) g
  obtain ⟨fs, f1, f2, f3⟩ := nt_firsts vs hp'
  refine ⟨tuples' true, fun Q E q => PySem.W.kat_kind (T := .type "int") f1 (by omega) (fun f m => ?_) (by rfl) ?_, nt_cmp hp' one⟩
  · obtain ⟨n, t, rfl⟩ := f3 f m
    exact PySem.W.Looks.now
  · have e : (Value.type "int" != Value.type "tuple") = true := by first | decide +kernel | rfl
    rw [e]
    exact q
end
/-- sorted(xs): a new list of the same pairs, by their numbers -/
def rSortNT (K : PySem.W.Frag) : List V → Hp → VK → Prop := fun vs H Q => ∃ (a : Addr) (L : PL), vs = [.ref a] ∧ HsAt K H a L ∧ (∀ q ∈ L, ∀ r ∈ L, q.2.1 = r.2.1 → q.2.2 = r.2.2) ∧
  ∀ (L' : PL) (p : Addr), L'.Perm L → L'.Pairwise (fun q r => q.2.1 ≤ r.2.1) → H p = none → Q (.ref p) (upd H p (.lst (refs L')))
/-- what stands at the address in a list of pairs -/
def atAddr (L : PL) (v : Value) : Int × Str := match v with
  | .ref a => match L.find? (fun q => q.1 == a) with
    | some q => q.2
    | none => (0, "")
  | _ => (0, "")
def addrOf : Value → Addr
  | .ref a => a
  | _ => 0
theorem atAddr_of {L : PL} (un : ∀ q ∈ L, ∀ r ∈ L, q.1 = r.1 → q.2 = r.2) {q : Addr × Int × Str} (hq : q ∈ L) : atAddr L (.ref q.1) = q.2 := by
  show (match L.find? (fun r => r.1 == q.1) with | some r => r.2 | none => (0, "")) = q.2
  cases e : L.find? (fun r => r.1 == q.1) with
  | some r =>
    have h1 := List.mem_of_find?_eq_some e
    have h2 := List.find?_some e
    exact un r h1 q hq (by simpa using h2)
  | none =>
    have := List.find?_eq_none.mp e q hq
    simp at this
section
variable {X : Cx}
theorem cr_sortNT : CallR X (.builtin "sorted") (rSortNT X.K) := by
  intro pins s τ H vs us Q I r h
  obtain ⟨a, L, rfl, hA, one, q⟩ := h
  obtain ⟨its, rv, hl, hz⟩ := I.list hA.1
  obtain ⟨u, rfl, ru⟩ := vals1 r
  obtain rfl : u = Value.ref a := ru
  obtain ⟨e1, e2⟩ := refs_back rv (fun x m => by
    obtain ⟨q, _, e⟩ := List.mem_map.mp m
    exact ⟨q.1, e.symm⟩)
  -- one address, one pair
  have un : ∀ q ∈ L, ∀ r ∈ L, q.1 = r.1 → q.2 = r.2 := fun q hq r hr e => by
    have z := I.tuple_inj (hA.2 q hq) (by rw [e]; exact hA.2 r hr)
    obtain ⟨x, n, t⟩ := q
    obtain ⟨y, m, t'⟩ := r
    simp at z
    show (n, t) = (m, t')
    rw [z.1, z.2]
  have mem : ∀ v ∈ its, ∃ q ∈ L, v = Value.ref q.1 := fun v hv => by
    obtain ⟨t, rfl⟩ := e2 v hv
    have m : V.ref t ∈ refs L := by
      rw [e1]
      exact List.mem_map.mpr ⟨_, hv, rfl⟩
    obtain ⟨q, hq, e⟩ := List.mem_map.mp m
    cases e
    exact ⟨q, hq, rfl⟩
  have nt : ∀ v ∈ its, NT s.heap v (atAddr L v) := fun v hv => by
    obtain ⟨q, hq, rfl⟩ := mem v hv
    rw [atAddr_of un hq]
    obtain ⟨i2, r2, ⟨o, g, c, n, d⟩, _⟩ := I.tuple (hA.2 q hq)
    obtain ⟨u1, u2, rfl, ⟨t1, rfl⟩, ⟨t2, rfl⟩⟩ := vals2 r2
    exact ⟨q.1, o, t1, t2, n, rfl, g, c, d⟩
  have one' : ∀ v ∈ its, ∀ u ∈ its, (atAddr L v).1 = (atAddr L u).1 → (atAddr L v).2 = (atAddr L u).2 := fun v hv u hu => by
    obtain ⟨q, hq, rfl⟩ := mem v hv
    obtain ⟨r, hr, rfl⟩ := mem u hu
    rw [atAddr_of un hq, atAddr_of un hr]
    exact one q hq r hr
  refine SrtO.sorted_ord (ltN_swo (atAddr L)) hl.isList (by rw [← rv.length]; exact hz) (fun h2 h₁ b hb kk => ?_) (fun out hs hb => ?_)
  · refine nt_sortable (s := { s with heap := h₁ }) (by omega) (fun v m => (nt v m).on fun c o g _ => (kk c o g).2) one' (fun o g c => ?_)
    have g' : some o = some (seqObj "list" its.toArray 0) := g.symm.trans hb
    cases g'
    exact absurd (Value.type.inj c) (by decide)
  · have mo : ∀ v ∈ out, ∃ q ∈ L, v = Value.ref q.1 := fun v hv => mem v (hb.perm.mem_iff.mp hv)
    -- the pairs in their new order
    let f : Value → Addr × Int × Str := fun v => (addrOf v, atAddr L v)
    have fq : ∀ q ∈ L, f (.ref q.1) = q := fun q hq => by
      show (q.1, atAddr L (.ref q.1)) = q
      rw [atAddr_of un hq]
    have hL : its.map f = L := by
      have z : (refs L).map (fun v => match v with | .ref t => f (.ref t) | _ => (0, 0, "")) = L := by
        unfold refs
        rw [List.map_map]
        calc L.map _ = L.map id := List.map_congr_left fun q hq => fq q hq
          _ = L := List.map_id L
      rw [e1, List.map_map] at z
      refine Eq.trans (List.map_congr_left fun v hv => ?_) z
      obtain ⟨q, _, rfl⟩ := mem v hv
      rfl
    have hp : (out.map f).Perm L := by
      rw [← hL]
      exact hb.perm.map f
    have hr : refs (out.map f) = out.map backV := by
      unfold refs
      rw [List.map_map]
      refine List.map_congr_left fun v hv => ?_
      obtain ⟨q, _, rfl⟩ := mo v hv
      rfl
    have hsrt : (out.map f).Pairwise (fun q r => q.2.1 ≤ r.2.1) := by
      rw [List.pairwise_map]
      refine List.Pairwise.imp (fun {x y} h => ?_) hs
      have := of_decide_eq_false h
      show (atAddr L x).1 ≤ (atAddr L y).1
      omega
    obtain ⟨n, hn⟩ := sortedAll_at s.heap its out.toArray
    have hd : s.heap.objs.size ≤ s.heap.objs.size + 1 := Nat.le_succ _
    refine ⟨.ref (s.heap.objs.size + 1), upd H (s.heap.objs.size + 1) (.lst (refs (out.map f))), I.laid (t' := s.toks) (fun b o g => sortedAll_old g) hd ⟨?_, out, n, ?_, hn⟩, rfl, q _ _ hp hsrt (I.hok.fresh hd)⟩
    · have e3 : (refs (out.map f)).length = (refs L).length := by
        unfold refs
        rw [List.length_map, List.length_map (as := L), hp.length_eq]
      rw [e3]
      exact hz
    · rw [hr]
      exact vals_back fun v hv => by
        obtain ⟨q, _, rfl⟩ := mo v hv
        exact ⟨q.1, rfl⟩
end
end SH
set_option Elab.async false
set_option linter.all false
set_option maxRecDepth 100000
set_option maxHeartbeats 4000000
/-! houses as data, compared -/
namespace SH
open PySem PySem.Spec PyProof.Rows L2
def dPair (q : Int × Str) : PyData := .tuple [.int q.1, .str q.2]
def dH (h : List (Int × Str)) : PyData := .list (h.map dPair)
theorem dp_refs {K : PySem.W.Frag} {H : Hp} : ∀ (L : PL), PairsAt K H L → DpAll K H (refs L) (L.map fun q => dPair q.2)
  | [], _ => .nil
  | q :: r, h => .cons (.tup (h q (List.mem_cons_self ..)) (.cons (.int _) (.cons (.str _) .nil))) (dp_refs r fun x m => h x (List.mem_cons_of_mem _ m))
theorem dp_house {K : PySem.W.Frag} {H : Hp} {a : Addr} {L : PL} (h : HsAt K H a L) : Dp K H (.ref a) (dH (L.map (·.2))) := by
  refine .lst h.1 ?_
  rw [List.map_map]
  exact dp_refs L h.2
theorem okc_lt {c : Nat} (h : okc c = true) : c < 127 := by
  unfold okc at h
  simp at h
  omega
theorem let_ok {z : Str} (h : IsLet z) : PyData.strOk z = true := by
  unfold PyData.strOk
  rw [← Array.all_toList]
  refine List.all_eq_true.mpr fun c hc => ?_
  have := okc_lt (List.all_eq_true.mp h c hc)
  exact decide_eq_true (by omega)
def LetAll (h : List (Int × Str)) : Prop := ∀ q ∈ h, IsLet q.2
theorem dH_lay : ∀ {h : List (Int × Str)}, LetAll h → PyData.canLayAll0 (h.map dPair) = true
  | [], _ => rfl
  | q :: r, a => by
    rw [List.map_cons, PyData.canLayAll0, dH_lay fun x m => a x (List.mem_cons_of_mem _ m)]
    simp [dPair, PyData.canLay0, PyData.canLayAll0, let_ok (a q (List.mem_cons_self ..))]
theorem dH_deep : ∀ (h : List (Int × Str)), PyData.depthAll (h.map dPair) ≤ 1
  | [] => Nat.zero_le _
  | q :: r => by
    rw [List.map_cons, PyData.depthAll]
    have := dH_deep r
    have e : PyData.depth (dPair q) = 1 := rfl
    rw [e]
    omega
theorem dH_shaped {h : List (Int × Str)} (a : LetAll h) : SeqAt.shaped (dH h) = true := by
  unfold SeqAt.shaped
  have e1 : (dH h).canLay0 = true := dH_lay a
  have e2 : (dH h).depth ≤ 64 := by
    show PyData.depthAll (h.map dPair) + 1 ≤ 64
    have := dH_deep h
    omega
  rw [e1, decide_eq_true e2]
  rfl
theorem dH_refl {h : List (Int × Str)} (a : LetAll h) : PyData.eqv (dH h) (dH h) = true := SeqAt.eqv_refl _ (show (dH h).canLay0 = true from dH_lay a)
/-- what is told or due: a tag and a thing -/
def dT (p : Str × PyData) : PyData := .tuple [.str p.1, p.2]
theorem dT_shaped {p : Str × PyData} (h1 : PyData.strOk p.1 = true) (h2 : p.2.canLay0 = true) (h3 : p.2.depth ≤ 60) : SeqAt.shaped (dT p) = true ∧ PyData.eqv (dT p) (dT p) = true := by
  have e1 : (dT p).canLay0 = true := by
    show (PyData.strOk p.1 && (p.2.canLay0 && true)) = true
    rw [h1, h2]
    rfl
  have e2 : (dT p).depth ≤ 64 := by
    show max 0 (max p.2.depth 0) + 1 ≤ 64
    omega
  refine ⟨?_, SeqAt.eqv_refl _ e1⟩
  unfold SeqAt.shaped
  rw [e1, decide_eq_true e2]
  rfl
theorem dH_depth (h : List (Int × Str)) : (dH h).depth ≤ 60 := by
  show PyData.depthAll (h.map dPair) + 1 ≤ 60
  have := dH_deep h
  omega
theorem isTxt_let {z : Str} (h : isTxt z = true) : IsLet z := by
  unfold isTxt at h
  exact (Bool.and_eq_true_iff.mp h).2
theorem IsHs.letAll {m : Nat} {h : List (Int × Str)} (a : IsHs m h) : LetAll h := fun q hq => (a.txt q hq).1
theorem LetAll.filter {h : List (Int × Str)} (a : LetAll h) (p : Int × Str → Bool) : LetAll (h.filter p) := fun q hq => a q (List.mem_filter.mp hq).1
theorem LetAll.app {h k : List (Int × Str)} (a : LetAll h) (b : LetAll k) : LetAll (h ++ k) := fun q hq => (List.mem_append.mp hq).elim (a q) (b q)
theorem letAll_ins {n : Int} {z : Str} {h : List (Int × Str)} (a : LetAll h) (b : IsLet z) : LetAll (h.filter (fun q => decide (q.1 < n)) ++ [(n, z)] ++ h.filter (fun q => decide (n < q.1))) :=
  ((a.filter _).app fun q hq => by rw [List.mem_singleton.mp hq]; exact b).app (a.filter _)
/-! a house that is none -/
theorem chk_true : ∀ {h : List (Int × Str)} {b : Int}, chk b h = true → (h.map (·.1)).Pairwise (· < ·) ∧ (∀ q ∈ h, b < q.1 ∧ q.1 ≤ 99 ∧ isTxt q.2 = true)
  | [], _, _ => ⟨List.Pairwise.nil, fun q hq => nomatch hq⟩
  | q :: r, b, h => by
    have h' : (decide (b < q.1) && decide (q.1 ≤ 99) && isTxt q.2 && chk q.1 r) = true := h
    simp only [Bool.and_eq_true, decide_eq_true_eq] at h'
    obtain ⟨⟨⟨h1, h2⟩, h3⟩, h4⟩ := h'
    obtain ⟨i1, i2⟩ := chk_true h4
    refine ⟨?_, fun x hx => ?_⟩
    · rw [List.map_cons, List.pairwise_cons]
      refine ⟨fun y hy => ?_, i1⟩
      obtain ⟨z, hz, rfl⟩ := List.mem_map.mp hy
      exact (i2 z hz).1
    · rcases List.mem_cons.mp hx with e | m
      · rw [e]; exact ⟨h1, h2, h3⟩
      · have := i2 x m
        exact ⟨by omega, this.2⟩
theorem isH_false {h : List (Int × Str)} (no : ¬ (h.length ≤ 8 ∧ (h.map (·.1)).Pairwise (· < ·) ∧ ∀ q ∈ h, -1 < q.1 ∧ q.1 ≤ 99 ∧ isTxt q.2 = true)) : isH h = false := by
  cases e : isH h with
  | false => rfl
  | true =>
    unfold isH at e
    obtain ⟨e1, e2⟩ := Bool.and_eq_true_iff.mp e
    exact absurd ⟨of_decide_eq_true e1, chk_true e2⟩ no
/-! ### a house filtered, pair by pair -/
theorem refs_get {L : PL} {i : Nat} {x : V} (h : (refs L)[i]? = some x) : ∃ t, L[i]? = some t ∧ t ∈ L ∧ x = .ref t.1 := by
  unfold refs at h
  rw [List.getElem?_map] at h
  cases e : L[i]? with
  | none => rw [e] at h; cases h
  | some t =>
    rw [e] at h
    cases h
    exact ⟨t, rfl, List.mem_of_getElem? e, rfl⟩
theorem lc_filter {K : PySem.W.Frag} {a : Addr} {L : PL} {g : TG} {tt : TT} {te : TE} {vs : List Nat} {τ : L2.St} {H1 : Hp} {D : Addr} {Qd : Hp → Prop} (hD : H1 D = none) (hA : HsAt K H1 a L) (hl : L.length ≤ 1000) (p : Addr × Int × Str → Bool)
    (hs : ∀ (q : Addr × Int × Str) (H' : Hp) (Qn : VK) (Qf : Hp → Prop), q ∈ L → Same H1 H' → (p q = true → Qn (.ref q.1) H') → (p q = false → Qf H') →
      g (.ref q.1) (wipe τ vs) H' fun τ2 H2 => wipe τ2 vs = wipe τ vs ∧ tt τ2 H2 fun b H3 => if b = true then te τ2 H3 Qn else Qf H3)
    (hd : ∀ H, Same H1 H → H D = some (.lst (refs (L.filter p))) → Qd H) :
    ∃ W : Nat → Nat → Hp → Prop, (∃ m, W 0 m (upd H1 D (.lst []))) ∧ ∀ i m H, W i m H →
      ((Itl K a).stop i H ∧ Qd H) ∨ ((Itl K a).go i H ∧ ∃ Nx : Hp → Prop, (∀ H', Nx H' → ∃ m', m' < m ∧ W (i + 1) m' H') ∧ ∀ x H', (Itl K a).yld i H x H' → g x (wipe τ vs) H' fun τ2 H2 => wipe τ2 vs = wipe τ vs ∧ tt τ2 H2 fun b H3 =>
        if b = true then te τ2 H3 fun y H4 => ∃ acc, H4 D = some (.lst acc) ∧ acc.length < sizeLine ∧ Nx (upd H4 D (.lst (acc ++ [y]))) else Nx H3) := by
  have rl : (refs L).length = L.length := List.length_map ..
  refine lc_w (walk_list (xs := refs L)) hD (by omega) (fun H' e => e.seq hA.1) (fun i acc _ => acc = refs ((L.take i).filter p)) (fun _ _ => rfl) (fun _ _ _ _ _ _ _ r => r) (fun i H x H' y => by rw [y.1]; exact Same.refl _)
    (fun i x acc H2 H3 Qn Qf hi sm y r at_ kn kf => ?_) (fun acc H2 sm at_ _ r => ?_)
  · obtain ⟨rfl, hx⟩ := y
    obtain ⟨t, ht, tm, rfl⟩ := refs_get hx
    refine hs t _ Qn Qf tm sm (fun e => kn _ _ (Same.refl _) ?_) (fun e => kf _ (Same.refl _) ?_)
    · rw [r, List.take_add_one, ht, List.filter_append]
      show _ = refs (_ ++ [t].filter p)
      rw [List.filter_cons_of_pos e]
      unfold refs
      rw [List.map_append]
      rfl
    · rw [r, List.take_add_one, ht, List.filter_append]
      show _ = refs (_ ++ [t].filter p)
      rw [List.filter_cons_of_neg (by rw [e]; decide), List.filter_nil, List.append_nil]
  · refine hd H2 sm ?_
    rw [at_, r, List.take_of_length_le (by omega)]
theorem HsAt.filter {K : PySem.W.Frag} {H : Hp} {L : PL} (h : PairsAt K H L) (p : Addr × Int × Str → Bool) : PairsAt K H (L.filter p) := fun q hq => h q (List.mem_filter.mp hq).1
theorem map_filter (L : PL) (p : Int × Str → Bool) : (L.filter fun q => p q.2).map (·.2) = (L.map (·.2)).filter p := by
  rw [List.filter_map]
  rfl
mutual
theorem dp_same {K : PySem.W.Frag} {H H' : Hp} (e : Same H H') : ∀ {d : PyData} {v : V}, Dp K H v d → Dp K H' v d
  | .none, _, h => by cases h; exact .non
  | .bool _, _, h => by cases h; exact .bl _
  | .int _, _, h => by cases h; exact .int _
  | .str _, _, h => by cases h; exact .str _
  | .list ds, _, h => by
    cases h with
    | lst s a => exact .lst (e.seq s) (dp_all_same e a)
  | .tuple ds, _, h => by
    cases h with
    | tup s a => exact .tup (same_tup e s) (dp_all_same e a)
  | .dict _, _, h => by cases h
theorem dp_all_same {K : PySem.W.Frag} {H H' : Hp} (e : Same H H') : ∀ {ds : List PyData} {vs : List V}, DpAll K H vs ds → DpAll K H' vs ds
  | [], _, h => by cases h; exact .nil
  | d :: ds, _, h => by
    cases h with
    | cons a b => exact .cons (dp_same e a) (dp_all_same e b)
end
/-! ### slices, texts of one letter joined -/
theorem cut_to (xs : List V) (k : Nat) : cutV xs none (some (k : Int)) = xs.take k := by
  unfold cutV
  rw [HT.sIx_none, HT.sIx_nat, List.drop_zero, Nat.sub_zero]
  rcases Nat.le_total k xs.length with h | h
  · rw [Nat.min_eq_left h]
  · rw [Nat.min_eq_right h, List.take_length, List.take_of_length_le h]
theorem joinL_len : ∀ (n c : Nat), (TL.joinL [] (List.replicate n [c])).length = n
  | 0, _ => rfl
  | 1, _ => rfl
  | n + 2, c => by
    show ([c] ++ ([] ++ TL.joinL [] (List.replicate (n + 1) [c]))).length = n + 2
    rw [List.nil_append, List.length_append, joinL_len (n + 1) c]
    show 1 + (n + 1) = n + 2
    omega
theorem join_len {n c : Nat} : (Txt.join "" (List.replicate n (⟨#[c]⟩ : Str))).length = n := by
  have e : (Txt.join "" (List.replicate n (⟨#[c]⟩ : Str))).cps.toList = TL.joinL [] (List.replicate n [c]) := by
    rw [TL.join_eq]
    refine (TL.tl_join "" _).trans ?_
    rw [List.map_replicate]
    rfl
  have e2 := congrArg List.length e
  rw [joinL_len] at e2
  exact e2
theorem joinL_mem {x : Nat} : ∀ (n c : Nat), x ∈ TL.joinL [] (List.replicate n [c]) → x = c
  | 0, _, h => by cases h
  | 1, _, h => by simpa [TL.joinL] using h
  | n + 2, c, h => by
    have h' : x ∈ [c] ++ ([] ++ TL.joinL [] (List.replicate (n + 1) [c])) := h
    rw [List.nil_append] at h'
    rcases List.mem_append.mp h' with m | m
    · exact List.mem_singleton.mp m
    · exact joinL_mem (n + 1) c m
theorem join_mem {n c x : Nat} (h : x ∈ (Txt.join "" (List.replicate n (⟨#[c]⟩ : Str))).cps.toList) : x = c := by
  have e : (Txt.join "" (List.replicate n (⟨#[c]⟩ : Str))).cps.toList = TL.joinL [] (List.replicate n [c]) := by
    rw [TL.join_eq]
    refine (TL.tl_join "" _).trans ?_
    rw [List.map_replicate]
    rfl
  rw [e] at h
  exact joinL_mem n c h
theorem isTxt_long {z : Str} (h : 40 < z.length) : isTxt z = false := by
  unfold isTxt
  rw [decide_eq_false (by omega)]
  rfl
theorem isTxt_line {z : Str} (h : 10 ∈ z.cps.toList) : isTxt z = false := by
  unfold isTxt
  have : z.cps.toList.all okc = false := by
    cases e : z.cps.toList.all okc with
    | false => rfl
    | true => exact absurd (List.all_eq_true.mp e 10 h) (by decide)
  rw [this, Bool.and_false]
end SH
set_option Elab.async false
set_option linter.all false
set_option maxRecDepth 100000
set_option maxHeartbeats 4000000
/-! own classes: their methods, a new instance -/
namespace SH
open PySem PySem.Spec PyProof.Rows L2
/-- a method as it stands -/
structure DdM (K : PySem.W.Frag) (C : Addr) (m qual : Str) (st : Stmt) (ps : List Str) : Prop where
  ex : ∃ (f : Addr) (fd : FuncData), Fun K m qual st f fd ∧ Meth K C m f ∧ Binds K fd ps []
structure DdMk (K : PySem.W.Frag) (C : Addr) (m qual : Str) (st : Stmt) (ps : List Str) : Prop where
  ex : ∃ (f : Addr) (fd : FuncData), Fun K m qual st f fd ∧ Mk K C f ∧ Binds K fd ps []
/-- e.f, the frame said -/
theorem pe_fldK {X : Cx} {K : PySem.W.Frag} {e : Expr} {f : Str} {pos : Pos} {ta : TE} (he : PE X e ta) (hb : attributeBase e f X.env (eval e X.env) = eval e X.env) (h : X.K = K := by rfl) : PE X (.Attribute e f pos) (tFld K ta f) := h ▸ pe_fld he hb
theorem cr_sortedPOK {X : Cx} {K : PySem.W.Frag} (h : X.K = K := by rfl) : CallR X (.builtin "sorted") (rSortedPO K) := h ▸ cr_sortedPO
theorem pi_listK {X : Cx} {K : PySem.W.Frag} {tg e : Expr} {te : TE} (he : PE X e te) (h : X.K = K := by rfl) : PI X tg e (iList K te) := h ▸ pi_list he
section
variable {P : Program} {w : World} {K : PySem.W.Frag} {mg : Str → Option Value} {base : Heap}
theorem met_of {C : Addr} {m qual : Str} {st : Stmt} {ps N : List Str} {k : Nat} {sp : Sp} (D : DdM K C m qual st ps) (c : Cls K C) (S : FnScope N ps (defScope st)) (len : ∀ vs H Q E, sp vs H Q E → vs.length = ps.length)
    (hbody : ∀ (f : Addr) (cdv : Value) (A : Around) (outer : List Env) (s : Shared) (H : Hp) (vs : List V) (Q : VK) (E : XK), Room k (A.deeper (envOfC qual (defScope st) s.heap.objs.size f cdv)) → sp vs H Q E →
      ∃ t, PSs (cxOf CX0 P w K mg base N qual (defScope st) f cdv A outer s H E).nox (defBody st) t ∧ t { nx := fun _ H' => Q .non H', rt := Q } (start N vs) H) : C8.Met P w K mg base (k + 1) C m sp [] := by
  obtain ⟨f, fd, F, me, b⟩ := D.ex
  exact ⟨f, fd, ps, [], c, me, F.ok S len (fun cdv A outer s H vs Q E hr h => hbody f cdv A outer s H vs Q E hr h), b, .nil⟩
theorem mak_of {x : Str} {C : Addr} {m qual : Str} {st : Stmt} {ps N : List Str} {k : Nat} {sp : Sp} (D : DdMk K C m qual st ps) (hm : mg x = some (.ref C)) (S : FnScope N ps (defScope st)) (len : ∀ vs H Q E, sp vs H Q E → vs.length = ps.length)
    (hbody : ∀ (f : Addr) (cdv : Value) (A : Around) (outer : List Env) (s : Shared) (H : Hp) (vs : List V) (Q : VK) (E : XK), Room k (A.deeper (envOfC qual (defScope st) s.heap.objs.size f cdv)) → sp vs H Q E →
      ∃ t, PSs (cxOf CX0 P w K mg base N qual (defScope st) f cdv A outer s H E).nox (defBody st) t ∧ t { nx := fun _ H' => Q .non H', rt := Q } (start N vs) H) : C8.Mak P w K mg base (k + 1) x C sp [] := by
  obtain ⟨f, fd, F, me, b⟩ := D.ex
  exact ⟨f, fd, ps, [], me, F.ok S len (fun cdv A outer s H vs Q E hr h => hbody f cdv A outer s H vs Q E hr h), hm, b, .nil⟩
end
end SH
set_option Elab.async false
set_option linter.all false
set_option maxRecDepth 100000
set_option maxHeartbeats 4000000
/-! sorted(xs) of any data; triples of a text, a number and a start -/
namespace SH
open PySem PySem.Spec PyProof.Rows L2
section
variable {α : Type}
theorem each_of_vals : ∀ {Z : List (V × α)} {its : List Value}, Vals (Z.map (·.1)) its → PySem.W.EachIs (fun v z => RelV z.1 v) its Z
  | [], _, .nil => .nil
  | _ :: _, _, .cons r t => .cons r (each_of_vals t)
theorem vals_of_each : ∀ {Z : List (V × α)} {its : List Value}, PySem.W.EachIs (fun v z => RelV z.1 v) its Z → Vals (Z.map (·.1)) its
  | _, _, .nil => .nil
  | _, _, .cons r t => .cons r (vals_of_each t)
end
/-- sorted(xs): a new list of the same things, by what they read as -/
def rSortD (K : PySem.W.Frag) : List V → Hp → VK → Prop := fun vs H Q => ∃ (α : Type) (enc : α → PyData) (a : Addr) (Z : List (V × α)), vs = [.ref a] ∧ SqL K H a (Z.map (·.1)) ∧ (∀ z ∈ Z, Dp K H z.1 (enc z.2)) ∧
  PySem.W.AllAlike (Z.map fun z => enc z.2) ∧ PySem.W.Sortable (Z.map fun z => enc z.2) ∧ (∀ z ∈ Z, (enc z.2).depth ≤ 60) ∧
  ∀ p : Addr, H p = none → Q (.ref p) (upd H p (.lst ((Z.mergeSort (PySem.W.dataLe false fun z => enc z.2)).map (·.1))))
section
variable {X : Cx}
theorem cr_sortD (hu : X.A.units + 64 < cLine) : CallR X (.builtin "sorted") (rSortD X.K) := by
  intro pins s τ H vs us Q I r h
  obtain ⟨α, enc, a, Z, rfl, hA, hd, hal, hk, hdp, q⟩ := h
  obtain ⟨its, rv, hl, hz⟩ := I.list hA
  obtain ⟨u, rfl, ru⟩ := vals1 r
  obtain rfl : u = Value.ref a := ru
  rw [List.length_map] at hz
  have e := each_of_vals rv
  have er : PySem.W.EachIs (fun v z => ∃ as, Reads s.heap v (enc z.2) as) its Z := (PySem.W.each_mem e).mono fun v z h => Dp.reads I (enc z.2) z.1 v (hd z h.2) h.1
  refine PySem.W.sorted_data (enc := fun z : V × α => enc z.2) hl.isList e er hal hk hz (fun z hm => ?_) (fun out ho eo => ?_)
  · have := hdp z hm
    omega
  · obtain ⟨n, hn⟩ := sortedAll_at s.heap its out.toArray
    have hs : s.heap.objs.size ≤ s.heap.objs.size + 1 := Nat.le_succ _
    refine ⟨.ref (s.heap.objs.size + 1), upd H (s.heap.objs.size + 1) (.lst ((Z.mergeSort (PySem.W.dataLe false fun z => enc z.2)).map (·.1))), I.laid (t' := s.toks) (fun b o g => sortedAll_old g) hs ⟨?_, out, n, vals_of_each eo, hn⟩, rfl, q _ (I.hok.fresh hs)⟩
    rw [List.length_map, List.length_mergeSort]
    exact hz
theorem cr_sortDK {K : PySem.W.Frag} (hu : X.A.units + 64 < cLine) (h : X.K = K := by rfl) : CallR X (.builtin "sorted") (rSortD K) := h ▸ cr_sortD hu
end
/-! ### triples: a text, a number, a start -/
abbrev E3 := Str × Int × Int
def lex3 (p q : E3) : Prop := p.1.cps.toList < q.1.cps.toList ∨ (p.1 = q.1 ∧ (p.2.1 < q.2.1 ∨ (p.2.1 = q.2.1 ∧ p.2.2 < q.2.2)))
instance (p q : E3) : Decidable (lex3 p q) := inferInstanceAs (Decidable (_ ∨ _))
def le3 (p q : E3) : Bool := !decide (lex3 q p)
def eFlat (p : E3) : PyData := .tuple [.str p.1, .int p.2.1, .int p.2.2]
def eNest (p : E3) : PyData := .tuple [.str p.1, .tuple [.int p.2.1, .int p.2.2]]
theorem str_ext {x y : Str} (h : x.cps.toList = y.cps.toList) : x = y := by
  obtain ⟨a⟩ := x
  obtain ⟨b⟩ := y
  have : a = b := Array.toList_inj.mp h
  rw [this]
theorem lex3_irrefl (p : E3) : ¬ lex3 p p := by
  rintro (h | ⟨_, h | ⟨_, h⟩⟩)
  · exact List.lt_irrefl _ h
  · omega
  · omega
theorem lex3_tr {p q r : E3} (h : lex3 p q) (h2 : lex3 q r) : lex3 p r := by
  rcases h with h | ⟨e, h⟩ <;> rcases h2 with h2 | ⟨e2, h2⟩
  · exact .inl (List.lt_trans h h2)
  · exact .inl (e2 ▸ h)
  · exact .inl (by rw [e]; exact h2)
  · refine .inr ⟨e.trans e2, ?_⟩
    rcases h with h | ⟨f, h⟩ <;> rcases h2 with h2 | ⟨f2, h2⟩
    · exact .inl (by omega)
    · exact .inl (by omega)
    · exact .inl (by omega)
    · exact .inr ⟨by omega, by omega⟩
theorem lex3_tri {p q : E3} (h : ¬ lex3 p q) (h2 : ¬ lex3 q p) : p = q := by
  have a1 : p.1.cps.toList ≤ q.1.cps.toList := List.not_lt.mp fun z => h2 (.inl z)
  have a2 : q.1.cps.toList ≤ p.1.cps.toList := List.not_lt.mp fun z => h (.inl z)
  have a : p.1 = q.1 := str_ext (List.le_antisymm a1 a2)
  have b : p.2.1 = q.2.1 := by
    rcases Int.lt_trichotomy p.2.1 q.2.1 with z | z | z
    · exact absurd (.inr ⟨a, .inl z⟩) h
    · exact z
    · exact absurd (.inr ⟨a.symm, .inl z⟩) h2
  have c : p.2.2 = q.2.2 := by
    rcases Int.lt_trichotomy p.2.2 q.2.2 with z | z | z
    · exact absurd (.inr ⟨a, .inr ⟨b, z⟩⟩) h
    · exact z
    · exact absurd (.inr ⟨a.symm, .inr ⟨b.symm, z⟩⟩) h2
  obtain ⟨x, y, z⟩ := p
  obtain ⟨x', y', z'⟩ := q
  simp at a b c
  rw [a, b, c]
theorem le3_tr (p q r : E3) (h : le3 p q = true) (h2 : le3 q r = true) : le3 p r = true := by
  unfold le3 at *
  simp only [Bool.not_eq_true', decide_eq_false_iff_not] at *
  intro z
  by_cases c : lex3 p q
  · exact h2 (lex3_tr z c)
  · have := lex3_tri c h
    subst this
    exact h2 z
theorem le3_tot (p q : E3) : (le3 p q || le3 q p) = true := by
  unfold le3
  by_cases c : lex3 q p
  · have d : ¬ lex3 p q := fun z => lex3_irrefl _ (lex3_tr c z)
    rw [decide_eq_true c, decide_eq_false d]
    rfl
  · rw [decide_eq_false c]
    rfl
theorem eqv_str (x y : Str) : PyData.eqv (.str x) (.str y) = decide (x = y) := by
  by_cases h : x = y
  · simp [PyData.eqv, h]
  · simp [PyData.eqv, h]
theorem eqv_int (x y : Int) : PyData.eqv (.int x) (.int y) = decide (x = y) := by
  by_cases h : x = y
  · simp [PyData.eqv, h]
  · simp [PyData.eqv, h]
theorem flat_lt (p q : E3) : PySem.W.dataLt (eFlat p) (eFlat q) = decide (lex3 p q) := by
  unfold eFlat
  rw [PySem.W.dataLt_tuple, PySem.W.dataLt_cons (by simp [PySem.W.alike]), PySem.W.dataLt_cons (by simp [PySem.W.alike]), PySem.W.dataLt_cons (by simp [PySem.W.alike])]
  have e : PyProof.Rows.lexLt itemOrd (PySem.W.keyToksAll []) (PySem.W.keyToksAll []) = false := lex_irrefl _
  rw [e, eqv_str, eqv_int, eqv_int, PySem.W.dataLt_str, PySem.W.dataLt_int, PySem.W.dataLt_int]
  unfold lex3
  by_cases a : p.1 = q.1
  · have na : ¬ p.1.cps.toList < q.1.cps.toList := by rw [a]; exact List.lt_irrefl _
    by_cases b : p.2.1 = q.2.1
    · by_cases c : p.2.2 = q.2.2
      · simp [a, b, c]
      · rw [decide_eq_true a, decide_eq_true b, decide_eq_false c]
        show decide (p.2.2 < q.2.2) = _
        exact decide_eq_decide.mpr ⟨fun h => .inr ⟨a, .inr ⟨b, h⟩⟩, fun h => h.elim (fun h => absurd h na) fun h => h.2.elim (fun h => by omega) fun h => h.2⟩
    · rw [decide_eq_true a, decide_eq_false b]
      show decide (p.2.1 < q.2.1) = _
      exact decide_eq_decide.mpr ⟨fun h => .inr ⟨a, .inl h⟩, fun h => h.elim (fun h => absurd h na) fun h => h.2.elim id fun h => absurd h.1 b⟩
  · simp [a]
theorem nest_lt (p q : E3) : PySem.W.dataLt (eNest p) (eNest q) = decide (lex3 p q) := by
  unfold eNest
  rw [PySem.W.dataLt_pair (by simp [PySem.W.alike]) (by simp [PySem.W.alike, PySem.W.alikeAll]), PySem.W.dataLt_ii, PySem.W.dataLt_str, eqv_str]
  have e2 : PyData.eqv (.tuple [.int p.2.1, .int p.2.2]) (.tuple [.int q.2.1, .int q.2.2]) = decide (p.2 = q.2) := by
    obtain ⟨x, y, z⟩ := p
    obtain ⟨x', y', z'⟩ := q
    by_cases b : y = y' <;> by_cases c : z = z' <;> simp [PyData.eqv, PyData.eqvAll, b, c]
  rw [e2]
  unfold lex3
  by_cases a : p.1 = q.1
  · have na : ¬ p.1.cps.toList < q.1.cps.toList := by rw [a]; exact List.lt_irrefl _
    by_cases b : p.2 = q.2
    · simp [a, b]
    · rw [decide_eq_true a, decide_eq_false b]
      show decide (p.2.1 < q.2.1 ∨ (p.2.1 = q.2.1 ∧ p.2.2 < q.2.2)) = _
      exact decide_eq_decide.mpr ⟨fun h => .inr ⟨a, h⟩, fun h => h.elim (fun h => absurd h na) fun h => h.2⟩
  · simp [a]
theorem flat_le {β : Type} (f : β → E3) : PySem.W.dataLe false (fun b => eFlat (f b)) = fun p q => le3 (f p) (f q) := by
  funext p q
  show (!PySem.W.dataLt (eFlat (f q)) (eFlat (f p))) = _
  rw [flat_lt]
  rfl
theorem nest_le {β : Type} (f : β → E3) : PySem.W.dataLe false (fun b => eNest (f b)) = fun p q => le3 (f p) (f q) := by
  funext p q
  show (!PySem.W.dataLt (eNest (f q)) (eNest (f p))) = _
  rw [nest_lt]
  rfl
theorem flat_alike {β : Type} (f : β → E3) (bs : List β) : PySem.W.AllAlike (bs.map fun b => eFlat (f b)) := PySem.W.AllAlike.of fun b b' => by simp [eFlat, PySem.W.alike, PySem.W.alikeAll]
theorem nest_alike {β : Type} (f : β → E3) (bs : List β) : PySem.W.AllAlike (bs.map fun b => eNest (f b)) := PySem.W.AllAlike.of fun b b' => by simp [eNest, PySem.W.alike, PySem.W.alikeAll]
theorem flat_able {β : Type} (f : β → E3) (bs : List β) : PySem.W.Sortable (bs.map fun b => eFlat (f b)) := PySem.W.Sortable.tuples fun b => ⟨_, _, rfl⟩
theorem nest_able {β : Type} (f : β → E3) (bs : List β) : PySem.W.Sortable (bs.map fun b => eNest (f b)) := PySem.W.Sortable.tuples fun b => ⟨_, _, rfl⟩
theorem flat_deep (p : E3) : (eFlat p).depth ≤ 60 := by
  show max 0 (max 0 (max 0 0)) + 1 ≤ 60
  decide
theorem nest_deep (p : E3) : (eNest p).depth ≤ 60 := by
  show max 0 (max (max 0 (max 0 0) + 1) 0) + 1 ≤ 60
  decide
/-- sorted without anything twice: one list alone -/
theorem sorted3_uniq {xs ys : List E3} (hp : xs.Perm ys) (h1 : xs.Pairwise (fun p q => le3 p q = true)) (h2 : ys.Pairwise (fun p q => le3 p q = true)) : xs = ys := by
  refine hp.eq_of_pairwise (fun p q _ _ a b => ?_) h1 h2
  unfold le3 at a b
  simp only [Bool.not_eq_true', decide_eq_false_iff_not] at a b
  exact lex3_tri b a
theorem sort3_pw (xs : List E3) : (xs.mergeSort le3).Pairwise (fun p q => le3 p q = true) := List.pairwise_mergeSort (fun p q r => le3_tr p q r) (fun p q => le3_tot p q) xs
theorem sort3_map {β : Type} (f : β → E3) (bs : List β) : (bs.mergeSort fun p q => le3 (f p) (f q)).map f = (bs.map f).mergeSort le3 := by
  refine sorted3_uniq (((List.mergeSort_perm _ _).map f).trans (List.mergeSort_perm _ _).symm) ?_ (sort3_pw _)
  rw [List.pairwise_map]
  exact List.pairwise_mergeSort (le := fun p q => le3 (f p) (f q)) (fun p q r => le3_tr (f p) (f q) (f r)) (fun p q => le3_tot (f p) (f q)) bs
end SH
set_option Elab.async false
set_option linter.all false
set_option maxRecDepth 100000
set_option maxHeartbeats 4000000
/-! sets of numbers and texts: made, walked, sorted -/
namespace SH
open PySem PySem.Spec PyProof.Rows L2
def keyM (e : Int × Value) : Key := match e.2 with | .int k _ => .inl k | .str x _ => .inr x | _ => .inl 0
def GoodM (w : World) (e : Int × Value) : Prop := ∃ k : Key, RelV (kV k) e.2 ∧ e.1 = keyH w k
theorem keyM_of {h : Int} {k : Key} {u : Value} (r : RelV (kV k) u) : keyM (h, u) = k := by
  cases k with
  | inl i =>
    obtain ⟨t, rfl⟩ := r
    rfl
  | inr x =>
    obtain ⟨t, rfl⟩ := r
    rfl
/-- the set of keys at a: S its members, n their number; its table rises and can be walked -/
def SetM (w : World) (h : Heap) (a : Addr) (S : Key → Bool) (n : Nat) : Prop :=
  ∃ o es ep t, h.get? a = some o ∧ o.ExactSet ∧ o.data = .set es ep t ∧ (∀ e ∈ es.toList, GoodM w e) ∧ (es.toList.map keyM).Nodup ∧ (∀ k, S k = true ↔ k ∈ es.toList.map keyM) ∧
    es.size < scanBound ∧ t.fits es.size = true ∧ es.size = n ∧ Ris t.place.toList ∧ (w.params.followText "set-order" = true ∨ t.led = true)
section
variable {P : Program} {w : World} {h h' : Heap} {a : Addr} {S : Key → Bool} {n : Nat}
theorem SetM.at (R : SetM w h a S n) (k : ∀ o, h.get? a = some o → h'.get? a = some o) : SetM w h' a S n := by
  obtain ⟨o, es, ep, t, ho, r⟩ := R
  exact ⟨o, es, ep, t, k o ho, r⟩
theorem SetM.lt (R : SetM w h a S n) : a < h.objs.size := by
  obtain ⟨o, es, ep, t, ho, r⟩ := R
  exact Heap.lt_size ho
theorem goodM_elems {l : List (Int × Value)} (g : ∀ e ∈ l, GoodM w e) : ElemsOf (mixKind P w) l := fun e he => by
  obtain ⟨k, h1, h2⟩ := g e he
  exact ⟨⟨k, kV_is h1, h2⟩, key_scan h1⟩
theorem goodM_is {e : Int × Value} (g : GoodM w e) (k : Key) : (mixKind P w).is k e.2 = true ↔ keyM e = k := by
  obtain ⟨k0, h1, _⟩ := g
  have e0 : keyM e = k0 := by
    obtain ⟨x, u⟩ := e
    exact keyM_of h1
  rw [e0]
  constructor
  · intro h
    exact (mixKind P w).inj _ _ _ (kV_is h1) h
  · rintro rfl
    exact kV_is h1
theorem goodM_mem {l : List (Int × Value)} (g : ∀ e ∈ l, GoodM w e) (k : Key) : k ∈ l.map keyM ↔ ∃ e ∈ l, (mixKind P w).is k e.2 = true := by
  rw [List.mem_map]
  constructor
  · rintro ⟨e, he, q⟩
    exact ⟨e, he, (goodM_is (g e he) k).2 q⟩
  · rintro ⟨e, he, q⟩
    exact ⟨e, he, (goodM_is (g e he) k).1 q⟩
theorem SetM.setOf (R : SetM w h a S n) : h.SetOf (mixKind P w) a S n := by
  obtain ⟨o, es, ep, t, ho, hx, hd, g, nd, hm, hb, hf, hn, _⟩ := R
  exact ⟨o, es, ep, t, ho, hx, hd, goodM_elems g, fun k => (hm k).trans (goodM_mem g k), hb, hf, hn⟩
end
section
variable {P : Program} {w : World} {A : Around} {E : Value → Shared → Prop} {s : Shared} {a : Addr} {S : Key → Bool} {n : Nat}
theorem setM_add_tail {g : Bool → Sem Unit} (hg : ∀ (b : Bool) (s₁ : Shared) (Q' : Unit → Shared → Prop), Q' () s₁ → wpAny (model P w) A (g b) Q' E s₁)
    {o : Obj} {es : Array (Int × Value)} {ep : Nat} {t : SetTable} (ho : s.heap.get? a = some o) (hex : o.ExactSet) (hd : o.data = .set es ep t)
    {es1 : Array (Int × Value)} {t2 : SetTable} {S' : Key → Bool} (g1 : ∀ e ∈ es1.toList, GoodM w e) (nd1 : (es1.toList.map keyM).Nodup) (m1 : ∀ k, S' k = true ↔ k ∈ es1.toList.map keyM)
    (hb1 : es1.size < scanBound) (hf2 : t2.fits es1.size = true) (hr : Ris t2.place.toList) (hl : w.params.followText "set-order" = true ∨ t2.led = true) {wasDummy : Bool} {R : Option Bool → Shared → Prop}
    (hR : ∀ h', Heap.SameBut a s.heap h' → SetM w h' a S' es1.size → R (some true) { s with heap := h' }) :
    wpAny (model P w) A (do
        storeSet a es1 t2
        if (!wasDummy && t2.tooFull) = true then do
            g (relayAll t2 es1 (SetTable.grown es1.size)).2.2
            storeSet a (relayAll t2 es1 (SetTable.grown es1.size)).1 (relayAll t2 es1 (SetTable.grown es1.size)).2.1
            pure (some true)
          else pure (some true)) R E s := by
  refine wpAny_bind (wpAny_storeSet_of ho hd ?_ (fits_of_scanBound hb1))
  have ho1 := store_at (es' := es1) (t' := t2) ho hd
  have sb1 := Heap.SameBut.update s.heap a (Obj.putSet es1 t2)
  split
  · have pm := relayAll_perm t2 es1 (SetTable.grown es1.size)
    have hf3 := relayAll_fits t2 es1 (SetTable.grown es1.size)
    have hr3 := relayAll_ris t2 es1 (SetTable.grown es1.size)
    have hl3 := relayAll_led t2 es1 (SetTable.grown es1.size)
    generalize relayAll t2 es1 (SetTable.grown es1.size) = Z at pm hf3 hr3 hl3 ⊢
    obtain ⟨es2, t3, gave⟩ := Z
    dsimp only at pm hf3 hr3 hl3 ⊢
    have hsz : es2.size = es1.size := by rw [← Array.length_toList, pm.length_eq, Array.length_toList]
    have hb2 : es2.size < scanBound := by rw [hsz]; exact hb1
    refine wpAny_bind (hg _ _ _ ?_)
    refine wpAny_bind (wpAny_storeSet_of ho1 rfl ?_ (fits_of_scanBound hb2))
    have ho2 := store_at (es' := es2) (t' := t3) ho1 rfl
    refine wpAny_pure (hR _ (sb1.trans (Heap.SameBut.update _ a _)) ?_)
    exact ⟨_, es2, _, t3, ho2, hex, rfl, fun e he => g1 e (pm.mem_iff.mp he), (pm.map keyM).nodup_iff.mpr nd1, fun k => (m1 k).trans (pm.map keyM).mem_iff.symm, hb2, hf3, hsz, hr3,
      hl.imp id fun z => by rw [hl3]; exact z⟩
  · exact wpAny_pure (hR _ sb1 ⟨_, es1, _, t2, ho1, hex, rfl, g1, nd1, m1, hb1, hf2, rfl, hr, hl⟩)
theorem setM_add_hashed {k : Key} {u : Value} {Q : Bool → Shared → Prop} (ru : RelV (kV k) u) (R : SetM w s.heap a S n) (room : n + 1 < scanBound)
    (hQ : ∀ h', Heap.SameBut a s.heap h' → SetM w h' a (fun j => S j || decide (j = k)) (if S k = true then n else n + 1) → Q (!S k) { s with heap := h' }) :
    wpAny (model P w) A (setAddHashed a u ((mixKind P w).hash k)) Q E s := by
  obtain ⟨o, es, ep, t, ho, hex, hd, g, nd, hm, hb, hf, hn, hr, hl⟩ := R
  have hkey : (mixKind P w).is k u = true := kV_is ru
  have hsc : u.scannable = true := key_scan ru
  have hel : ElemsOf (mixKind P w) es.toList := goodM_elems g
  unfold setAddHashed setAddHashedIn
  refine wpAny_holding (wpAny_bind (wpAny_setState_of ho hd hf ?_))
  dsimp only
  rw [byScan_of hsc hb hel]
  simp only [↓reduceIte]
  unfold setAddByScan
  refine wpAny_bind ?_
  refine wpAny_bind (wpAny_rule ?_)
  refine wpAny_bind (wpAny_setScan_of hkey ho hd hf hel ?_)
  cases hfi : List.findIdx? (fun e => (mixKind P w).is k e.2) es.toList with
  | some j =>
    dsimp only
    obtain ⟨hj, pj, _⟩ := List.findIdx?_eq_some_iff_getElem.mp hfi
    have hSk : S k = true := (hm k).2 ((goodM_mem (P := P) (w := w) g k).2 ⟨es.toList[j], List.getElem_mem hj, pj⟩)
    refine wpAny_pure (wpAny_pure ?_)
    have q := hQ s.heap (Heap.SameBut.refl a s.heap) ⟨o, es, ep, t, ho, hex, hd, g, nd, fun i => by
      rw [Bool.or_eq_true, decide_eq_true_eq, ← hm i]
      exact ⟨fun z => z.elim id (fun e => e ▸ hSk), .inl⟩, hb, hf, by rw [if_pos hSk]; exact hn, hr, hl⟩
    rw [hSk] at q
    exact q
  | none =>
    dsimp only
    have hnk : k ∉ es.toList.map keyM := fun z => by
      obtain ⟨e, he, q⟩ := (goodM_mem (P := P) (w := w) g k).1 z
      have c := List.findIdx?_eq_none_iff.mp hfi e he
      rw [q] at c
      cases c
    have hSk : S k = false := by
      cases q : S k with
      | false => rfl
      | true => exact absurd ((hm k).1 q) hnk
    have hgw : ∀ (b : Bool) {s₁ : Shared} {Q' : Unit → Shared → Prop}, Q' () s₁ → wpAny (model P w) A (match b with | true => rule "set.scan.the-table-gave-way" | false => pure ()) Q' E s₁ :=
      fun b s₁ Q' q => by cases b <;> first | exact wpAny_pure q | exact wpAny_rule q
    have pm := layNew_perm t es ((mixKind P w).hash k) u
    have hf1 := layNew_fits t es ((mixKind P w).hash k) u
    have hr1 := layNew_ris t es ((mixKind P w).hash k) u hr
    have hl1 := layNew_led t es ((mixKind P w).hash k) u
    generalize layNew t es ((mixKind P w).hash k) u = Z at pm hf1 hr1 hl1 ⊢
    obtain ⟨es1, t1, wasDummy, gave⟩ := Z
    dsimp only at pm hf1 hr1 hl1 ⊢
    rw [Array.toList_push] at pm
    have pc : es1.toList.Perm (((mixKind P w).hash k, u) :: es.toList) := pm.trans (List.perm_append_singleton _ _)
    have pk : (es1.toList.map keyM).Perm (k :: es.toList.map keyM) := by
      have q := pc.map keyM
      rw [List.map_cons, keyM_of ru] at q
      exact q
    have g1 : ∀ e ∈ es1.toList, GoodM w e := fun e he => by
      rcases List.mem_cons.mp (pc.mem_iff.mp he) with z | z
      · rw [z]; exact ⟨k, ru, rfl⟩
      · exact g e z
    have nd1 : (es1.toList.map keyM).Nodup := pk.nodup_iff.mpr (List.nodup_cons.mpr ⟨hnk, nd⟩)
    have m1 : ∀ i, (S i || decide (i = k)) = true ↔ i ∈ es1.toList.map keyM := fun i => by
      rw [Bool.or_eq_true, decide_eq_true_eq, hm i, pk.mem_iff, List.mem_cons]
      exact Or.comm
    have hsz : es1.size = n + 1 := by rw [← Array.length_toList, pc.length_eq, List.length_cons, Array.length_toList, hn]
    have hb1 : es1.size < scanBound := by rw [hsz]; exact room
    have hled : w.params.followText "set-order" = true ∨ t1.led = true := hl.imp id fun z => by rw [hl1]; exact z
    have fin : ∀ h', Heap.SameBut a s.heap h' → SetM w h' a (fun j => S j || decide (j = k)) es1.size → Q true { s with heap := h' } := fun h' sb r => by
      have q := hQ h' sb
      rw [hSk] at q
      rw [hsz] at r
      exact q r
    refine wpAny_bind (hgw _ ?_)
    split
    · refine wpAny_bind ?_
      rw [hashByValue_scannable 8 hsc]
      refine wpAny_pure ?_
      refine setM_add_tail ?_ ho hex hd g1 nd1 m1 hb1 ?_ ?_ ?_ ?_
      · intro b s₁ Q' q; cases b <;> first | exact wpAny_pure q | exact wpAny_rule q
      · first | (split <;> first | exact hf1 | exact SetTable.fits_plain_off hf1) | exact hf1
      · first | (split <;> exact hr1) | exact hr1
      · first | (split <;> exact hled) | exact hled
      · intro h' sb r; dsimp only; exact wpAny_pure (fin h' sb r)
    · refine wpAny_bind (wpAny_pure ?_)
      simp only [↓reduceIte]
      refine setM_add_tail ?_ ho hex hd g1 nd1 m1 hb1 hf1 hr1 hled ?_
      · intro b s₁ Q' q; cases b <;> first | exact wpAny_pure q | exact wpAny_rule q
      · intro h' sb r; dsimp only; exact wpAny_pure (fin h' sb r)
/-- found.add(k) -/
theorem setM_add {k : Key} {u : Value} {Q : Value → Shared → Prop} (ru : RelV (kV k) u) (R : SetM w s.heap a S n) (room : n + 1 < scanBound)
    (hQ : ∀ h', Heap.SameBut a s.heap h' → SetM w h' a (fun j => S j || decide (j = k)) (if S k = true then n else n + 1) → Q .none { s with heap := h', toks := s.toks + 1 }) :
    wpAny (model P w) A (call (.builtin "set.add") [.ref a, u]) Q E s := by
  have hS : s.heap.SetOf (mixKind P w) a S n := R.setOf
  refine wpAny_call_entry F.slot_set_add hS.typeIs F.entry_set_add ?_ (F.args_set_add_2 _ _)
  unfold Builtin.«set.add» Builtin.Frozenset.oneOther
  simp only [List.isEmpty_nil, bind_assoc]
  unfold Builtin.Frozenset.addrOf setAdd
  refine wpAny_bind (wpAny_pure ?_)
  try dsimp only
  refine wpAny_bind (wpAny_pure ?_)
  try dsimp only
  refine wpAny_bind ?_
  refine wpAny_holding ?_
  refine wpAny_bind ((mixKind P w).pyHash (kV_is ru) ?_)
  refine setM_add_hashed (s := { s with toks := s.toks + 1 }) ru R room fun h' sb r => ?_
  show wpAny _ _ (ret Value.none) _ _ _
  exact wpAny_pure ⟨_, rfl, hQ h' sb r⟩
theorem setM_fresh {h : Heap} (w : World) : SetM w (h.push { cls := .type "set", dict := none, data := .set #[] 0 (.fresh 0 0 (!w.params.followText "set-order")) }) h.objs.size (fun _ => false) 0 :=
  ⟨_, #[], 0, _, Heap.get?_push_size _ rfl, ⟨rfl, rfl, rfl⟩, rfl, (fun e he => by simp at he), (by simp), (fun k => by simp), (by decide), (by rfl), rfl, List.Pairwise.nil, by
    show _ ∨ (!w.params.followText "set-order") = true
    cases w.params.followText "set-order"
    · exact .inr rfl
    · exact .inl rfl⟩
end
/-- the set of keys at a, tracked -/
def SetMO (w : World) (a : Addr) (S : Key → Bool) (n : Nat) : HO := .ext fun h => SetM w h a S n
theorem setMO_new {w : World} {P : Program} {H : Hp} {h : Heap} {a : Addr} {S : Key → Bool} {n : Nat} (R : SetM w h a S n) : ObjOk P w H h a (SetMO w a S n) := by
  have ⟨o, _, _, _, ho, _⟩ := R
  exact ⟨R, ⟨o, ho⟩, fun h1 h2 p k => SetM.at p k⟩
section
variable {X : Cx}
theorem setMO_get {pins : List (Addr × Obj)} {σ : L2.St} {H : Hp} {s : Shared} {a : Addr} {S : Key → Bool} {n : Nat} (I : Inv X pins σ H s) (ha : H a = some (SetMO X.w a S n)) : SetM X.w s.heap a S n := (I.hok a _ ha).1
theorem addM_ok {pins : List (Addr × Obj)} {σ : L2.St} {H : Hp} {s : Shared} {E : Value → Shared → Prop} {D : Addr} {S : Key → Bool} {n : Nat} {k : Key} {u : Value} {Q : Value → Shared → Prop} (ru : RelV (kV k) u) (I : Inv X pins σ H s) (hD : H D = some (SetMO X.w D S n)) (room : n + 1 < scanBound)
    (h : ∀ s', Inv X pins σ (upd H D (SetMO X.w D (fun j => S j || decide (j = k)) (if S k = true then n else n + 1))) s' → Q .none s') : wpAny (model X.prog X.w) X.A (call (.builtin "set.add") [.ref D, u]) Q E s := by
  have R := setMO_get I hD
  refine setM_add ru R room fun h' sb new => ?_
  have he : ∃ u, h'.get? D = some u := by
    have ⟨o, _, _, _, ho, _⟩ := new
    exact ⟨o, ho⟩
  exact h _ (I.write (e := D) (t' := s.toks + 1) (by rw [hD]; trivial) (.inl rfl) (fun b u hb hu => (sb.2 b hb).trans hu) he (setMO_new new))
/-! ### its members, in some order -/
theorem setM_out {w : World} {es : Array (Int × Value)} (g : ∀ e ∈ es.toList, GoodM w e) {out : List Value} (hp : out.Perm (es.toList.map (·.2))) : ∃ ks : List Key, Vals (ks.map kV) out ∧ ks.Perm (es.toList.map keyM) := by
  have key : ∀ v ∈ out, ∃ k : Key, RelV (kV k) v := fun v hv => by
    obtain ⟨e, he, q⟩ := List.mem_map.mp (hp.mem_iff.mp hv)
    obtain ⟨k, h1, _⟩ := g e he
    exact ⟨k, q ▸ h1⟩
  refine ⟨out.map fun v => keyM (0, v), ?_, ?_⟩
  · have go : ∀ l : List Value, (∀ v ∈ l, ∃ k : Key, RelV (kV k) v) → Vals ((l.map fun v => keyM (0, v)).map kV) l := by
      intro l
      induction l with
      | nil => exact fun _ => .nil
      | cons v r ih =>
        intro h
        obtain ⟨k, hk⟩ := h v (List.mem_cons_self ..)
        refine .cons ?_ (ih fun u hu => h u (List.mem_cons_of_mem _ hu))
        show RelV (kV (keyM (0, v))) v
        rw [keyM_of hk]
        exact hk
    exact go out key
  · have q := hp.map fun v => keyM (0, v)
    rw [List.map_map] at q
    exact q
theorem each_of_map {α : Type} (f : α → V) : ∀ {l : List α} {out : List Value}, Vals (l.map f) out → PySem.W.EachIs (fun v z => RelV (f z) v) out l
  | [], _, .nil => .nil
  | _ :: _, _, .cons r t => .cons r (each_of_map f t)
theorem map_of_each {α : Type} (f : α → V) : ∀ {l : List α} {out : List Value}, PySem.W.EachIs (fun v z => RelV (f z) v) out l → Vals (l.map f) out
  | _, _, .nil => .nil
  | _, _, .cons r t => .cons r (map_of_each f t)
/-- sorted(a set): a new list of the members by what they read as -/
def rSortM (w : World) : List V → Hp → VK → Prop := fun vs H Q => ∃ (α : Type) (enc : α → PyData) (val : α → Key) (a : Addr) (S : Key → Bool) (n : Nat), vs = [.ref a] ∧ H a = some (SetMO w a S n) ∧
  (∀ z, (enc z).depth ≤ 60 ∧ ∀ (h : Heap) (v : Value), RelV (kV (val z)) v → Reads h v (enc z) []) ∧ (∀ k, S k = true → ∃ z, val z = k) ∧ (∀ l : List α, PySem.W.AllAlike (l.map enc) ∧ PySem.W.Sortable (l.map enc)) ∧
  ∀ (l : List α) (p : Addr), (l.map val).Nodup → (∀ k, S k = true ↔ k ∈ l.map val) → l.length = n → H p = none → Q (.ref p) (upd H p (.lst ((l.mergeSort (PySem.W.dataLe false enc)).map fun z => kV (val z))))
theorem pick {α β : Type} (f : α → β) : ∀ ks : List β, (∀ k ∈ ks, ∃ z, f z = k) → ∃ l : List α, l.map f = ks
  | [], _ => ⟨[], rfl⟩
  | k :: r, h => by
    obtain ⟨z, hz⟩ := h k (List.mem_cons_self ..)
    obtain ⟨l, hl⟩ := pick f r fun k hk => h k (List.mem_cons_of_mem _ hk)
    exact ⟨z :: l, by rw [List.map_cons, hz, hl]⟩
theorem cr_sortM (hc : X.calm = true) (hu : X.A.units + 64 < cLine) : CallR X (.builtin "sorted") (rSortM X.w) := by
  intro pins s τ H vs us Q I r h
  obtain ⟨α, enc, val, a, S, n, rfl, hA, hd, hv, hal, q⟩ := h
  obtain ⟨u, rfl, ru⟩ := vals1 r
  obtain rfl : u = Value.ref a := ru
  obtain ⟨o, es, ep, t, ho, hex, hdt, g, nd, hm, hb, hf, hn, hr, hl⟩ := setMO_get I hA
  refine Calls.call_function_entry kind_sorted plain_sorted entry_sorted (args_sorted1 _) ?_
  unfold Builtin.«sorted»
  refine wpAny_bind (m := checkCount "sorted" 1 1 _) (wpAny_pure ?_)
  refine wpAny_bind (collect_set (A := X.A.in1) (I.ok.hd hc) ⟨o, ho, hex.1, hdt⟩ hf hb hr hl fun s1 out k1 hz g1 o1 pm => ?_)
  obtain ⟨ks, hks, pk⟩ := setM_out g pm
  obtain ⟨l, rfl⟩ := pick val ks fun k hk => hv k ((hm k).mpr (pk.mem_iff.mp hk))
  have hol : out.length = n := by rw [pm.length_eq, List.length_map, Array.length_toList]; exact hn
  have hln : l.length = n := by
    have := hks.length
    rw [List.length_map, List.length_map] at this
    exact this.trans hol
  have hsl : out.length ≤ sizeLine := by rw [hol, ← hn]; exact fits_of_scanBound hb
  rw [List.map_map] at hks
  have e := each_of_map _ hks
  refine wpAny_bind (wpAny_newList ?_ hsl)
  have hoL : (s1.heap.push (seqObj "list" out.toArray 0)).get? s1.heap.objs.size = some (seqObj "list" out.toArray 0) := Heap.get?_push_size _ rfl
  have er : PySem.W.EachIs (fun v z => ∃ as, Reads (s1.heap.push (seqObj "list" out.toArray 0)) v (enc z) as ∧ s1.heap.objs.size ∉ as) out l := e.mono fun v z r => ⟨[], (hd z).2 _ v r, by simp⟩
  refine wpAny_bind (wpAny_holding (PySem.W.list_sort_data (enc := enc) hoL e er (hal l).1 (hal l).2 (by rw [hln, ← hol]; exact hsl) (fun z hz' => ?_) (fun out2 ho2 eo => ?_)))
  · have := (hd z).1
    show X.A.in1.units + 1 + (enc z).depth < cLine
    have e2 : X.A.in1.units = X.A.units + 1 := rfl
    omega
  · obtain ⟨c, hcc⟩ := sortedHeap_at (vs := out) (out := out2.toArray) hoL
    have kk : ∀ b x, s1.heap.get? b = some x → (sortedHeap (s1.heap.push (seqObj "list" out.toArray 0)) s1.heap.objs.size out out2.toArray).get? b = some x := fun b x q1 => by
      have hlt := Heap.lt_size q1
      rw [sortedHeap_old (Nat.ne_of_lt hlt) (by rw [size_push']; exact Nat.lt_succ_of_lt hlt)]
      exact Heap.get?_push_of_some _ q1
    have rv := map_of_each _ eo
    have I1 : Inv X pins τ H s1 := I.call' (ch := []) o1 (Un.kept k1) (I.hok.kept k1) (by rw [g1]; exact I.bare) (fun _ z => nomatch z)
    have J : Inv X pins τ (upd H s1.heap.objs.size (.lst ((l.mergeSort (PySem.W.dataLe false enc)).map fun z => kV (val z)))) { s1 with heap := sortedHeap (s1.heap.push (seqObj "list" out.toArray 0)) s1.heap.objs.size out out2.toArray, toks := s1.toks } :=
      I1.laid (t' := s1.toks) kk (Nat.le_refl _) ⟨by rw [List.length_map, List.length_mergeSort, hln, ← hol]; exact hsl, out2, c, rv, hcc⟩
    refine wpAny_pure ⟨_, rfl, ?_⟩
    exact ⟨.ref s1.heap.objs.size, _, J, rfl, q l _ (by rw [pk.nodup_iff]; exact nd) (fun k => by rw [hm k, pk.mem_iff]) hln (I.hok.fresh hz)⟩
theorem nodup_of_map {α β : Type} (f : α → β) : ∀ {l : List α}, (l.map f).Nodup → l.Nodup
  | [], _ => List.nodup_nil
  | x :: r, h => by
    rw [List.map_cons, List.nodup_cons] at h
    exact List.nodup_cons.mpr ⟨fun m => h.1 (List.mem_map_of_mem m), nodup_of_map f h.2⟩
/-- sorted(a set of texts) -/
def rSortMS (w : World) : List V → Hp → VK → Prop := fun vs H Q => ∃ (a : Addr) (S : Key → Bool) (n : Nat), vs = [.ref a] ∧ H a = some (SetMO w a S n) ∧ (∀ k, S k = true → ∃ z : Str, k = .inr z) ∧
  ∀ (l : List Str) (p : Addr), l.Nodup → l.Pairwise (fun x y => x.cps.toList ≤ y.cps.toList) → (∀ z : Str, z ∈ l ↔ S (.inr z) = true) → l.length = n → H p = none → Q (.ref p) (upd H p (.lst (l.map V.str)))
theorem cr_sortMS (hc : X.calm = true) (hu : X.A.units + 64 < cLine) : CallR X (.builtin "sorted") (rSortMS X.w) := by
  intro pins s τ H vs us Q I r h
  obtain ⟨a, S, n, rfl, hA, hS, q⟩ := h
  have inj : ∀ x y : Str, (Sum.inr x : Key) = .inr y → x = y := fun x y e => Sum.inr.inj e
  refine cr_sortM hc hu pins s τ H _ us Q I r ⟨Str, PyData.str, fun z => .inr z, a, S, n, rfl, hA, fun z => ⟨by show 0 ≤ 60; decide, fun h v r => ?_⟩, fun k hk => ?_, fun l => ⟨PySem.W.AllAlike.of fun b b' => by simp [PySem.W.alike], ?_⟩, fun l p nd hm hn np => ?_⟩
  · obtain ⟨t, rfl⟩ := r
    exact .str z t
  · obtain ⟨z, e⟩ := hS k hk
    exact ⟨z, e.symm⟩
  · exact PySem.W.Sortable.others fun b => ⟨by simp, fun xs => by simp⟩
  · have pm := List.mergeSort_perm l (PySem.W.dataLe false PyData.str)
    refine q (l.mergeSort (PySem.W.dataLe false PyData.str)) p ?_ ?_ (fun z => ?_) (by rw [pm.length_eq, hn]) np
    · rw [pm.nodup_iff]
      exact nodup_of_map _ nd
    · have e : PySem.W.dataLe false PyData.str = fun x y : Str => !decide (y.cps.toList < x.cps.toList) := by
        funext x y
        show (!PySem.W.dataLt (.str y) (.str x)) = _
        rw [PySem.W.dataLt_str]
      have hp := List.pairwise_mergeSort (le := fun x y : Str => !decide (y.cps.toList < x.cps.toList)) (fun x y z a b => ?_) (fun x y => ?_) l
      · rw [e]
        refine hp.imp fun {x y} a => ?_
        exact List.not_lt.mp fun z => by rw [decide_eq_true z] at a; cases a
      · have a' : x.cps.toList ≤ y.cps.toList := List.not_lt.mp fun z => by rw [decide_eq_true z] at a; cases a
        have b' : y.cps.toList ≤ z.cps.toList := List.not_lt.mp fun z => by rw [decide_eq_true z] at b; cases b
        rw [decide_eq_false (List.not_lt.mpr (List.le_trans a' b'))]
        rfl
      · rcases List.le_total x.cps.toList y.cps.toList with a | a
        · rw [decide_eq_false (List.not_lt.mpr a)]
          rfl
        · rw [decide_eq_false (List.not_lt.mpr a), Bool.not_false, Bool.or_true]
    · rw [pm.mem_iff, hm (.inr z)]
      exact ⟨fun m => List.mem_map_of_mem m, fun m => by obtain ⟨y, hy, e⟩ := List.mem_map.mp m; exact inj _ _ e ▸ hy⟩
/-! ### sorted(texts, key=len) -/
theorem sorted_len {l : Addr} {zs : List Str} {Q : Value → Shared → Prop} {pins : List (Addr × Obj)} {τ : L2.St} {H : Hp} {s : Shared} (I : Inv X pins τ H s) (hl : SqL X.K H l (zs.map V.str)) (hu : X.A.units + 64 < cLine) (hz : ∀ z ∈ zs, z.length ≤ sizeLine)
    (hQ : ∀ (p : Addr) (s' : Shared), H p = none → Inv X pins τ (upd H p (.lst ((zs.mergeSort fun x y => decide (x.length ≤ y.length)).map V.str))) s' → Q (.ref p) s') :
    wpAny (model X.prog X.w) X.A (call (.builtin "sorted") [.ref l] [(Str.ofString "key", .builtin "len")]) Q X.xe s := by
  obtain ⟨its, rv, hl, hZ⟩ := I.list hl
  have e := each_of_map V.str rv
  rw [List.length_map] at hZ
  refine PySem.W.sorted_key_data (b := false) (R := fun v z => RelV (V.str z) v) (fun z : Str => PyData.int z.length) hl.isList e (PySem.W.AllAlike.of fun b b' => by simp [PySem.W.alike]) (PySem.W.Sortable.others fun b => ⟨by simp, fun xs => by simp⟩) hZ
    (fun x hx => by show X.A.units + 2 + 0 < cLine; omega) (PyProof.Rows.ksk_s1 _ _) (fun _ => PyProof.Rows.ksk_l1 _ _) (fun x => PyProof.Rows.ksk_t4 "len" x) (fun v x hv hx h tk k => ?_) (fun out c h' tk k fr hp hlen eo => ?_)
  · obtain ⟨t, rfl⟩ := hv
    have hl63 := line63
    have hzx := hz x hx
    exact len_str (by omega) ⟨h, _, rfl, fun _ _ e => e, .int _ _⟩
  · have e2 : PySem.W.dataLe false (fun z : Str => PyData.int z.length) = fun x y : Str => decide (x.length ≤ y.length) := by
      funext x y
      show (!PySem.W.dataLt (.int y.length) (.int x.length)) = _
      rw [PySem.W.dataLt_int]
      by_cases c : x.length ≤ y.length
      · rw [decide_eq_true c, decide_eq_false (by omega)]
        rfl
      · rw [decide_eq_false c, decide_eq_true (by omega)]
        rfl
    rw [e2] at eo
    have hs : s.heap.objs.size ≤ s.heap.objs.size + 1 := Nat.le_succ _
    exact hQ _ _ (I.hok.fresh hs) (I.laid (t' := tk) k hs ⟨by rw [List.length_map, List.length_mergeSort]; exact hZ, out, c, map_of_each V.str eo, hp⟩)
/-- sorted(x, key=len), x a list of texts -/
def rSortLen (K : PySem.W.Frag) : List V → Hp → VK → Prop := fun vs H Q => ∃ (a : Addr) (zs : List Str), vs = [.ref a] ∧ SqL K H a (zs.map V.str) ∧ (∀ z ∈ zs, z.length ≤ sizeLine) ∧
  ∀ p : Addr, H p = none → Q (.ref p) (upd H p (.lst ((zs.mergeSort fun x y => decide (x.length ≤ y.length)).map V.str)))
def tSLen (r : List V → Hp → VK → Prop) (t : TA) : TE := fun σ H Q => t σ H fun vs H1 => r vs H1 Q
theorem pe_sortLenK {K : PySem.W.Frag} {e : Expr} {t : TA} {p kp pos : Pos} (hu : X.A.units + 64 < cLine) (hg : Gl X "sorted") (hm : X.mg "sorted" = none) (hgl : Gl X "len") (hml : X.mg "len" = none) (ha : PA X [e] t) {kpos : Pos}
    (he : backTo pos (starEach [e] X.env) = [(false, eval e X.env)] := by rfl) (hK : X.K = K := by rfl) :
    PE X (.Call (.Name "sorted" p) [e] [⟨some "key", .Name "len" kp, kpos⟩] pos) (tSLen (rSortLen K) t) := by
  subst hK
  refine ⟨fun pins s σ H Q I h => ?_⟩
  refine wpAny_Call_Name_kw (ld_blt I hg hm (u := .builtin "sorted") (by decide +kernel) ?_ (by decide) (by decide))
  refine PyProof.Rows.callWith_kw (thn (ha.run pos pins s σ H _ I h) fun us s1 ⟨vs, H1, I1, r1, q1⟩ => ?_) he (by rw [he]; rfl) (by rfl) (by rfl)
  obtain ⟨a, zs, rfl, hA, hz, q⟩ := q1
  obtain ⟨u, rfl, ru⟩ := vals1 r1
  obtain rfl : u = Value.ref a := ru
  show wpAny _ _ (evalAll ((do let v ← eval (.Name "len" kp) X.env; standAt pos; pure v) :: [])) _ _ s1
  refine wpAny_evalAll_cons (wpAny_bind (ld_blt I1 hgl hml (u := .builtin "len") (by decide +kernel) ?_ (by decide) (by decide)))
  refine wpAny_bind (wpAny_standAt (wpAny_pure (wpAny_evalAll_nil ?_)))
  exact sorted_len I1 hA hu hz fun p s2 np I2 => ⟨.ref p, _, I2, rfl, q p np⟩
end
end SH
set_option Elab.async false
set_option linter.all false
set_option maxRecDepth 100000
set_option maxHeartbeats 4000000
/-! comprehensions of any number of fors -/
namespace SH
open PySem PySem.Spec PyProof.Rows L2
/-- a turn's inner part: from slots and heap, what is wished of the heap behind it -/
abbrev TBd := L2.St → Hp → (Hp → Prop) → Prop
def BodyOk (X : Cx) (run : Sem PySem.Fin → Sem PySem.Fin) (bd : TBd) (vb : List Nat) : Prop :=
  ∀ (pins : List (Addr × Obj)) (s : Shared) (σ : L2.St) (H : Hp) (Nx : Hp → Prop) (c : Sem PySem.Fin) (Qc : PySem.Fin → Shared → Prop), Inv X pins σ H s → bd σ H Nx →
    (∀ s' H', Inv X pins (wipe σ vb) H' s' → Nx H' → wpAny (model X.prog X.w) X.A c Qc (fun _ _ => False) s') → wpAny (model X.prog X.w) X.A (run c) Qc (fun _ _ => False) s
/-- the turns of one for -/
def tTurns (J : It) (g : TG) (tt : TT) (vs : List Nat) (σw : L2.St) (bd : TBd) (Nx : Hp → Prop) (H0 : Hp) : Prop :=
  ∃ W : Nat → Nat → Hp → Prop, (∃ m, W 0 m H0) ∧ ∀ i m H, W i m H → (J.stop i H ∧ Nx H) ∨ (J.go i H ∧ ∃ Nx1 : Hp → Prop, (∀ H', Nx1 H' → ∃ m', m' < m ∧ W (i + 1) m' H') ∧
    ∀ x H', J.yld i H x H' → g x σw H' fun σ2 H2 => wipe σ2 vs = σw ∧ tt σ2 H2 fun b H3 => if b = true then bd σ2 H3 Nx1 else Nx1 H3)
/-- for tg in iter if ..: the inner part -/
def bFor (wi : TI) (g : TG) (tt : TT) (vs : List Nat) (bd : TBd) : TBd := fun σ H Nx => wi σ H fun J H1 => tTurns J g tt vs (wipe σ vs) bd Nx H1
/-- what a clause's turn runs -/
def clauseTurn (e : Expr) (k : Nat) (it acc : Value) (env : Env) (tg iter : Expr) (ifs : List Expr) (BODY : Sem PySem.Fin → Sem PySem.Fin) : Sem PySem.Fin := do
  standAt iter.pos
  match ← pyNext it with
  | none => pure (.done .next)
  | some v =>
    letOwnedTupleGo tg it v
    assign tg env v
    let mut ok := true
    for c in ifs do
      if ok then ok ← isTrue c env (eval c env)
    if ok then
      BODY (again (.compLoop e k it acc env))
    else again (.compLoop e k it acc env)
def innerRun (e : Expr) (k : Nat) (acc : Value) (env : Env) (iter : Expr) (c : Sem PySem.Fin) : Sem PySem.Fin := do
  let x ← eval iter env
  standAt iter.pos
  let x ← foldedSetIterable iter env x
  let _ ← runOwn (.compStart e k (← holding [x] (pyIter x)) acc env) env
  c
theorem wpAny_notedF {M : Model} {A : Around} {t : Sem PySem.Fin} {env : Env} {Q : PySem.Fin → Shared → Prop} {E : Value → Shared → Prop} {s : Shared} (h : wpAny M A t Q (fun _ _ => False) s) : wpAny M A (t.onRaise (fun x => do noteFrame x env; theTreesLotGoes x)) Q E s :=
  wpAny_noted (wpAny_mono h (fun _ _ q => q) fun _ _ z => z.elim)
theorem compStart_k {P : Program} {w : World} {A : Around} {e : Expr} {k : Nat} {it acc : Value} {env : Env} {R : Result → Shared → Prop} {s : Shared} (hcl : ((clausesOf e)[k]?).elim false (·.is_async != 0) = false) (hun : A.under (Code.compStart e k it acc env) = A) (hden : (model P w).den (Code.compStart e k it acc env) = ((compStart e k it acc env).onRaise (fun x => do noteFrame x env; standAt theWindowsPlace)))
    (h0 : codeAny (model P w) A (.compLoop e k it acc env) R s) (h : wpAny (model P w) A (pyIter it) (fun it' s' => codeAny (model P w) A (.compLoop e k it' acc env) R s') (notedBy (model P w) A env fun x s' => R (.error x) s') s) :
    codeAny (model P w) A (.compStart e k it acc env) R s := by
  refine codeAny_of_tree ?_
  have e1 : A.under (Code.compStart e k it acc env) = A := hun
  have e2 : (model P w).den (Code.compStart e k it acc env) = ((compStart e k it acc env).onRaise (fun x => do noteFrame x env; standAt theWindowsPlace)) := hden
  rw [e1, e2]
  refine wpAny_notedAt ?_
  unfold compStart
  simp only [hcl, Bool.false_eq_true, if_false]
  show wpAny _ _ (ask >>= _) _ _ s
  refine wpAny_bind (wpAny_askSetting (wpAny_ite ?_))
  split
  · first
      | exact wpAny_bind (wpAny_pure (wpAny_pure (And.intro rfl h0)))
      | exact wpAny_pure (And.intro rfl h0)
  · refine wpAny_bind (wpAny_rule ?_)
    have h2 : ∀ s', s' = s → wpAny (model P w) A (pyIter it >>= fun it' => again (.compLoop e k it' acc env)) (fun fin s' => match fin with | .done f => R (.ok f) s' | .again c' => c'.quiet = true ∧ codeAny (model P w) A c' R s') (notedBy (model P w) A env fun x s' => R (.error x) s') s' := fun s' es => by
      subst es
      exact wpAny_bind (wpAny_mono h (fun it' s' h' => wpAny_pure (And.intro rfl h')) fun _ _ x => x)
    cases (clausesOf e)[k]? with
    | none => first | exact h2 _ rfl | exact wpAny_bind (wpAny_pure (h2 _ rfl))
    | some g => first | exact wpAny_bind (wpAny_standAt (h2 _ rfl)) | exact wpAny_bind (wpAny_bind (wpAny_standAt (wpAny_pure (h2 _ rfl))))
section
variable {X : Cx} {e : Expr} {k : Nat} {acc : Value} {tg iter : Expr} {ifs : List Expr} {g : TG} {tt : TT} {vs vb : List Nat} {bd : TBd} {BODY : Sem PySem.Fin → Sem PySem.Fin} {wi : TI}
theorem wipe_sub {σ : L2.St} {vs vb : List Nat} (h : ∀ i ∈ vb, i ∈ vs) (j : Nat) (v : V) (e : (wipe σ vs)[j]? = some (some v)) : (wipe σ vb)[j]? = some (some v) := by
  obtain ⟨e1, e2⟩ := wipe_some e
  rw [wipe_out fun z => e2 (h j z)]
  exact e1
theorem loop_ok (hc : X.calm = true) (heq : ∀ it, (model X.prog X.w).den (Code.compLoop e k it acc X.env) = (clauseTurn e k it acc X.env tg iter ifs BODY).onRaise (fun x => do noteFrame x X.env; theTreesLotGoes x)) (hun : ∀ it, X.A.under (Code.compLoop e k it acc X.env) = X.A)
    (pg : PG X tg g) (pt : PTs X ifs tt) (hb : BodyOk X BODY bd vb) (hv : ∀ i ∈ vb, i ∈ vs) (hxe : X.xe = fun _ _ => False)
    {pins : List (Addr × Obj)} {s : Shared} {σw : L2.St} {H : Hp} {J : It} {fp : List Addr} {it : Addr} {tn : Nat → Heap → Prop} {Nx : Hp → Prop} {R : Result → Shared → Prop}
    (T : Turn X.prog X.w X.K tg J fp it tn) (I : Inv X pins σw H s) (st : tn 0 s.heap) (f : ∀ b ∈ fp, FpOk X pins H b) (h : tTurns J g tt vs σw bd Nx H)
    (hR : ∀ s' H', Inv X pins σw H' s' → Nx H' → R (.ok .next) s') :
    codeAny (model X.prog X.w) X.A (.compLoop e k (.ref it) acc X.env) R s := by
  obtain ⟨W, ⟨m0, w0⟩, turn⟩ := h
  have stat : ∀ {H' : Hp}, (∀ b ∈ fp, H' b = none) → ∀ b ∈ fp, FpOk X pins H' b := fun hn b hb => ⟨hn b hb, (f b hb).2⟩
  refine codeAny_loop rfl (fun n s' => ∃ i H', Inv X pins σw H' s' ∧ tn i s'.heap ∧ (∀ b ∈ fp, H' b = none) ∧ W i n H') (fun n s5 hI => ?_) m0 ⟨0, H, I, st, fun b hb => (f b hb).1, w0⟩
  obtain ⟨i, H5, I5, st5, n5, w5⟩ := hI
  have pgr := pg.run
  have ptr := pt.run
  rw [hxe] at pgr ptr
  rw [hun, heq]
  refine wpAny_notedF ?_
  unfold clauseTurn
  refine wpAny_bind (wpAny_standAt ?_)
  rcases turn i n H5 w5 with ⟨stop, qq⟩ | ⟨go, Nx1, hNx, step⟩
  · refine wpAny_bind (thnF (T.done X rfl rfl rfl hc i pins s5 σw H5 (fun _ _ => False) I5 (stat n5) st5 stop) fun r s6 ⟨hr, I6⟩ => ?_)
    subst hr
    exact wpAny_pure (hR s6 H5 I6 qq)
  · refine wpAny_bind (thnF (T.item X rfl rfl rfl hc i pins s5 σw H5 (fun _ _ => False) I5 (stat n5) st5 go) fun r s6 ⟨u, hr, h6⟩ => ?_)
    subst hr
    refine wpAny_bind (thnF h6 fun _ s7 ⟨x, H7, I7, r7, y7, st7, n7⟩ => ?_)
    have I7' := I7.pinned (stat n7) (T.obj _ _ st7)
    refine wpAny_bind (thnF (pgr _ s7 _ H7 x u _ I7' r7 (step x H7 y7)) fun _ s8 ⟨σ8, H8, I8, hw8, q8⟩ => ?_)
    refine wpAny_bind (thnF (ptr _ s8 σ8 H8 _ I8 q8) fun b s9 ⟨H9, I9, q9⟩ => ?_)
    have fin : ∀ {σ9 : L2.St} {s' : Shared} {H' : Hp}, Inv X (pins ++ pinsAt fp s7.heap) σ9 H' s' → σw.length = σ9.length → (∀ (j : Nat) v, σw[j]? = some (some v) → σ9[j]? = some (some v)) → Nx1 H' →
        ∃ m, m < n ∧ ∃ i H', Inv X pins σw H' s' ∧ tn i s'.heap ∧ (∀ b ∈ fp, H' b = none) ∧ W i m H' := fun {σ9 s' H'} I' hl hk nx => by
      obtain ⟨m', hm, w'⟩ := hNx H' nx
      have pin' : ∀ b ∈ fp, ∀ o, s7.heap.get? b = some o → s'.heap.get? b = some o ∧ H' b = none := fun b hb o e =>
        let z := I'.pin (b, o) (List.mem_append_right _ (List.mem_append_right _ (mem_pinsAt hb e)))
        ⟨z.1, z.2.1⟩
      refine ⟨m', hm, i + 1, H', (I'.unpinned (pins := pins)).weak hl hk, T.keep _ _ _ st7 fun b hb o e => (pin' b hb o e).1, fun b hb => ?_, w'⟩
      obtain ⟨o, e, _⟩ := T.obj _ _ st7 b hb
      exact (pin' b hb o e).2
    cases b with
    | false =>
      refine wpAny_pure ⟨rfl, ?_⟩
      exact fin I9 (by rw [← hw8, wipe_length]) (fun j v e => by rw [← hw8] at e; exact (wipe_some e).1) q9
    | true =>
      refine hb _ s9 σ8 H9 Nx1 _ _ I9 q9 fun s10 H10 I10 q10 => ?_
      refine wpAny_pure ⟨rfl, ?_⟩
      exact fin I10 (by rw [← hw8, wipe_length, wipe_length]) (fun j v e => by rw [← hw8] at e; exact wipe_sub hv j v e) q10
/-- a for further in -/
theorem body_for (hc : X.calm = true) (hxe : X.xe = fun _ _ => False) (heq : ∀ it, (model X.prog X.w).den (Code.compLoop e k it acc X.env) = (clauseTurn e k it acc X.env tg iter ifs BODY).onRaise (fun x => do noteFrame x X.env; theTreesLotGoes x)) (hun : ∀ it, X.A.under (Code.compLoop e k it acc X.env) = X.A)
    (hst : ∀ (R : Result → Shared → Prop) (it : Value) (s : Shared), codeAny (model X.prog X.w) X.A (.compLoop e k it acc X.env) R s → wpAny (model X.prog X.w) X.A (pyIter it) (fun it' s' => codeAny (model X.prog X.w) X.A (.compLoop e k it' acc X.env) R s') (notedBy (model X.prog X.w) X.A X.env fun x s' => R (.error x) s') s → codeAny (model X.prog X.w) X.A (.compStart e k it acc X.env) R s)
    (pi : PI X tg iter wi) (hs : ∀ x, foldedSetIterable iter X.env x = pure x) (pg : PG X tg g) (pt : PTs X ifs tt) (hb : BodyOk X BODY bd vb) (hv : ∀ i ∈ vb, i ∈ vs) : BodyOk X (innerRun e k acc X.env iter) (bFor wi g tt vs bd) vs := by
  intro pins s σ H Nx c Qc I h hcc
  have pir := pi.run
  rw [hxe] at pir
  unfold innerRun
  refine wpAny_bind (thnF (pir pins s σ H _ I h) fun xv s10 hx => wpAny_bind (wpAny_standAt (wpAny_bind (wpAny_of_eq (hs xv) (wpAny_bind (wpAny_holding (thnF hx fun itv s11 h11 => ?_)))))))
  obtain ⟨it1, fp1, tn1, J1, H11, e1, I11, T1, st11, f11, q11⟩ := h11
  subst e1
  refine wpAny_bind (wpAny_runOwn ?_)
  rw [Around.mark_none]
  have lp := loop_ok (R := fun r s' => match r with
      | .ok _ => ∃ H', Inv X pins (wipe σ vs) H' s' ∧ Nx H'
      | .error _ => False) hc heq hun pg pt hb hv hxe T1 (I11.weak (wipe_length _ _) (fun j v e => (wipe_some e).1)) st11 f11 q11 (fun s' H' I' n => ⟨H', I', n⟩)
  refine codeAny_mono (hst _ _ _ lp (T1.self X.A 0 _ _ _ st11 lp)) fun r s' hr => ?_
  cases r with
  | ok f =>
    obtain ⟨H', I', n⟩ := hr
    exact hcc s' H' I' n
  | error e => exact hr.elim
end
/-! ### sets -/
/-- the member is put in -/
def bAdd (w : World) (te : TE) (D : Addr) : TBd := fun σ H Nx => te σ H fun y H1 => ∃ (k : Key) (S : Key → Bool) (n : Nat), y = kV k ∧ H1 D = some (SetMO w D S n) ∧ n + 1 < scanBound ∧ Nx (upd H1 D (SetMO w D (fun j => S j || decide (j = k)) (if S k = true then n else n + 1)))
def addRun (elt : Expr) (D : Addr) (env : Env) (c : Sem PySem.Fin) : Sem PySem.Fin := do (do let v ← eval elt env; standAt elt.pos; let _ ← call (.builtin "set.add") [.ref D, v]); c
section
variable {X : Cx} {elt : Expr} {te : TE}
theorem body_add (hxe : X.xe = fun _ _ => False) (he : PE X elt te) (D : Addr) : BodyOk X (addRun elt D X.env) (bAdd X.w te D) [] := by
  intro pins s σ H Nx c Qc I h hcc
  have per := he.run
  rw [hxe] at per
  unfold addRun
  refine wpAny_bind (wpAny_bind (thnF (per pins s σ H _ I h) fun v s1 ⟨y, H1, I1, r1, k, S, n, ey, hD, room, q⟩ => wpAny_bind (wpAny_standAt ?_)))
  subst ey
  have := addM_ok (X := X) (E := X.xe) r1 I1 hD room (Q := fun _ s' => ∃ H', Inv X pins (wipe σ []) H' s' ∧ Nx H') fun s' I' => ⟨_, I', q⟩
  rw [hxe] at this
  exact wpAny_bind (wpAny_mono this (fun _ s' q => wpAny_pure (let ⟨H', I', n⟩ := q; hcc s' H' I' n)) fun _ _ z => z)
/-- {elt for tg in iter if .. ..} -/
def tScN (w : World) (wi : TI) (g : TG) (tt : TT) (vs : List Nat) (bd : Addr → TBd) : TE := fun σ H Q => wi σ H fun J H1 => ∀ D, H1 D = none → tTurns J g tt vs (wipe σ vs) (bd D) (fun H' => Q (.ref D) H') (upd H1 D (SetMO w D (fun _ => false) 0))
theorem scN_core {pins : List (Addr × Obj)} {s : Shared} {σ : L2.St} {H : Hp} {Q : VK} {tg iter : Expr} {ifs : List Expr} {rest : List Comprehension} {scope : Scope} {own : List (Str × Nat)} {vb : List Nat} {pos pos' : Pos} {wi : TI} {g : TG} {tt : TT} {bd : Addr → TBd} {BODY : Addr → Env → Sem PySem.Fin → Sem PySem.Fin} {use : Option (Value → Sem Unit)} {Qf : Value → Shared → Prop}
    (hc : X.calm = true) (hN : X.N.Nodup) (I : Inv X pins σ H s) (hi : PI X tg iter wi) (ok : BlkOk X.N X.env.scope scope own) (hv : ∀ i ∈ vb, i ∈ own.map (·.2))
    (heq : ∀ (env : Env) (D : Addr) (it : Value), (model X.prog X.w).den (Code.compLoop (.SetComp elt (⟨tg, iter, ifs, 0⟩ :: rest) scope pos) 0 it (.ref D) env) = (clauseTurn (.SetComp elt (⟨tg, iter, ifs, 0⟩ :: rest) scope pos) 0 it (.ref D) env tg iter ifs (BODY D env)).onRaise (fun x => do noteFrame x env; theTreesLotGoes x))
    (hun : ∀ (env : Env) (D : Addr) (it : Value), X.A.under (Code.compLoop (.SetComp elt (⟨tg, iter, ifs, 0⟩ :: rest) scope pos) 0 it (.ref D) env) = X.A)
    (hg : ∀ (s : Shared) (H : Hp) (C : Addr) (cl : List (Str × Addr)) (fp : List Addr), PG (X.blk s H scope (compEnvC scope cl C X.env) fp) tg g) (ht : ∀ (s : Shared) (H : Hp) (C : Addr) (cl : List (Str × Addr)) (fp : List Addr), PTs (X.blk s H scope (compEnvC scope cl C X.env) fp) ifs tt)
    (hb : ∀ (D : Addr) (s : Shared) (H : Hp) (C : Addr) (cl : List (Str × Addr)) (fp : List Addr), BodyOk (X.blk s H scope (compEnvC scope cl C X.env) fp) (BODY D (compEnvC scope cl C X.env)) (bd D) vb) (hs : ∀ x, foldedSetIterable iter X.env x = pure x)
    (h : tScN X.w wi g tt (own.map (·.2)) bd σ H Q)
    (hRR : ∀ D C s' m H', Inv X pins σ H' s' → Q (.ref D) H' → s'.heap.Ns C m → FpOk X pins H' C → compPost (model X.prog X.w) X.A X.xe use Qf (.ref D) C (.ok .next) s') :
    wpAny (model X.prog X.w) X.A (comprehension (.SetComp elt (⟨tg, iter, ifs, 0⟩ :: rest) scope pos) scope X.env pos' (newSet (.type "set")) false (eval iter X.env) use) Qf X.xe s := by
  have hfree : ∀ y ∈ scope.names, y.2 = .free → ∃ c, X.env.cells.lookup y.1 = some c := fun y hy e => by
    rcases ok.free y hy e with k | k
    · exact I.ok.has _ (.inl k)
    · exact I.ok.has _ (.inr k)
  refine wpAny_comprehension_free (use := use) rfl hs (closure_ok hfree) ok.kind (fun y hy e => by rw [ok.uniq y hy, e])
    (thn (hi.run pins s σ H _ I h) fun xv s1 hx => thn hx fun itv s2 h2 => ?_)
  obtain ⟨it, fp, tn, J, H2, e, I2, T, st2, f2, q⟩ := h2
  subst e
  refine PpSet.newSet_ok (newEnv_comp ?_)
  generalize hD : s2.heap.objs.size = D
  have hDn : H2 D = none := I2.hok.fresh (Nat.le_of_eq hD)
  have q := q D hDn
  generalize hs3 : ({ s2 with heap := s2.heap.push { cls := .type "set", dict := none, data := .set #[] 0 (.fresh 0 0 (!X.w.params.followText "set-order")) } } : Shared) = s3
  have I3 : Inv X pins σ (upd H2 D (SetMO X.w D (fun _ => false) 0)) s3 := by
    rw [← hs3]
    refine I2.laid (t' := s2.toks) (fun b o e => Heap.get?_push_of_some _ e) (Nat.le_of_eq hD) ?_
    rw [← hD]
    exact setMO_new (setM_fresh X.w)
  have h3 : s3.heap = s2.heap.push { cls := .type "set", dict := none, data := .set #[] 0 (.fresh 0 0 (!X.w.params.followText "set-order")) } := by rw [← hs3]
  have sz : ∀ b ∈ fp, b < s2.heap.objs.size := fun b hb => by
    obtain ⟨o, e, _⟩ := T.obj _ _ st2 b hb
    exact Heap.lt_size e
  have f3 : ∀ b ∈ fp, FpOk X pins (upd H2 D (SetMO X.w D (fun _ => false) 0)) b ∧ b < s3.heap.objs.size := fun b hb => by
    have hlt := sz b hb
    refine ⟨⟨?_, (f2 b hb).2⟩, by rw [h3, Heap.size_push]; exact Nat.lt_succ_of_lt hlt⟩
    rw [upd_ne (by rw [← hD]; exact Nat.ne_of_lt hlt)]
    exact (f2 b hb).1
  have st3 : tn 0 s3.heap := T.keep _ _ _ st2 fun b _ o e => by rw [h3]; exact Heap.get?_push_of_some _ e
  have I4 := block_start I3 ok hN f3
  have pg := hg s3 (upd H2 D (SetMO X.w D (fun _ => false) 0)) s3.heap.objs.size (cellsFrom (s3.heap.objs.size + 1) scope.names (cloFrom X.env.cells scope.names [])) fp
  have pt := ht s3 (upd H2 D (SetMO X.w D (fun _ => false) 0)) s3.heap.objs.size (cellsFrom (s3.heap.objs.size + 1) scope.names (cloFrom X.env.cells scope.names [])) fp
  have pb := hb D s3 (upd H2 D (SetMO X.w D (fun _ => false) 0)) s3.heap.objs.size (cellsFrom (s3.heap.objs.size + 1) scope.names (cloFrom X.env.cells scope.names [])) fp
  show codeAny _ _ (.compStart (.SetComp elt (⟨tg, iter, ifs, 0⟩ :: rest) scope pos) 0 (.ref it) (.ref D) (compEnvC scope (cellsFrom (s3.heap.objs.size + 1) scope.names (cloFrom X.env.cells scope.names [])) s3.heap.objs.size X.env)) (compPost (model X.prog X.w) X.A X.xe use Qf (.ref D) s3.heap.objs.size) { s3 with heap := pushCells (s3.heap.push { cls := .type "dict", data := .dict #[] }) scope.names }
  have nfp : ∀ b ∈ fp, (upd H2 D (SetMO X.w D (fun _ => false) 0)) b = none := fun b hb => (f3 b hb).1.1
  generalize hce : compEnvC scope (cellsFrom (s3.heap.objs.size + 1) scope.names (cloFrom X.env.cells scope.names [])) s3.heap.objs.size X.env = ce at I4 pg pt pb ⊢
  have cL : ce.locals = s3.heap.objs.size := by subst hce; rfl
  generalize hH3 : upd H2 D (SetMO X.w D (fun _ => false) 0) = H3 at I3 I4 pg pt pb q nfp f3
  generalize hs4 : ({ s3 with heap := pushCells (s3.heap.push { cls := .type "dict", data := .dict #[] }) scope.names } : Shared) = s4 at I4 ⊢
  have st4 : tn 0 s4.heap := T.keep _ _ _ st3 fun b _ o e => by rw [← hs4]; exact pushCells_keeps _ _ _ _ (Heap.get?_push_of_some _ e)
  have stat : ∀ b ∈ fp, FpOk (X.blk s3 H3 scope ce fp) [] H3 b := fun b hb =>
    ⟨nfp b hb, (I4.ok.exf b hb).1, I4.ok.exfs b hb, .inl hb, fun x c e => (I4.ok.exf b hb).2 x c e, fun p hp => absurd (show p ∈ ([] : List (Addr × Obj)) ++ [] from hp) (by simp)⟩
  have loop : codeAny (model X.prog X.w) X.A (.compLoop (.SetComp elt (⟨tg, iter, ifs, 0⟩ :: rest) scope pos) 0 (.ref it) (.ref D) ce) (compPost (model X.prog X.w) X.A X.xe use Qf (.ref D) s3.heap.objs.size) s4 := by
    refine loop_ok (X := X.blk s3 H3 scope ce fp) (pins := []) hc (heq ce D) (hun ce D) pg pt pb hv rfl T I4 st4 stat q fun s6 H5 I6 qq => ?_
    have I7 : Inv X pins σ H5 s6 := I3.call' (ch := fp) I6.os I6.base I6.hok I6.bare fun b hb => ⟨(f3 b hb).1.2.2.2.1, (f3 b hb).1.2.1, (f3 b hb).1.2.2.2.2.1, (f3 b hb).1.2.2.2.2.2⟩
    have nC : H5 s3.heap.objs.size = none := by
      have z : H5 ce.locals = none := I6.free
      rw [cL] at z
      exact z
    obtain ⟨m, hn, _⟩ := I6.loc
    have hn : s6.heap.Ns ce.locals m := hn
    rw [cL] at hn
    exact hRR D s3.heap.objs.size s6 m H5 I7 qq hn (I3.fpOk (Nat.le_refl _) nC)
  exact PpSet.codeAny_compStart_set loop (T.self X.A 0 _ _ _ st4 loop)
/-- one for -/
theorem pe_sc1 {tg iter : Expr} {ifs : List Expr} {scope : Scope} {own : List (Str × Nat)} {pos : Pos} {wi : TI} {g : TG} {tt : TT} {w : World} (hc : X.calm = true) (hN : X.N.Nodup) (hi : PI X tg iter wi) (ok : BlkOk X.N X.env.scope scope own)
    (hg : ∀ (s : Shared) (H : Hp) (C : Addr) (cl : List (Str × Addr)) (fp : List Addr), PG (X.blk s H scope (compEnvC scope cl C X.env) fp) tg g) (ht : ∀ (s : Shared) (H : Hp) (C : Addr) (cl : List (Str × Addr)) (fp : List Addr), PTs (X.blk s H scope (compEnvC scope cl C X.env) fp) ifs tt)
    (he : ∀ (s : Shared) (H : Hp) (C : Addr) (cl : List (Str × Addr)) (fp : List Addr), PE (X.blk s H scope (compEnvC scope cl C X.env) fp) elt te) (hs : ∀ x, foldedSetIterable iter X.env x = pure x := by intro _; rfl) (hw : X.w = w := by rfl) :
    PE X (.SetComp elt [⟨tg, iter, ifs, 0⟩] scope pos) (tScN w wi g tt (own.map (·.2)) (bAdd w te)) := by
  subst hw
  refine ⟨fun pins s σ H Q I h => ?_⟩
  rw [PpSet.eval_SetComp]
  refine scN_core (BODY := fun D env => addRun elt D env) (vb := []) hc hN I hi ok (fun i z => nomatch z) (fun env D it => by rfl) (fun env D it => by rfl) hg ht (fun D s H C cl fp => body_add rfl (he s H C cl fp) D) hs h fun D C s' m H' I' q hn f => ⟨m, hn, fun h'' sb => ?_⟩
  obtain ⟨f0, f1, f2, f3, f4, f5⟩ := f
  exact ⟨.ref D, H', I'.turned (t' := s'.toks) (fun b o hb e => (sb.2 b hb).trans e) f0 f1 f3 f4 f5, rfl, q⟩
/-- three fors -/
theorem pe_sc3 {tg iter tg1 iter1 tg2 iter2 : Expr} {ifs ifs1 ifs2 : List Expr} {scope : Scope} {own : List (Str × Nat)} {vs1 vs2 : List Nat} {pos : Pos} {wi wi1 wi2 : TI} {g g1 g2 : TG} {tt tt1 tt2 : TT} {w : World} (hc : X.calm = true) (hN : X.N.Nodup) (hi : PI X tg iter wi) (ok : BlkOk X.N X.env.scope scope own)
    (hv : (∀ i ∈ vs1, i ∈ own.map (·.2)) ∧ ∀ i ∈ vs2, i ∈ vs1)
    (hg : ∀ (s : Shared) (H : Hp) (C : Addr) (cl : List (Str × Addr)) (fp : List Addr), PG (X.blk s H scope (compEnvC scope cl C X.env) fp) tg g) (ht : ∀ (s : Shared) (H : Hp) (C : Addr) (cl : List (Str × Addr)) (fp : List Addr), PTs (X.blk s H scope (compEnvC scope cl C X.env) fp) ifs tt)
    (hi1 : ∀ (s : Shared) (H : Hp) (C : Addr) (cl : List (Str × Addr)) (fp : List Addr), PI (X.blk s H scope (compEnvC scope cl C X.env) fp) tg1 iter1 wi1)
    (hg1 : ∀ (s : Shared) (H : Hp) (C : Addr) (cl : List (Str × Addr)) (fp : List Addr), PG (X.blk s H scope (compEnvC scope cl C X.env) fp) tg1 g1) (ht1 : ∀ (s : Shared) (H : Hp) (C : Addr) (cl : List (Str × Addr)) (fp : List Addr), PTs (X.blk s H scope (compEnvC scope cl C X.env) fp) ifs1 tt1)
    (hi2 : ∀ (s : Shared) (H : Hp) (C : Addr) (cl : List (Str × Addr)) (fp : List Addr), PI (X.blk s H scope (compEnvC scope cl C X.env) fp) tg2 iter2 wi2)
    (hg2 : ∀ (s : Shared) (H : Hp) (C : Addr) (cl : List (Str × Addr)) (fp : List Addr), PG (X.blk s H scope (compEnvC scope cl C X.env) fp) tg2 g2) (ht2 : ∀ (s : Shared) (H : Hp) (C : Addr) (cl : List (Str × Addr)) (fp : List Addr), PTs (X.blk s H scope (compEnvC scope cl C X.env) fp) ifs2 tt2)
    (he : ∀ (s : Shared) (H : Hp) (C : Addr) (cl : List (Str × Addr)) (fp : List Addr), PE (X.blk s H scope (compEnvC scope cl C X.env) fp) elt te) (hs : ∀ x, foldedSetIterable iter X.env x = pure x := by intro _; rfl) (hs1 : ∀ env x, foldedSetIterable iter1 env x = pure x := by intro _ _; rfl) (hs2 : ∀ env x, foldedSetIterable iter2 env x = pure x := by intro _ _; rfl) (hw : X.w = w := by rfl) :
    PE X (.SetComp elt [⟨tg, iter, ifs, 0⟩, ⟨tg1, iter1, ifs1, 0⟩, ⟨tg2, iter2, ifs2, 0⟩] scope pos) (tScN w wi g tt (own.map (·.2)) fun D => bFor wi1 g1 tt1 vs1 (bFor wi2 g2 tt2 vs2 (bAdd w te D))) := by
  subst hw
  refine ⟨fun pins s σ H Q I h => ?_⟩
  rw [PpSet.eval_SetComp]
  refine scN_core (BODY := fun D env => innerRun (.SetComp elt [⟨tg, iter, ifs, 0⟩, ⟨tg1, iter1, ifs1, 0⟩, ⟨tg2, iter2, ifs2, 0⟩] scope pos) 1 (.ref D) env iter1) (vb := vs1) hc hN I hi ok hv.1 (fun env D it => by rfl) (fun env D it => by rfl) hg ht (fun D s H C cl fp => ?_) hs h fun D C s' m H' I' q hn f => ⟨m, hn, fun h'' sb => ?_⟩
  · have b2 := body_add (X := X.blk s H scope (compEnvC scope cl C X.env) fp) rfl (he s H C cl fp) D
    have b1 := body_for (X := X.blk s H scope (compEnvC scope cl C X.env) fp) (e := .SetComp elt [⟨tg, iter, ifs, 0⟩, ⟨tg1, iter1, ifs1, 0⟩, ⟨tg2, iter2, ifs2, 0⟩] scope pos) (k := 2) (acc := .ref D) (vs := vs2) hc rfl (fun it => by rfl) (fun it => by rfl) (fun R it s h0 h => compStart_k (by rfl) (by rfl) (by rfl) h0 h) (hi2 s H C cl fp) (hs2 _) (hg2 s H C cl fp) (ht2 s H C cl fp) b2 (fun i z => nomatch z)
    exact body_for (X := X.blk s H scope (compEnvC scope cl C X.env) fp) (e := .SetComp elt [⟨tg, iter, ifs, 0⟩, ⟨tg1, iter1, ifs1, 0⟩, ⟨tg2, iter2, ifs2, 0⟩] scope pos) (k := 1) (acc := .ref D) (vs := vs1) hc rfl (fun it => by rfl) (fun it => by rfl) (fun R it s h0 h => compStart_k (by rfl) (by rfl) (by rfl) h0 h) (hi1 s H C cl fp) (hs1 _) (hg1 s H C cl fp) (ht1 s H C cl fp) b1 hv.2
  obtain ⟨f0, f1, f2, f3, f4, f5⟩ := f
  exact ⟨.ref D, H', I'.turned (t' := s'.toks) (fun b o hb e => (sb.2 b hb).trans e) f0 f1 f3 f4 f5, rfl, q⟩
theorem ps_setSc1 {i : Nat} {y : Str} {py spos : Pos} {tg iter : Expr} {ifs : List Expr} {scope : Scope} {own : List (Str × Nat)} {pos : Pos} {wi : TI} {g : TG} {tt : TT} {w : World} (hc : X.calm = true) (hN : X.N.Nodup) (hy : X.N[i]? = some y) (hyl : X.env.scope.names.lookup y = some .local) (hsw : swapsWith (.SetComp elt [⟨tg, iter, ifs, 0⟩] scope pos) (some (.Name y py)) spos.line X.env = pure true) (hi : PI X tg iter wi) (ok : BlkOk X.N X.env.scope scope own)
    (hg : ∀ (s : Shared) (H : Hp) (C : Addr) (cl : List (Str × Addr)) (fp : List Addr), PG (X.blk s H scope (compEnvC scope cl C X.env) fp) tg g) (ht : ∀ (s : Shared) (H : Hp) (C : Addr) (cl : List (Str × Addr)) (fp : List Addr), PTs (X.blk s H scope (compEnvC scope cl C X.env) fp) ifs tt)
    (he : ∀ (s : Shared) (H : Hp) (C : Addr) (cl : List (Str × Addr)) (fp : List Addr), PE (X.blk s H scope (compEnvC scope cl C X.env) fp) elt te) (hs : ∀ x, foldedSetIterable iter X.env x = pure x := by intro _; rfl) (hw : X.w = w := by rfl) :
    PS X (.Assign [.Name y py] (.SetComp elt [⟨tg, iter, ifs, 0⟩] scope pos) spos) (tAsg (tScN w wi g tt (own.map (·.2)) (bAdd w te)) (gName i)) := by
  subst hw
  refine ⟨fun pins s σ H D I h => ?_⟩
  rw [exec_Assign_Name_used _ _ _ _ hsw]
  refine wpAny_bind (wpAny_standAt (wpAny_bind ?_))
  show wpAny _ X.A (do let _ ← comprehension (.SetComp elt [⟨tg, iter, ifs, 0⟩] scope pos) scope X.env (firstIterPos [⟨tg, iter, ifs, 0⟩] pos) (newSet (.type "set")) false (eval iter X.env) (some (assign (.Name y py) X.env))) _ _ s
  have h : (tScN X.w wi g tt (own.map (·.2)) (bAdd X.w te)) σ H (fun x H1 => gName i x σ H1 D.nx) := h
  refine wpAny_bind (thn (scN_core (Qf := fun _ s' => SP X pins D .next s') (use := some (assign (.Name y py) X.env)) (BODY := fun D env => addRun elt D env) (vb := []) hc hN I hi ok (fun i z => nomatch z) (fun env D it => by rfl) (fun env D it => by rfl) hg ht (fun D s H C cl fp => body_add rfl (he s H C cl fp) D) hs h fun L C s' m H' I' q hn f => ?_) fun _ s' hq => wpAny_pure (wpAny_pure hq))
  show wpAny _ _ (assign (.Name y py) X.env (.ref L)) _ _ _
  refine wpAny_assign_Name (store_ok2 (v := V.ref L) I' hN hy (.inl hyl) rfl (fun s2 I2 ⟨a, sb, ha⟩ => ?_) (.inr hyl))
  obtain ⟨f0, f1, f2, f3, f4, f5⟩ := f
  have haC : C ≠ a := by
    rcases ha with z | z
    · rw [z]; exact f1
    · exact fun e => f4 y a z e.symm
  refine ⟨m, hn.sameBut sb haC, fun h3 sb3 => ?_⟩
  exact ⟨_, H', I2.turned (t' := s2.toks) (fun b o hb e => (sb3.2 b hb).trans e) f0 f1 f3 f4 f5, q⟩
theorem ps_setSc3 {i : Nat} {y : Str} {py spos : Pos} {tg iter tg1 iter1 tg2 iter2 : Expr} {ifs ifs1 ifs2 : List Expr} {scope : Scope} {own : List (Str × Nat)} {vs1 vs2 : List Nat} {pos : Pos} {wi wi1 wi2 : TI} {g g1 g2 : TG} {tt tt1 tt2 : TT} {w : World} (hc : X.calm = true) (hN : X.N.Nodup) (hy : X.N[i]? = some y) (hyl : X.env.scope.names.lookup y = some .local) (hsw : swapsWith (.SetComp elt [⟨tg, iter, ifs, 0⟩, ⟨tg1, iter1, ifs1, 0⟩, ⟨tg2, iter2, ifs2, 0⟩] scope pos) (some (.Name y py)) spos.line X.env = pure true) (hi : PI X tg iter wi) (ok : BlkOk X.N X.env.scope scope own)
    (hv : (∀ i ∈ vs1, i ∈ own.map (·.2)) ∧ ∀ i ∈ vs2, i ∈ vs1)
    (hg : ∀ (s : Shared) (H : Hp) (C : Addr) (cl : List (Str × Addr)) (fp : List Addr), PG (X.blk s H scope (compEnvC scope cl C X.env) fp) tg g) (ht : ∀ (s : Shared) (H : Hp) (C : Addr) (cl : List (Str × Addr)) (fp : List Addr), PTs (X.blk s H scope (compEnvC scope cl C X.env) fp) ifs tt)
    (hi1 : ∀ (s : Shared) (H : Hp) (C : Addr) (cl : List (Str × Addr)) (fp : List Addr), PI (X.blk s H scope (compEnvC scope cl C X.env) fp) tg1 iter1 wi1)
    (hg1 : ∀ (s : Shared) (H : Hp) (C : Addr) (cl : List (Str × Addr)) (fp : List Addr), PG (X.blk s H scope (compEnvC scope cl C X.env) fp) tg1 g1) (ht1 : ∀ (s : Shared) (H : Hp) (C : Addr) (cl : List (Str × Addr)) (fp : List Addr), PTs (X.blk s H scope (compEnvC scope cl C X.env) fp) ifs1 tt1)
    (hi2 : ∀ (s : Shared) (H : Hp) (C : Addr) (cl : List (Str × Addr)) (fp : List Addr), PI (X.blk s H scope (compEnvC scope cl C X.env) fp) tg2 iter2 wi2)
    (hg2 : ∀ (s : Shared) (H : Hp) (C : Addr) (cl : List (Str × Addr)) (fp : List Addr), PG (X.blk s H scope (compEnvC scope cl C X.env) fp) tg2 g2) (ht2 : ∀ (s : Shared) (H : Hp) (C : Addr) (cl : List (Str × Addr)) (fp : List Addr), PTs (X.blk s H scope (compEnvC scope cl C X.env) fp) ifs2 tt2)
    (he : ∀ (s : Shared) (H : Hp) (C : Addr) (cl : List (Str × Addr)) (fp : List Addr), PE (X.blk s H scope (compEnvC scope cl C X.env) fp) elt te) (hs : ∀ x, foldedSetIterable iter X.env x = pure x := by intro _; rfl) (hs1 : ∀ env x, foldedSetIterable iter1 env x = pure x := by intro _ _; rfl) (hs2 : ∀ env x, foldedSetIterable iter2 env x = pure x := by intro _ _; rfl) (hw : X.w = w := by rfl) :
    PS X (.Assign [.Name y py] (.SetComp elt [⟨tg, iter, ifs, 0⟩, ⟨tg1, iter1, ifs1, 0⟩, ⟨tg2, iter2, ifs2, 0⟩] scope pos) spos) (tAsg (tScN w wi g tt (own.map (·.2)) fun D => bFor wi1 g1 tt1 vs1 (bFor wi2 g2 tt2 vs2 (bAdd w te D))) (gName i)) := by
  subst hw
  refine ⟨fun pins s σ H D I h => ?_⟩
  rw [exec_Assign_Name_used _ _ _ _ hsw]
  refine wpAny_bind (wpAny_standAt (wpAny_bind ?_))
  show wpAny _ X.A (do let _ ← comprehension (.SetComp elt [⟨tg, iter, ifs, 0⟩, ⟨tg1, iter1, ifs1, 0⟩, ⟨tg2, iter2, ifs2, 0⟩] scope pos) scope X.env (firstIterPos [⟨tg, iter, ifs, 0⟩, ⟨tg1, iter1, ifs1, 0⟩, ⟨tg2, iter2, ifs2, 0⟩] pos) (newSet (.type "set")) false (eval iter X.env) (some (assign (.Name y py) X.env))) _ _ s
  have h : (tScN X.w wi g tt (own.map (·.2)) fun D => bFor wi1 g1 tt1 vs1 (bFor wi2 g2 tt2 vs2 (bAdd X.w te D))) σ H (fun x H1 => gName i x σ H1 D.nx) := h
  refine wpAny_bind (thn (scN_core (Qf := fun _ s' => SP X pins D .next s') (use := some (assign (.Name y py) X.env)) (BODY := fun D env => innerRun (.SetComp elt [⟨tg, iter, ifs, 0⟩, ⟨tg1, iter1, ifs1, 0⟩, ⟨tg2, iter2, ifs2, 0⟩] scope pos) 1 (.ref D) env iter1) (vb := vs1) hc hN I hi ok hv.1 (fun env D it => by rfl) (fun env D it => by rfl) hg ht (fun D s H C cl fp => ?_) hs h fun L C s' m H' I' q hn f => ?_) fun _ s' hq => wpAny_pure (wpAny_pure hq))
  · have b2 := body_add (X := X.blk s H scope (compEnvC scope cl C X.env) fp) rfl (he s H C cl fp) D
    have b1 := body_for (X := X.blk s H scope (compEnvC scope cl C X.env) fp) (e := .SetComp elt [⟨tg, iter, ifs, 0⟩, ⟨tg1, iter1, ifs1, 0⟩, ⟨tg2, iter2, ifs2, 0⟩] scope pos) (k := 2) (acc := .ref D) (vs := vs2) hc rfl (fun it => by rfl) (fun it => by rfl) (fun R it s h0 h => compStart_k (by rfl) (by rfl) (by rfl) h0 h) (hi2 s H C cl fp) (hs2 _) (hg2 s H C cl fp) (ht2 s H C cl fp) b2 (fun i z => nomatch z)
    exact body_for (X := X.blk s H scope (compEnvC scope cl C X.env) fp) (e := .SetComp elt [⟨tg, iter, ifs, 0⟩, ⟨tg1, iter1, ifs1, 0⟩, ⟨tg2, iter2, ifs2, 0⟩] scope pos) (k := 1) (acc := .ref D) (vs := vs1) hc rfl (fun it => by rfl) (fun it => by rfl) (fun R it s h0 h => compStart_k (by rfl) (by rfl) (by rfl) h0 h) (hi1 s H C cl fp) (hs1 _) (hg1 s H C cl fp) (ht1 s H C cl fp) b1 hv.2
  show wpAny _ _ (assign (.Name y py) X.env (.ref L)) _ _ _
  refine wpAny_assign_Name (store_ok2 (v := V.ref L) I' hN hy (.inl hyl) rfl (fun s2 I2 ⟨a, sb, ha⟩ => ?_) (.inr hyl))
  obtain ⟨f0, f1, f2, f3, f4, f5⟩ := f
  have haC : C ≠ a := by
    rcases ha with z | z
    · rw [z]; exact f1
    · exact fun e => f4 y a z e.symm
  refine ⟨m, hn.sameBut sb haC, fun h3 sb3 => ?_⟩
  exact ⟨_, H', I2.turned (t' := s2.toks) (fun b o hb e => (sb3.2 b hb).trans e) f0 f1 f3 f4 f5, q⟩
theorem sw_trueS {elt : Expr} {gs : List Comprehension} {scope : Scope} {pos py : Pos} {y : Str} {l : Nat} {env : Env} (hk : env.scope.kind = .function) (hy : env.scope.names.lookup y = some .local) (hl : (py.line == pos.line) = true)
    (ha : (scope.names.any fun (n, k) => n == y && (k == .local || k == .cell)) = false) : swapsWith (.SetComp elt gs scope pos) (some (.Name y py)) l env = pure true := by
  have ky : env.kindOf y = some .local := hy
  have hb : env.blockKind = .function := by unfold Env.blockKind; rw [hk]; rfl
  unfold swapsWith
  simp only [hb, ky, ha, Expr.pos, hl]
  rfl
end
/-- a walk over turns, by the heap alone -/
theorem turns_w {J : It} {n : Nat} {G : Hp → Prop} {Y : Nat → Hp → V → Hp → Prop} (w : Walk J n G Y) {g : TG} {tt : TT} {vs : List Nat} {σw : L2.St} {bd : TBd} {Nx : Hp → Prop} {H0 : Hp} (Pv : Nat → Hp → Prop) (h0 : Pv 0 H0) (hG : ∀ i H, i ≤ n → Pv i H → G H)
    (hs : ∀ i x H H', i < n → Pv i H → Y i H x H' → g x σw H' fun σ2 H2 => wipe σ2 vs = σw ∧ tt σ2 H2 fun b H3 => if b = true then bd σ2 H3 (Pv (i + 1)) else Pv (i + 1) H3) (hd : ∀ H, Pv n H → Nx H) : tTurns J g tt vs σw bd Nx H0 := by
  refine ⟨fun i m H => m = n - i ∧ i ≤ n ∧ Pv i H, ⟨n, by simp, Nat.zero_le _, h0⟩, ?_⟩
  rintro i m H ⟨rfl, hi, p⟩
  have q := hG i H hi p
  by_cases hlt : i < n
  · exact .inr ⟨w.goes i H hlt q, Pv (i + 1), fun H' p' => ⟨n - (i + 1), by omega, rfl, hlt, p'⟩, fun x H' y => hs i x H H' hlt p (w.yields i H x H' hlt q y)⟩
  · have e : i = n := by omega
    subst e
    exact .inl ⟨w.stops H q, hd H p⟩
end SH
set_option Elab.async false
set_option linter.all false
set_option maxRecDepth 100000
set_option maxHeartbeats 4000000
/-! the ends of a house in their order, their commons -/
namespace SH
open PySem PySem.Spec PyProof.Rows L2
/-- an own loop over anything that is walked -/
theorem walk_gen {J : It} {n : Nat} {G : Hp → Prop} {Y : Nat → Hp → V → Hp → Prop} (w : Walk J n G Y) {Step : (Hp → Prop) → V → Hp → Prop} {H0 : Hp} {Qd : Hp → Prop} (Pv : Nat → Hp → Prop) (h0 : Pv 0 H0) (hG : ∀ i H, i ≤ n → Pv i H → G H)
    (hs : ∀ i x H H', i < n → Pv i H → Y i H x H' → Step (Pv (i + 1)) x H') (hd : ∀ H, Pv n H → Qd H) :
    ∃ W : Nat → Nat → Hp → Prop, (∃ m, W 0 m H0) ∧ ∀ i m H, W i m H →
      (J.stop i H ∧ Qd H) ∨ (J.go i H ∧ ∃ Nx : Hp → Prop, (∀ H', Nx H' → ∃ m', m' < m ∧ W (i + 1) m' H') ∧ ∀ x H', J.yld i H x H' → Step Nx x H') := by
  refine ⟨fun i m H => m = n - i ∧ i ≤ n ∧ Pv i H, ⟨n, by simp, Nat.zero_le _, h0⟩, ?_⟩
  rintro i m H ⟨rfl, hi, p⟩
  have q := hG i H hi p
  by_cases hlt : i < n
  · exact .inr ⟨w.goes i H hlt q, Pv (i + 1), fun H' p' => ⟨n - (i + 1), by omega, rfl, hlt, p'⟩, fun x H' y => hs i x H H' hlt p (w.yields i H x H' hlt q y)⟩
  · have e : i = n := by omega
    subst e
    exact .inl ⟨w.stops H q, hd H p⟩
/-! ### what is left of a text -/
def suf (z : Str) (s : Nat) : Str := cutS z (some (s : Int)) none
theorem suf_tl (z : Str) (s : Nat) : TL.tl (suf z s) = (TL.tl z).drop s := by
  show (z.cps.toList.drop (HT.sIx z.length 0 (some (s : Int)))).take (HT.sIx z.length z.length none - HT.sIx z.length 0 (some (s : Int))) = _
  rw [HT.sIx_nat, HT.sIx_none]
  have hl : z.cps.toList.length = z.length := rfl
  rw [List.take_of_length_le (by rw [List.length_drop, hl]; exact Nat.le_refl _)]
  rcases Nat.le_total s z.length with h | h
  · rw [Nat.min_eq_left h]
  · rw [Nat.min_eq_right h, List.drop_eq_nil_of_le (by omega)]
    exact (List.drop_eq_nil_of_le (by show z.cps.toList.length ≤ s; omega)).symm
theorem suf_len (z : Str) (s : Nat) : (suf z s).length = z.length - s := by
  have := congrArg List.length (suf_tl z s)
  rw [List.length_drop] at this
  exact this
theorem suf_let {z : Str} (h : IsLet z) (s : Nat) : IsLet (suf z s) := by
  show (TL.tl (suf z s)).all okc = true
  rw [suf_tl]
  exact List.all_eq_true.mpr fun c hc => List.all_eq_true.mp h c (List.mem_of_mem_drop hc)
/-! ### the ends -/
def endsOf (q : Int × Str) : List E3 := (List.range (q.2.length + 1)).map fun s => (suf q.2 s, q.1, (s : Int))
def ends3 (h : List (Int × Str)) : List E3 := h.flatMap endsOf
def ordE (h : List (Int × Str)) : List E3 := (ends3 h).mergeSort le3
theorem mem_endsOf {q : Int × Str} {e : E3} : e ∈ endsOf q ↔ ∃ s : Nat, s ≤ q.2.length ∧ e = (suf q.2 s, q.1, (s : Int)) := by
  unfold endsOf
  rw [List.mem_map]
  constructor
  · rintro ⟨s, hs, rfl⟩
    exact ⟨s, by have := List.mem_range.mp hs; omega, rfl⟩
  · rintro ⟨s, hs, rfl⟩
    exact ⟨s, List.mem_range.mpr (by omega), rfl⟩
theorem mem_ends3 {h : List (Int × Str)} {e : E3} : e ∈ ends3 h ↔ ∃ q ∈ h, ∃ s : Nat, s ≤ q.2.length ∧ e = (suf q.2 s, q.1, (s : Int)) := by
  unfold ends3
  rw [List.mem_flatMap]
  constructor
  · rintro ⟨q, hq, he⟩
    exact ⟨q, hq, mem_endsOf.mp he⟩
  · rintro ⟨q, hq, he⟩
    exact ⟨q, hq, mem_endsOf.mpr he⟩
theorem mem_ordE {h : List (Int × Str)} {e : E3} : e ∈ ordE h ↔ e ∈ ends3 h := (List.mergeSort_perm _ _).mem_iff
theorem endsOf_len (q : Int × Str) : (endsOf q).length = q.2.length + 1 := by
  unfold endsOf
  rw [List.length_map, List.length_range]
theorem ends3_len {m : Nat} : ∀ {h : List (Int × Str)}, (∀ q ∈ h, q.2.length ≤ m) → (ends3 h).length ≤ (m + 1) * h.length
  | [], _ => Nat.zero_le _
  | q :: r, a => by
    have e : ends3 (q :: r) = endsOf q ++ ends3 r := rfl
    rw [e, List.length_append, endsOf_len, List.length_cons, Nat.mul_add]
    have := a q (List.mem_cons_self ..)
    have := ends3_len fun x hx => a x (List.mem_cons_of_mem _ hx)
    omega
theorem ordE_len {m : Nat} {h : List (Int × Str)} (a : ∀ q ∈ h, q.2.length ≤ m) : (ordE h).length ≤ (m + 1) * h.length := by
  unfold ordE
  rw [List.length_mergeSort]
  exact ends3_len a
/-! ### commons -/
def comm : List Nat → List Nat → Nat
  | a :: x, b :: y => if a = b then comm x y + 1 else 0
  | _, _ => 0
theorem comm_le : ∀ x y : List Nat, comm x y ≤ x.length ∧ comm x y ≤ y.length
  | [], y => by unfold comm; simp
  | _ :: _, [] => by unfold comm; simp
  | a :: x, b :: y => by
    unfold comm
    have := comm_le x y
    split
    · simp only [List.length_cons]; omega
    · simp
/-- as many as are alike -/
theorem comm_at : ∀ (x y : List Nat) (i : Nat), i < comm x y → x[i]? = y[i]?
  | [], y, i, h => by simp [comm] at h
  | _ :: _, [], i, h => by simp [comm] at h
  | a :: x, b :: y, i, h => by
    unfold comm at h
    by_cases e : a = b
    · rw [if_pos e] at h
      cases i with
      | zero => simp [e]
      | succ i => simpa using comm_at x y i (by omega)
    · rw [if_neg e] at h
      omega
/-- the next ones are not -/
theorem comm_ne : ∀ (x y : List Nat) (c d : Nat), x[comm x y]? = some c → y[comm x y]? = some d → c ≠ d
  | [], y, c, d, h, _ => by simp [comm] at h
  | _ :: _, [], c, d, _, h => by simp [comm] at h
  | a :: x, b :: y, c, d, h, h2 => by
    unfold comm at h h2
    by_cases e : a = b
    · rw [if_pos e] at h h2
      exact comm_ne x y c d (by simpa using h) (by simpa using h2)
    · rw [if_neg e] at h h2
      simp at h h2
      rw [← h, ← h2]
      exact e
/-- so is the number told by these two -/
theorem comm_of {x y : List Nat} {n : Nat} (h1 : n ≤ x.length) (h2 : n ≤ y.length) (ha : ∀ i, i < n → x[i]? = y[i]?) (hn : n = x.length ∨ n = y.length ∨ x[n]? ≠ y[n]?) : comm x y = n := by
  have l := comm_le x y
  rcases Nat.lt_trichotomy (comm x y) n with h | h | h
  · exfalso
    have e1 : x[comm x y]? = some (x[comm x y]'(by omega)) := List.getElem?_eq_getElem (by omega)
    have e2 : y[comm x y]? = some (y[comm x y]'(by omega)) := List.getElem?_eq_getElem (by omega)
    have := ha _ h
    rw [e1, e2] at this
    exact comm_ne x y _ _ e1 e2 (Option.some.inj this)
  · exact h
  · exfalso
    rcases hn with e | e | e
    · omega
    · omega
    · exact e (comm_at x y n h)
def letsAt (E : List E3) (k : Nat) : List Nat := ((E[k]?).map fun e => TL.tl e.1).getD []
/-- the common of the k-th and the next -/
def cmAt (E : List E3) (k : Nat) : Int := (comm (letsAt E k) (letsAt E (k + 1)) : Nat)
def cmsE (E : List E3) : List Int := (List.range E.length).map fun k => if k = 0 then 0 else cmAt E (k - 1)
theorem cmsE_cons {E : List E3} {n : Nat} (h : E.length = n + 1) : cmsE E = 0 :: (List.range n).map (cmAt E) := by
  unfold cmsE
  rw [h, List.range_succ_eq_map, List.map_cons, List.map_map]
  rfl
theorem cmsE_len (E : List E3) : (cmsE E).length = E.length := by
  unfold cmsE
  rw [List.length_map, List.length_range]
theorem letsAt_eq {E : List E3} {k : Nat} {e : E3} (h : E[k]? = some e) : letsAt E k = TL.tl e.1 := by
  unfold letsAt
  rw [h]
  rfl
/-! ### places in the heap -/
abbrev QT := List (Addr × Int × Int)
def qrefs (R : QT) : List V := R.map fun q => V.ref q.1
def QAt (K : PySem.W.Frag) (H : Hp) (R : QT) : Prop := ∀ q ∈ R, SqT K H q.1 [.int q.2.1, .int q.2.2]
theorem QAt.same {K : PySem.W.Frag} {H H' : Hp} {R : QT} (e : Same H H') (h : QAt K H R) : QAt K H' R := fun q hq => same_tup e (h q hq)
theorem qrefs_len (R : QT) : (qrefs R).length = R.length := List.length_map ..
theorem qrefs_at {R : QT} {i : Nat} {x : V} (h : (qrefs R)[i]? = some x) : ∃ t, R[i]? = some t ∧ t ∈ R ∧ x = .ref t.1 := by
  unfold qrefs at h
  rw [List.getElem?_map] at h
  cases e : R[i]? with
  | none => rw [e] at h; cases h
  | some t =>
    rw [e] at h
    cases h
    exact ⟨t, rfl, List.mem_of_getElem? e, rfl⟩
def dP2 (q : Int × Int) : PyData := .tuple [.int q.1, .int q.2]
def dQ (l : List (Int × Int)) : PyData := .list (l.map dP2)
theorem dp_qs {K : PySem.W.Frag} {H : Hp} : ∀ (R : QT), QAt K H R → DpAll K H (qrefs R) ((R.map (·.2)).map dP2)
  | [], _ => .nil
  | q :: r, h => .cons (.tup (h q (List.mem_cons_self ..)) (.cons (.int _) (.cons (.int _) .nil))) (dp_qs r fun x m => h x (List.mem_cons_of_mem _ m))
theorem dp_q {K : PySem.W.Frag} {H : Hp} {a : Addr} {R : QT} (h : SqL K H a (qrefs R)) (hq : QAt K H R) : Dp K H (.ref a) (dQ (R.map (·.2))) := .lst h (dp_qs R hq)
theorem dQ_lay : ∀ (l : List (Int × Int)), PyData.canLayAll0 (l.map dP2) = true
  | [] => rfl
  | q :: r => by
    rw [List.map_cons, PyData.canLayAll0, dQ_lay r]
    simp [dP2, PyData.canLay0, PyData.canLayAll0]
theorem dQ_deep : ∀ (l : List (Int × Int)), PyData.depthAll (l.map dP2) ≤ 1
  | [] => Nat.zero_le _
  | q :: r => by
    rw [List.map_cons, PyData.depthAll]
    have := dQ_deep r
    have e : PyData.depth (dP2 q) = 1 := rfl
    rw [e]
    omega
theorem shaped_of {d : PyData} (h : d.canLay0 = true) (h2 : d.depth ≤ 64) : SeqAt.shaped d = true := by
  unfold SeqAt.shaped
  rw [h, decide_eq_true h2]
  rfl
theorem dQ_shaped (l : List (Int × Int)) : SeqAt.shaped (dQ l) = true := shaped_of (dQ_lay l) (by
  show PyData.depthAll (l.map dP2) + 1 ≤ 64
  have := dQ_deep l
  omega)
theorem dQ_refl (l : List (Int × Int)) : PyData.eqv (dQ l) (dQ l) = true := SeqAt.eqv_refl _ (show (dQ l).canLay0 = true from dQ_lay l)
/-! lists of numbers as data -/
def dI (l : List Int) : PyData := .list (l.map .int)
theorem dp_is {K : PySem.W.Frag} {H : Hp} : ∀ (l : List Int), DpAll K H (l.map V.int) (l.map PyData.int)
  | [] => .nil
  | _ :: r => .cons (.int _) (dp_is r)
theorem dp_i {K : PySem.W.Frag} {H : Hp} {a : Addr} {l : List Int} (h : SqL K H a (l.map V.int)) : Dp K H (.ref a) (dI l) := .lst h (dp_is l)
theorem dI_lay : ∀ (l : List Int), PyData.canLayAll0 (l.map PyData.int) = true
  | [] => rfl
  | q :: r => by
    rw [List.map_cons, PyData.canLayAll0, dI_lay r]
    simp [PyData.canLay0]
theorem dI_shaped (l : List Int) : SeqAt.shaped (dI l) = true := shaped_of (dI_lay l) (by
  show PyData.depthAll (l.map PyData.int) + 1 ≤ 64
  rw [PySem.W.depth_ints]
  decide)
theorem dI_refl (l : List Int) : PyData.eqv (dI l) (dI l) = true := SeqAt.eqv_refl _ (show (dI l).canLay0 = true from dI_lay l)
/-! ### triples in the heap, flat and nested -/
abbrev FT := List (Addr × E3)
def frefs (Z : FT) : List V := Z.map fun z => V.ref z.1
def FAt (H : Hp) (Z : FT) : Prop := ∀ z ∈ Z, H z.1 = some (.tup [.str z.2.1, .int z.2.2.1, .int z.2.2.2])
abbrev NT3 := List (Addr × Addr × E3)
def nrefs (Z : NT3) : List V := Z.map fun z => V.ref z.1
def NAt (H : Hp) (Z : NT3) : Prop := ∀ z ∈ Z, H z.1 = some (.tup [.str z.2.2.1, .ref z.2.1]) ∧ H z.2.1 = some (.tup [.int z.2.2.2.1, .int z.2.2.2.2])
theorem FAt.same {H H' : Hp} {Z : FT} (e : Same H H') (h : FAt H Z) : FAt H' Z := fun z m => e _ _ (h z m)
theorem NAt.same {H H' : Hp} {Z : NT3} (e : Same H H') (h : NAt H Z) : NAt H' Z := fun z m => ⟨e _ _ (h z m).1, e _ _ (h z m).2⟩
theorem FAt.snoc {H : Hp} {Z : FT} {z : Addr × E3} (h : FAt H Z) (hz : H z.1 = some (.tup [.str z.2.1, .int z.2.2.1, .int z.2.2.2])) : FAt H (Z ++ [z]) := fun y hy => by
  rcases List.mem_append.mp hy with m | m
  · exact h y m
  · rw [List.mem_singleton.mp m]; exact hz
theorem NAt.snoc {H : Hp} {Z : NT3} {z : Addr × Addr × E3} (h : NAt H Z) (hz : H z.1 = some (.tup [.str z.2.2.1, .ref z.2.1]) ∧ H z.2.1 = some (.tup [.int z.2.2.2.1, .int z.2.2.2.2])) : NAt H (Z ++ [z]) := fun y hy => by
  rcases List.mem_append.mp hy with m | m
  · exact h y m
  · rw [List.mem_singleton.mp m]; exact hz
/-- a list that is written lies apart from what the tuples are -/
theorem FAt.put {H : Hp} {Z : FT} {D : Addr} {l : List V} {o : HO} (h : FAt H Z) (hD : H D = some (.lst l)) : FAt (upd H D o) Z := fun z m => by
  have := h z m
  rw [upd_ne (fun e => by rw [e, hD] at this; cases this)]
  exact this
theorem NAt.put {H : Hp} {Z : NT3} {D : Addr} {l : List V} {o : HO} (h : NAt H Z) (hD : H D = some (.lst l)) : NAt (upd H D o) Z := fun z m => by
  have := h z m
  rw [upd_ne (fun e => by rw [e, hD] at this; cases this.1), upd_ne (fun e => by rw [e, hD] at this; cases this.2)]
  exact this
theorem QAt.put {K : PySem.W.Frag} {H : Hp} {R : QT} {D : Addr} {l : List V} {o : HO} (h : QAt K H R) (hD : H D = some (.lst l)) : QAt K (upd H D o) R := fun z m => but_tup (l := l) hD but_upd (h z m)
theorem sort_flat (Z : FT) : ((Z.map fun z => (V.ref z.1, z.2)).mergeSort (PySem.W.dataLe false fun z => eFlat z.2)).map (·.1) = frefs (Z.mergeSort fun p q => le3 p.2 q.2) := by
  rw [flat_le (β := V × E3) (fun z => z.2), ← List.map_mergeSort (l := Z) (f := fun z : Addr × E3 => (V.ref z.1, z.2)) (r := fun p q : Addr × E3 => le3 p.2 q.2) (s := fun p q : V × E3 => le3 p.2 q.2) (fun _ _ _ _ => rfl), List.map_map]
  rfl
theorem sort_nest (Z : NT3) : ((Z.map fun z => (V.ref z.1, z.2.2)).mergeSort (PySem.W.dataLe false fun z => eNest z.2)).map (·.1) = nrefs (Z.mergeSort fun p q => le3 p.2.2 q.2.2) := by
  rw [nest_le (β := V × E3) (fun z => z.2), ← List.map_mergeSort (l := Z) (f := fun z : Addr × Addr × E3 => (V.ref z.1, z.2.2)) (r := fun p q : Addr × Addr × E3 => le3 p.2.2 q.2.2) (s := fun p q : V × E3 => le3 p.2 q.2) (fun _ _ _ _ => rfl), List.map_map]
  rfl
theorem ends3_snoc (h : List (Int × Str)) (q : Int × Str) : ends3 (h ++ [q]) = ends3 h ++ endsOf q := by
  unfold ends3
  rw [List.flatMap_append]
  simp
theorem take_snoc {α : Type} {l : List α} {i : Nat} {x : α} (h : l[i]? = some x) : l.take (i + 1) = l.take i ++ [x] := by
  rw [List.take_add_one, h]
  rfl
theorem endsOf_at {q : Int × Str} {s : Nat} (h : s ≤ q.2.length) : (endsOf q)[s]? = some (suf q.2 s, q.1, (s : Int)) := by
  unfold endsOf
  rw [List.getElem?_map, List.getElem?_range (by omega)]
  rfl
/-- the order: a new list of new pairs -/
def spOrder (K : PySem.W.Frag) : Sp := fun vs H Q _ => ∃ (a : Addr) (L : PL), vs = [.ref a] ∧ HsAt K H a L ∧ L.length ≤ 500 ∧ (∀ q ∈ L, q.2.2.length ≤ 100) ∧
  ∀ (l : Addr) (R : QT) (H' : Hp), Same H H' → H l = none → H' l = some (.lst (qrefs R)) → QAt K H' R → R.map (·.2) = (ordE (L.map (·.2))).map (·.2) → Q (.ref l) H'
end SH
set_option Elab.async false
set_option linter.all false
set_option maxRecDepth 100000
set_option maxHeartbeats 4000000
/-! a house as a dict; slices of lists -/
namespace SH
open PySem PySem.Spec PyProof.Rows L2
namespace Dct
theorem valV_merge_out {k : Key} : ∀ (more acc : List (Key × V)), k ∉ more.map (·.1) → valV (mergeK acc more) k = valV acc k
  | [], _, _ => rfl
  | x :: r, acc, h => by
    rw [List.map_cons, List.mem_cons] at h
    show valV (mergeK (putK acc x.1 x.2) r) k = _
    rw [valV_merge_out r _ (fun z => h (.inr z)), valV_put, if_neg (fun z => h (.inl z))]
theorem valV_merge_in {k : Key} {v : V} : ∀ (more acc : List (Key × V)), (more.map (·.1)).Nodup → (k, v) ∈ more → valV (mergeK acc more) k = some v
  | x :: r, acc, nd, h => by
    rw [List.map_cons, List.nodup_cons] at nd
    show valV (mergeK (putK acc x.1 x.2) r) k = _
    rcases List.mem_cons.mp h with e | m
    · rw [← e] at nd ⊢
      rw [valV_merge_out r _ nd.1, valV_put, if_pos rfl]
    · exact valV_merge_in r _ nd.2 m
theorem take_drop_cut {z : Str} {a b : Nat} (h1 : a ≤ b) (h2 : b ≤ z.length) : TL.tl (cutS z (some (a : Int)) (some (b : Int))) = ((TL.tl z).take b).drop a := by
  show (z.cps.toList.drop (HT.sIx z.length 0 (some (a : Int)))).take (HT.sIx z.length z.length (some (b : Int)) - HT.sIx z.length 0 (some (a : Int))) = _
  rw [HT.sIx_nat, HT.sIx_nat, Nat.min_eq_left h2, Nat.min_eq_left (Nat.le_trans h1 h2), List.drop_take]
theorem paired_house {K : PySem.W.Frag} {H : Hp} : ∀ {L : PL}, PairsAt K H L → Paired (fun p (kv : Key × V) => SqT K H p [kV kv.1, kv.2]) (L.map (·.1)) (L.map fun q => ((Sum.inl q.2.1 : Key), V.str q.2.2))
  | [], _ => .nil
  | q :: r, h => .cons (h q (List.mem_cons_self ..)) (paired_house fun x m => h x (List.mem_cons_of_mem _ m))

theorem house_get {L : PL} (asc : ((L.map (·.2)).map (·.1)).Pairwise (· < ·)) {n : Int} {z : Str} (h : (n, z) ∈ L.map (·.2)) : valV (mergeK [] (L.map fun q => ((Sum.inl q.2.1 : Key), V.str q.2.2))) (.inl n) = some (.str z) := by
  obtain ⟨q, hq, e⟩ := List.mem_map.mp h
  have e1 : q.2.1 = n := congrArg Prod.fst e
  have e2 : q.2.2 = z := congrArg Prod.snd e
  subst e1 e2
  refine valV_merge_in _ _ ?_ (List.mem_map.mpr ⟨q, hq, rfl⟩)
  rw [List.map_map]
  rw [List.map_map, List.pairwise_map] at asc
  rw [List.Nodup, List.pairwise_map]
  exact asc.imp fun h e => by
    have h : _ < _ := h
    have := Sum.inl.inj e
    simp only [Function.comp] at h
    omega
theorem cut_from (xs : List V) (k : Nat) : cutV xs (some (k : Int)) none = xs.drop k := by
  unfold cutV
  rw [HT.sIx_nat, HT.sIx_none]
  rcases Nat.le_total k xs.length with h | h
  · rw [Nat.min_eq_left h, List.take_of_length_le (by rw [List.length_drop]; exact Nat.le_refl _)]
  · rw [Nat.min_eq_right h, Nat.sub_self, List.take_zero, List.drop_eq_nil_of_le h]
end Dct
end SH
set_option Elab.async false
set_option linter.all false
set_option maxRecDepth 100000
set_option maxHeartbeats 4000000
/-! the text with a number; an end told by its number and start -/
namespace SH
open PySem PySem.Spec PyProof.Rows L2
theorem refs_len (L : PL) : (refs L).length = L.length := List.length_map ..
def lk (n : Int) : List (Int × Str) → Option Str
  | [] => none
  | q :: r => if q.1 = n then some q.2 else lk n r
theorem lk_mem {n : Int} {z : Str} : ∀ {h : List (Int × Str)}, lk n h = some z → (n, z) ∈ h
  | q :: r, e => by
    unfold lk at e
    by_cases c : q.1 = n
    · rw [if_pos c] at e
      have e := Option.some.inj e
      obtain ⟨a, b⟩ := q
      subst c e
      exact List.mem_cons_self ..
    · rw [if_neg c] at e
      exact List.mem_cons_of_mem _ (lk_mem e)
theorem lk_none {n : Int} : ∀ {h : List (Int × Str)}, lk n h = none → n ∉ h.map (·.1)
  | [], _ => by simp
  | q :: r, e => by
    unfold lk at e
    by_cases c : q.1 = n
    · rw [if_pos c] at e
      cases e
    · rw [if_neg c] at e
      rw [List.map_cons, List.mem_cons, not_or]
      exact ⟨fun z => c z.symm, lk_none e⟩
theorem lk_of {n : Int} {z : Str} : ∀ {h : List (Int × Str)}, (h.map (·.1)).Pairwise (· < ·) → (n, z) ∈ h → lk n h = some z
  | q :: r, asc, m => by
    rw [List.map_cons, List.pairwise_cons] at asc
    unfold lk
    rcases List.mem_cons.mp m with e | m
    · rw [← e, if_pos rfl]
    · have := asc.1 n (List.mem_map.mpr ⟨_, m, rfl⟩)
      rw [if_neg (by omega)]
      exact lk_of asc.2 m
theorem lk_no {n : Int} {h : List (Int × Str)} (m : n ∉ h.map (·.1)) : lk n h = none := by
  cases e : lk n h with
  | none => rfl
  | some z => exact absurd (List.mem_map.mpr ⟨_, lk_mem e, rfl⟩) m
/-- dict(house) at a number -/
theorem lk_val {L : PL} (asc : ((L.map (·.2)).map (·.1)).Pairwise (· < ·)) (n : Int) : valV (mergeK [] (L.map fun q => ((Sum.inl q.2.1 : Key), V.str q.2.2))) (.inl n) = (lk n (L.map (·.2))).map V.str := by
  cases e : lk n (L.map (·.2)) with
  | some z => exact Dct.house_get asc (lk_mem e)
  | none =>
    rw [Dct.valV_merge_out _ _ (fun z => ?_)]
    · rfl
    · rw [List.map_map] at z
      obtain ⟨q, hq, e2⟩ := List.mem_map.mp z
      refine lk_none e ?_
      rw [List.map_map]
      exact List.mem_map.mpr ⟨q, hq, Sum.inl.inj e2⟩
/-- the letters of an end -/
def endS (h : List (Int × Str)) (n s : Int) : Option Str :=
  match lk n h with
  | none => none
  | some z => if 0 ≤ s ∧ s ≤ (z.length : Int) then some (suf z s.toNat) else none
theorem endS_some {h : List (Int × Str)} {n s : Int} {x : Str} (e : endS h n s = some x) : ∃ z, lk n h = some z ∧ 0 ≤ s ∧ s ≤ (z.length : Int) ∧ x = suf z s.toNat := by
  unfold endS at e
  cases c : lk n h with
  | none => rw [c] at e; cases e
  | some z =>
    rw [c] at e
    by_cases d : 0 ≤ s ∧ s ≤ (z.length : Int)
    · have e : (if 0 ≤ s ∧ s ≤ (z.length : Int) then some (suf z s.toNat) else none) = some x := e
      rw [if_pos d] at e
      exact ⟨z, rfl, d.1, d.2, (Option.some.inj e).symm⟩
    · have e : (if 0 ≤ s ∧ s ≤ (z.length : Int) then some (suf z s.toNat) else none) = some x := e
      rw [if_neg d] at e
      cases e
theorem endS_of {h : List (Int × Str)} {n s : Int} {z : Str} (e : lk n h = some z) (d : 0 ≤ s ∧ s ≤ (z.length : Int)) : endS h n s = some (suf z s.toNat) := by
  unfold endS
  rw [e]
  exact if_pos d
theorem endS_out {h : List (Int × Str)} {n s : Int} {z : Str} (e : lk n h = some z) (d : ¬ (0 ≤ s ∧ s ≤ (z.length : Int))) : endS h n s = none := by
  unfold endS
  rw [e]
  exact if_neg d
theorem endS_no {h : List (Int × Str)} {n s : Int} (e : lk n h = none) : endS h n s = none := by
  unfold endS
  rw [e]
/-- an error of the class at C with this number leaves -/
def Errs (E : XK) (H : Hp) (C : Addr) (n : Int) : Prop := ∀ (d : Addr) (H2 : Hp), Same H H2 → H d = none → H2 d = some (.xd [(("at" : Str), .int n)]) → E (.ref C) (some d) H2
theorem Errs.same {E : XK} {H H' : Hp} {C : Addr} {n : Int} (s : Same H H') (h : Errs E H C n) : Errs E H' C n := fun d H2 s2 nd e => h d H2 (s.trans s2) (s.free nd) e
end SH
set_option Elab.async false
set_option linter.all false
set_option maxRecDepth 100000
set_option maxHeartbeats 4000000
/-! ends by what they begin with; a while with its own invariant -/
namespace SH
open PySem PySem.Spec PyProof.Rows L2
theorem while_i {c : TT} {tb : TS} {D : Ends} {σ : L2.St} {H : Hp} (W : Nat → L2.St → Hp → Prop) {m : Nat} (h0 : W m σ H)
    (hs : ∀ m σ H, W m σ H → c σ H fun b H1 => if b = true then tb { D with nx := fun σ' H' => ∃ m', m' < m ∧ W m' σ' H', ct := fun σ' H' => ∃ m', m' < m ∧ W m' σ' H', bk := D.nx } σ H1 else D.nx σ H1)
    (mono : ∀ σ H Q Q', (∀ b H1, Q b H1 → Q' b H1) → c σ H Q → c σ H Q') : tWhile c tb D σ H := by
  refine ⟨W, ⟨m, h0⟩, fun m σ H w => mono σ H _ _ (fun b H1 q => ?_) (hs m σ H w)⟩
  cases b with
  | true => exact ⟨_, fun σ' H' x => x, q⟩
  | false => exact q
theorem cut_mid {z : Str} {s n : Nat} (hs : s ≤ z.length) : TL.tl (cutS z (some (s : Int)) (some ((s : Int) + (n : Int)))) = ((TL.tl z).drop s).take n := by
  have e : ((s : Int) + (n : Int)) = ((s + n : Nat) : Int) := by omega
  rw [e]
  show (z.cps.toList.drop (HT.sIx z.length 0 (some (s : Int)))).take (HT.sIx z.length z.length (some ((s + n : Nat) : Int)) - HT.sIx z.length 0 (some (s : Int))) = _
  rw [HT.sIx_nat, HT.sIx_nat, Nat.min_eq_left hs]
  have hl : z.cps.toList.length = z.length := rfl
  rcases Nat.le_total (s + n) z.length with h | h
  · rw [Nat.min_eq_left h, Nat.add_sub_cancel_left]
  · rw [Nat.min_eq_right h, List.take_of_length_le (by rw [List.length_drop, hl]; exact Nat.le_refl _)]
    exact (List.take_of_length_le (by rw [List.length_drop]; show z.length - s ≤ n; omega)).symm
/-! ### the order of lists of signs -/
theorem nl_take : ∀ (n : Nat) (x y : List Nat), ¬ y < x → ¬ y.take n < x.take n
  | 0, _, _, _ => by simp
  | n + 1, [], y, _ => by simp
  | n + 1, a :: x, [], h => absurd (List.Lex.nil : ([] : List Nat) < a :: x) h
  | n + 1, a :: x, b :: y, h => by
    rw [List.take_succ_cons, List.take_succ_cons]
    intro z
    rw [List.cons_lt_cons_iff] at z h
    rcases z with z | ⟨e, z⟩
    · exact h (.inl z)
    · exact nl_take n x y (fun q => h (.inr ⟨e, q⟩)) z
/-- cut to a word's length it is less just where it is -/
theorem take_lt : ∀ (w x : List Nat), x.take w.length < w ↔ x < w
  | [], x => by simp
  | b :: w, [] => by simp
  | b :: w, a :: x => by
    rw [List.length_cons, List.take_succ_cons, List.cons_lt_cons_iff, List.cons_lt_cons_iff, take_lt w x]
theorem take_eq_not_lt {w x : List Nat} (h : x.take w.length = w) : ¬ x < w := fun z => by
  have := (take_lt w x).mpr z
  rw [h] at this
  exact List.lt_irrefl _ this
theorem le3_letters {p q : E3} (h : le3 p q = true) : ¬ TL.tl q.1 < TL.tl p.1 := fun z => by
  unfold le3 at h
  simp only [Bool.not_eq_true', decide_eq_false_iff_not] at h
  exact h (.inl z)
/-- less than all that begin with the word, or beginning with it -/
def prW (w : Str) (b : Bool) (e : E3) : Bool := decide (TL.tl e.1 < TL.tl w) || (b && decide ((TL.tl e.1).take w.length = TL.tl w))
theorem prW_mono {w : Str} {b : Bool} {p q : E3} (h : le3 p q = true) (hq : prW w b q = true) : prW w b p = true := by
  unfold prW at *
  have n := le3_letters h
  have nt := nl_take w.length _ _ n
  rw [Bool.or_eq_true, decide_eq_true_eq] at hq ⊢
  rcases hq with hq | hq
  · refine .inl ?_
    rcases List.le_iff_lt_or_eq.mp (List.not_lt.mp n) with c | c
    · exact List.lt_trans c hq
    · rw [c]; exact hq
  · rw [Bool.and_eq_true, decide_eq_true_eq] at hq
    obtain ⟨rfl, e⟩ := hq
    rw [e] at nt
    rcases List.le_iff_lt_or_eq.mp (List.not_lt.mp nt) with c | c
    · exact .inl ((take_lt _ _).mp c)
    · refine .inr ?_
      rw [Bool.true_and, decide_eq_true_eq]
      exact c
theorem filter_cut {α : Type} {E : List α} {p : α → Bool} {n : Nat} (h1 : ∀ (i : Nat) (h : i < E.length), i < n → p E[i] = true) (h2 : ∀ (i : Nat) (h : i < E.length), n ≤ i → p E[i] = false) : E.filter p = E.take n := by
  conv => lhs; rw [← List.take_append_drop n E]
  rw [List.filter_append]
  have a : (E.take n).filter p = E.take n := List.filter_eq_self.mpr fun x hx => by
    obtain ⟨i, hi, rfl⟩ := List.getElem_of_mem hx
    rw [List.length_take] at hi
    rw [List.getElem_take]
    exact h1 i (by omega) (by omega)
  have b : (E.drop n).filter p = [] := List.filter_eq_nil_iff.mpr fun x hx => by
    obtain ⟨i, hi, rfl⟩ := List.getElem_of_mem hx
    rw [List.length_drop] at hi
    rw [List.getElem_drop, h2 (n + i) (by omega) (by omega)]
    exact Bool.false_ne_true
  rw [a, b, List.append_nil]
theorem filter_or_len {α : Type} {p q : α → Bool} : ∀ {E : List α}, (∀ x ∈ E, ¬ (p x = true ∧ q x = true)) → (E.filter fun x => p x || q x).length = (E.filter p).length + (E.filter q).length
  | [], _ => rfl
  | x :: E, h => by
    have ih := filter_or_len (p := p) (q := q) (E := E) fun y hy => h y (List.mem_cons_of_mem _ hy)
    have hx := h x (List.mem_cons_self ..)
    cases a : p x <;> cases b : q x
    · rw [List.filter_cons_of_neg (by rw [a, b]; decide), List.filter_cons_of_neg (by rw [a]; decide), List.filter_cons_of_neg (by rw [b]; decide), ih]
    · rw [List.filter_cons_of_pos (by rw [a, b]; decide), List.filter_cons_of_neg (by rw [a]; decide), List.filter_cons_of_pos (by rw [b]), List.length_cons, List.length_cons, ih]
      omega
    · rw [List.filter_cons_of_pos (by rw [a, b]; decide), List.filter_cons_of_pos (by rw [a]), List.filter_cons_of_neg (by rw [b]; decide), List.length_cons, List.length_cons, ih]
      omega
    · exact absurd ⟨a, b⟩ hx
/-- the range of a word: from this index .. -/
def rFirst (w : Str) (E : List E3) : Nat := (E.filter fun e => decide (TL.tl e.1 < TL.tl w)).length
/-- .. so many -/
def rMany (w : Str) (E : List E3) : Nat := (E.filter fun e => decide ((TL.tl e.1).take w.length = TL.tl w)).length
theorem prW_f (w : Str) (E : List E3) : (E.filter (prW w false)).length = rFirst w E := by
  unfold rFirst
  congr 2
  funext e
  unfold prW
  simp
theorem prW_t (w : Str) (E : List E3) : (E.filter (prW w true)).length = rFirst w E + rMany w E := by
  unfold rFirst rMany
  rw [← filter_or_len (E := E) fun e _ h => ?_]
  · rfl
  · rw [decide_eq_true_eq, decide_eq_true_eq] at h
    exact take_eq_not_lt h.2 h.1
theorem ordE_pw (h : List (Int × Str)) : (ordE h).Pairwise (fun p q => le3 p q = true) := sort3_pw _
theorem pw_at {α : Type} {r : α → α → Prop} {E : List α} (h : E.Pairwise r) (hr : ∀ x, r x x) {i j : Nat} (hi : i < E.length) (hj : j < E.length) (l : i ≤ j) : r E[i] E[j] := by
  rcases Nat.lt_or_ge i j with c | c
  · exact List.pairwise_iff_getElem.mp h i j hi hj c
  · have : i = j := by omega
    subst this
    exact hr _
theorem le3_refl (p : E3) : le3 p p = true := by
  unfold le3
  rw [decide_eq_false (lex3_irrefl p)]
  rfl
end SH
set_option Elab.async false
set_option linter.all false
set_option maxRecDepth 100000
set_option maxHeartbeats 4000000
/-! tuples of data -/
namespace SH
open PySem PySem.Spec PyProof.Rows L2
def Okd (d : PyData) : Prop := d.canLay0 = true ∧ d.depth ≤ 60
theorem okd_int (n : Int) : Okd (.int n) := ⟨rfl, Nat.zero_le _⟩
theorem okd_str {z : Str} (h : PyData.strOk z = true) : Okd (.str z) := ⟨h, Nat.zero_le _⟩
theorem okd_non : Okd .none := ⟨rfl, Nat.zero_le _⟩
theorem okd_bool (b : Bool) : Okd (.bool b) := ⟨rfl, Nat.zero_le _⟩
theorem okd_H {h : List (Int × Str)} (a : LetAll h) : Okd (dH h) := ⟨dH_lay a, dH_depth h⟩
theorem okd_Q (l : List (Int × Int)) : Okd (dQ l) := ⟨dQ_lay l, by show PyData.depthAll (l.map dP2) + 1 ≤ 60; have := dQ_deep l; omega⟩
theorem okd_I (l : List Int) : Okd (dI l) := ⟨dI_lay l, by show PyData.depthAll (l.map PyData.int) + 1 ≤ 60; rw [PySem.W.depth_ints]; decide⟩
theorem okd_P2 (q : Int × Int) : Okd (dP2 q) := ⟨rfl, by show 1 ≤ 60; decide⟩
/-- data are equal to themselves -/
theorem okd_sh {d : PyData} (h : Okd d) : SeqAt.shaped d = true ∧ PyData.eqv d d = true := ⟨shaped_of h.1 (by have := h.2; omega), SeqAt.eqv_refl _ h.1⟩
theorem dp_p2 {K : PySem.W.Frag} {H : Hp} {t : Addr} {n m : Int} (h : H t = some (.tup [.int n, .int m])) : Dp K H (.ref t) (dP2 (n, m)) := .tup (.inl (.inl h)) (.cons (.int _) (.cons (.int _) .nil))
theorem lay_all : ∀ {ds : List PyData}, (∀ d ∈ ds, d.canLay0 = true) → PyData.canLayAll0 ds = true
  | [], _ => rfl
  | d :: r, h => by
    rw [PyData.canLayAll0, h d (List.mem_cons_self ..), lay_all fun x m => h x (List.mem_cons_of_mem _ m)]
    rfl
theorem deep_all {n : Nat} : ∀ {ds : List PyData}, (∀ d ∈ ds, d.depth ≤ n) → PyData.depthAll ds ≤ n
  | [], _ => Nat.zero_le _
  | d :: r, h => by
    rw [PyData.depthAll]
    have := h d (List.mem_cons_self ..)
    have := deep_all fun x m => h x (List.mem_cons_of_mem _ m)
    omega
theorem okd_tup {ds : List PyData} (h : ∀ d ∈ ds, d.canLay0 = true) (h2 : ∀ d ∈ ds, d.depth ≤ 59) : Okd (.tuple ds) := ⟨lay_all h, by
  show PyData.depthAll ds + 1 ≤ 60
  have := deep_all h2
  omega⟩
theorem okd_list {ds : List PyData} (h : ∀ d ∈ ds, d.canLay0 = true) (h2 : ∀ d ∈ ds, d.depth ≤ 59) : Okd (.list ds) := ⟨lay_all h, by
  show PyData.depthAll ds + 1 ≤ 60
  have := deep_all h2
  omega⟩
theorem dH_d (h : List (Int × Str)) : (dH h).depth ≤ 2 := by
  show PyData.depthAll (h.map dPair) + 1 ≤ 2
  have := dH_deep h
  omega
theorem dQ_d (l : List (Int × Int)) : (dQ l).depth ≤ 2 := by
  show PyData.depthAll (l.map dP2) + 1 ≤ 2
  have := dQ_deep l
  omega
theorem dI_d (l : List Int) : (dI l).depth ≤ 1 := by
  show PyData.depthAll (l.map PyData.int) + 1 ≤ 1
  rw [PySem.W.depth_ints]
  decide
/-- a tuple of a house and its order -/
theorem okd_HQ {h : List (Int × Str)} (a : LetAll h) (l : List (Int × Int)) : Okd (.tuple [dH h, dQ l]) := okd_tup (fun d m => by
  simp only [List.mem_cons, List.not_mem_nil, or_false] at m
  rcases m with rfl | rfl
  · exact dH_lay a
  · exact dQ_lay l) fun d m => by
  simp only [List.mem_cons, List.not_mem_nil, or_false] at m
  rcases m with rfl | rfl
  · exact Nat.le_trans (dH_d h) (by decide)
  · exact Nat.le_trans (dQ_d l) (by decide)
theorem okd_HQI {h : List (Int × Str)} (a : LetAll h) (l : List (Int × Int)) (c : List Int) : Okd (.tuple [dH h, dQ l, dI c]) := okd_tup (fun d m => by
  simp only [List.mem_cons, List.not_mem_nil, or_false] at m
  rcases m with rfl | rfl | rfl
  · exact dH_lay a
  · exact dQ_lay l
  · exact dI_lay c) fun d m => by
  simp only [List.mem_cons, List.not_mem_nil, or_false] at m
  rcases m with rfl | rfl | rfl
  · exact Nat.le_trans (dH_d h) (by decide)
  · exact Nat.le_trans (dQ_d l) (by decide)
  · exact Nat.le_trans (dI_d c) (by decide)
end SH
set_option Elab.async false
set_option linter.all false
set_option maxRecDepth 100000
set_option maxHeartbeats 4000000
/-! the places of a word; pairs sorted -/
namespace SH
open PySem PySem.Spec PyProof.Rows L2
def e2 (q : Int × Int) : E3 := ("", q)
theorem p2_le {β : Type} (f : β → Int × Int) : PySem.W.dataLe false (fun b => dP2 (f b)) = fun p q => le3 (e2 (f p)) (e2 (f q)) := by
  funext p q
  show (!PySem.W.dataLt (dP2 (f q)) (dP2 (f p))) = _
  unfold dP2
  rw [PySem.W.dataLt_ii]
  unfold le3 lex3 e2
  congr 1
  refine decide_eq_decide.mpr ⟨fun h => .inr ⟨rfl, h⟩, fun h => h.elim (fun h => absurd h (List.lt_irrefl _)) fun h => h.2⟩
theorem sort_q (R : QT) : ((R.map fun z => (V.ref z.1, z.2)).mergeSort (PySem.W.dataLe false fun z => dP2 z.2)).map (·.1) = qrefs (R.mergeSort fun p q => le3 (e2 p.2) (e2 q.2)) := by
  rw [p2_le (β := V × Int × Int) (fun z => z.2), ← List.map_mergeSort (l := R) (f := fun z : Addr × Int × Int => (V.ref z.1, z.2)) (r := fun p q : Addr × Int × Int => le3 (e2 p.2) (e2 q.2)) (s := fun p q : V × Int × Int => le3 (e2 p.2) (e2 q.2)) (fun _ _ _ _ => rfl), List.map_map]
  rfl
theorem p2_alike {β : Type} (f : β → Int × Int) (bs : List β) : PySem.W.AllAlike (bs.map fun b => dP2 (f b)) := PySem.W.AllAlike.of fun b b' => by simp [dP2, PySem.W.alike, PySem.W.alikeAll]
theorem p2_able {β : Type} (f : β → Int × Int) (bs : List β) : PySem.W.Sortable (bs.map fun b => dP2 (f b)) := PySem.W.Sortable.tuples fun b => ⟨_, _, rfl⟩
theorem p2_deep (p : Int × Int) : (dP2 p).depth ≤ 60 := by
  show max 0 (max 0 0) + 1 ≤ 60
  decide
/-- pairs ascending -/
def Asc2 (l : List (Int × Int)) : Prop := (l.map e2).Pairwise (fun p q => le3 p q = true)
theorem sort_q_is {R : QT} {l : List (Int × Int)} (hp : (R.map (·.2)).Perm l) (ha : Asc2 l) : (R.mergeSort fun p q => le3 (e2 p.2) (e2 q.2)).map (·.2) = l := by
  have h1 : ((R.mergeSort fun p q => le3 (e2 p.2) (e2 q.2)).map fun z => e2 z.2) = l.map e2 := by
    refine sorted3_uniq (((List.mergeSort_perm _ _).map _).trans ?_) ?_ ha
    · have := hp.map e2
      rw [List.map_map] at this
      exact this
    · rw [List.pairwise_map]
      exact List.pairwise_mergeSort (le := fun p q : Addr × Int × Int => le3 (e2 p.2) (e2 q.2)) (fun p q r => le3_tr (e2 p.2) (e2 q.2) (e2 r.2)) (fun p q => le3_tot (e2 p.2) (e2 q.2)) R
  have h2 := congrArg (List.map (fun e : E3 => e.2)) h1
  rw [List.map_map, List.map_map] at h2
  have i1 : ((fun e : E3 => e.2) ∘ fun z : Addr × Int × Int => e2 z.2) = fun z => z.2 := rfl
  have i2 : ((fun e : E3 => e.2) ∘ e2) = id := rfl
  rw [i1, i2, List.map_id] at h2
  exact h2
/-! ### where a word stands -/
def standsP (w : Str) (z : Str) (s : Nat) : Bool := decide (((TL.tl z).drop s).take w.length = TL.tl w)
def plcOf (w : Str) (q : Int × Str) : List (Int × Int) := ((List.range (q.2.length + 1)).filter (standsP w q.2)).map fun s : Nat => (q.1, (s : Int))
def plc (h : List (Int × Str)) (w : Str) : List (Int × Int) := h.flatMap (plcOf w)
theorem stands_le {w z : Str} {s : Nat} (h : standsP w z s = true) (hs : s ≤ z.length) : s + w.length ≤ z.length := by
  have e := congrArg List.length (of_decide_eq_true h)
  rw [List.length_take, List.length_drop] at e
  have e1 : (TL.tl z).length = z.length := rfl
  have e2 : (TL.tl w).length = w.length := rfl
  omega
theorem range_cut {n k : Nat} {p : Nat → Bool} (h : ∀ s, s ≤ n → p s = true → s + k ≤ n) : (List.range (n + 1)).filter p = (List.range (n + 1 - k)).filter p := by
  rcases Nat.le_total k (n + 1) with c | c
  · have e : n + 1 = (n + 1 - k) + k := by omega
    conv => lhs; rw [e, List.range_add, List.filter_append]
    have : ((List.range k).map (fun x => n + 1 - k + x)).filter p = [] := List.filter_eq_nil_iff.mpr fun x hx hp => by
      obtain ⟨y, hy, rfl⟩ := List.mem_map.mp hx
      have := List.mem_range.mp hy
      have := h _ (by omega) hp
      omega
    rw [this, List.append_nil]
  · rw [show n + 1 - k = 0 by omega]
    show _ = []
    refine List.filter_eq_nil_iff.mpr fun x hx hp => ?_
    have := List.mem_range.mp hx
    have := h x (by omega) hp
    omega
theorem plcOf_cut (w : Str) (q : Int × Str) : plcOf w q = ((List.range (q.2.length + 1 - w.length)).filter (standsP w q.2)).map fun s : Nat => (q.1, (s : Int)) := by
  unfold plcOf
  rw [range_cut fun s hs hp => stands_le hp hs]
theorem plc_snoc (h : List (Int × Str)) (q : Int × Str) (w : Str) : plc (h ++ [q]) w = plc h w ++ plcOf w q := by
  unfold plc
  rw [List.flatMap_append]
  simp
/-- an end begins with the word -/
def begP (w : Str) (e : E3) : Bool := decide ((TL.tl e.1).take w.length = TL.tl w)
theorem plc_ends (w : Str) : ∀ (h : List (Int × Str)), ((ends3 h).filter (begP w)).map (·.2) = plc h w
  | [] => rfl
  | q :: r => by
    have e : ends3 (q :: r) = endsOf q ++ ends3 r := rfl
    have e2 : plc (q :: r) w = plcOf w q ++ plc r w := rfl
    rw [e, e2, List.filter_append, List.map_append, plc_ends w r]
    congr 1
    unfold endsOf plcOf
    rw [List.filter_map, List.map_map]
    have : (begP w ∘ fun s : Nat => (suf q.2 s, q.1, (s : Int))) = standsP w q.2 := by
      funext s
      show decide ((TL.tl (suf q.2 s)).take w.length = TL.tl w) = decide _
      rw [suf_tl]
    rw [this]
    rfl
theorem plcOf_asc (w : Str) (q : Int × Str) : ((plcOf w q).map e2).Pairwise (fun a b => le3 a b = true) := by
  unfold plcOf
  rw [List.map_map, List.pairwise_map]
  refine (List.Pairwise.filter _ (List.pairwise_lt_range (n := q.2.length + 1))).imp fun {a b} l => ?_
  unfold le3
  simp only [Bool.not_eq_true', decide_eq_false_iff_not]
  rintro (z | ⟨_, z | ⟨_, z⟩⟩)
  · exact List.lt_irrefl _ z
  · have : q.1 < q.1 := z
    omega
  · have : (b : Int) < (a : Int) := z
    omega
theorem mem_plcOf {w : Str} {q : Int × Str} {x : Int × Int} (h : x ∈ plcOf w q) : x.1 = q.1 ∧ ∃ s : Nat, x.2 = s ∧ s ≤ q.2.length ∧ standsP w q.2 s = true := by
  unfold plcOf at h
  obtain ⟨s, hs, rfl⟩ := List.mem_map.mp h
  obtain ⟨h1, h2⟩ := List.mem_filter.mp hs
  exact ⟨rfl, s, rfl, by have := List.mem_range.mp h1; omega, h2⟩
theorem plc_asc (w : Str) : ∀ {h : List (Int × Str)}, (h.map (·.1)).Pairwise (· < ·) → Asc2 (plc h w)
  | [], _ => List.Pairwise.nil
  | q :: r, asc => by
    rw [List.map_cons, List.pairwise_cons] at asc
    have ih := plc_asc w asc.2
    show ((plcOf w q ++ plc r w).map e2).Pairwise _
    rw [List.map_append, List.pairwise_append]
    refine ⟨plcOf_asc w q, ih, fun a ha b hb => ?_⟩
    obtain ⟨x, hx, rfl⟩ := List.mem_map.mp ha
    obtain ⟨y, hy, rfl⟩ := List.mem_map.mp hb
    obtain ⟨t, ht, hy⟩ := List.mem_flatMap.mp hy
    have l := asc.1 t.1 (List.mem_map_of_mem ht)
    have l1 := (mem_plcOf hx).1
    have l2 := (mem_plcOf hy).1
    unfold le3
    simp only [Bool.not_eq_true', decide_eq_false_iff_not]
    rintro (z | ⟨_, z | ⟨z, _⟩⟩)
    · exact List.lt_irrefl _ z
    · have : y.1 < x.1 := z
      omega
    · have : y.1 = x.1 := z
      omega
/-! ### the part of the order in a word's range -/
theorem anti_filter {α : Type} {p : α → Bool} : ∀ {E : List α}, E.Pairwise (fun a b => p b = true → p a = true) → E = E.filter p ++ E.filter fun x => !p x
  | [], _ => rfl
  | x :: E, h => by
    rw [List.pairwise_cons] at h
    cases c : p x with
    | true =>
      rw [List.filter_cons_of_pos c, List.filter_cons_of_neg (by rw [c]; decide), List.cons_append, ← anti_filter h.2]
    | false =>
      have no : ∀ y ∈ x :: E, p y = false := fun y hy => by
        rcases List.mem_cons.mp hy with e | m
        · rw [e]; exact c
        · cases d : p y with
          | false => rfl
          | true => rw [h.1 y m d] at c; cases c
      rw [List.filter_eq_nil_iff.mpr fun y hy => by rw [no y hy]; decide, List.nil_append]
      exact (List.filter_eq_self.mpr fun y hy => by rw [no y hy]; rfl).symm
theorem filter_take {α : Type} {p : α → Bool} {E : List α} (h : E.Pairwise (fun a b => p b = true → p a = true)) : E.take (E.filter p).length = E.filter p ∧ E.drop (E.filter p).length = E.filter fun x => !p x := by
  have e := anti_filter h
  generalize E.filter p = A at e ⊢
  generalize (E.filter fun x => !p x) = B at e ⊢
  subst e
  exact ⟨List.take_left, List.drop_left⟩
theorem rng_cut {E : List E3} (pw : E.Pairwise (fun p q => le3 p q = true)) (w : Str) : (E.drop (rFirst w E)).take (rMany w E) = E.filter (begP w) ∧ E.take (rFirst w E) = E.filter (prW w false) ∧ (E.drop (rFirst w E + rMany w E)) = E.filter (fun e => !prW w true e) := by
  have a1 := filter_take (p := prW w false) (pw.imp fun {a b} h => prW_mono h)
  rw [prW_f] at a1
  have a2 := filter_take (p := prW w true) (pw.imp fun {a b} h => prW_mono h)
  rw [prW_t] at a2
  have m : ((E.filter fun x => !prW w false x).filter (prW w true)) = E.filter (begP w) := by
    rw [List.filter_filter]
    congr 1
    funext e
    unfold prW begP
    cases c : decide ((TL.tl e.1).take w.length = TL.tl w) with
    | true =>
      rw [decide_eq_false (take_eq_not_lt (of_decide_eq_true c))]
      rfl
    | false =>
      cases decide (TL.tl e.1 < TL.tl w) <;> rfl
  have a3 := filter_take (p := prW w true) (E := E.filter fun x => !prW w false x) ((pw.filter _).imp fun {a b} h => prW_mono h)
  rw [m] at a3
  have l : (E.filter (begP w)).length = rMany w E := rfl
  rw [l] at a3
  refine ⟨?_, a1.1, a2.2⟩
  rw [a1.2]
  exact a3.1
theorem comm_take : ∀ (n : Nat) (x y : List Nat), n ≤ comm x y → x.take n = y.take n
  | 0, _, _, _ => by simp
  | n + 1, [], y, h => by simp [comm] at h
  | n + 1, _ :: _, [], h => by simp [comm] at h
  | n + 1, a :: x, b :: y, h => by
    unfold comm at h
    by_cases e : a = b
    · rw [if_pos e] at h
      rw [List.take_succ_cons, List.take_succ_cons, e, comm_take n x y (by omega)]
    · rw [if_neg e] at h
      omega
theorem take_comm : ∀ (n : Nat) (x y : List Nat), n ≤ x.length → n ≤ y.length → x.take n = y.take n → n ≤ comm x y
  | 0, _, _, _, _, _ => Nat.zero_le _
  | n + 1, [], y, h, _, _ => by simp at h
  | n + 1, _ :: _, [], _, h, _ => by simp at h
  | n + 1, a :: x, b :: y, h1, h2, e => by
    rw [List.take_succ_cons, List.take_succ_cons] at e
    unfold comm
    rw [if_pos (List.cons.inj e).1]
    have := take_comm n x y (by simpa using h1) (by simpa using h2) (List.cons.inj e).2
    omega
/-- all places of the word: a new list -/
def spPlaces (K : PySem.W.Frag) : Sp := fun vs H Q _ => ∃ (a : Addr) (L : PL) (wd : Str), vs = [.ref a, .str wd] ∧ HsAt K H a L ∧ L.length ≤ 500 ∧ (∀ q ∈ L, q.2.2.length ≤ 100) ∧ wd.length ≤ 1000 ∧
  ∀ (l : Addr) (R : QT) (H' : Hp), Same H H' → H l = none → H' l = some (.lst (qrefs R)) → QAt K H' R → R.map (·.2) = plc (L.map (·.2)) wd → Q (.ref l) H'
theorem plcOf_len (w : Str) (q : Int × Str) : (plcOf w q).length ≤ q.2.length + 1 := by
  unfold plcOf
  rw [List.length_map]
  refine Nat.le_trans (List.length_filter_le _ _) ?_
  rw [List.length_range]
  exact Nat.le_refl _
theorem plc_len {m : Nat} {w : Str} : ∀ {h : List (Int × Str)}, (∀ q ∈ h, q.2.length ≤ m) → (plc h w).length ≤ (m + 1) * h.length
  | [], _ => Nat.zero_le _
  | q :: r, a => by
    have e : plc (q :: r) w = plcOf w q ++ plc r w := rfl
    rw [e, List.length_append, List.length_cons, Nat.mul_add]
    have := a q (List.mem_cons_self ..)
    have := plcOf_len w q
    have := plc_len (w := w) fun x hx => a x (List.mem_cons_of_mem _ hx)
    omega
end SH
set_option Elab.async false
set_option linter.all false
set_option maxRecDepth 100000
set_option maxHeartbeats 4000000
/-! the different stretches, counted by the order and its commons; the least of the commons -/
namespace SH
open PySem PySem.Spec PyProof.Rows L2
/-! ### tables whose keys are what has been put -/
section
variable {κ : Type} [DecidableEq κ]
theorem keys_putK (kvs : List (κ × V)) (k : κ) (v : V) : (putK kvs k v).map (·.1) = if k ∈ kvs.map (·.1) then kvs.map (·.1) else kvs.map (·.1) ++ [k] := by
  unfold putK
  by_cases h : k ∈ kvs.map (·.1)
  · rw [if_pos h, if_pos]
    · rw [List.map_map]
      refine List.map_congr_left fun x _ => ?_
      show (if x.1 = k then (x.1, v) else x).1 = x.1
      split <;> rfl
    · obtain ⟨x, hx, e⟩ := List.mem_map.mp h
      exact List.any_eq_true.mpr ⟨x, hx, decide_eq_true e⟩
  · rw [if_neg h, if_neg, List.map_append]
    · rfl
    · intro z
      obtain ⟨x, hx, e⟩ := List.any_eq_true.mp z
      exact h (List.mem_map.mpr ⟨x, hx, of_decide_eq_true e⟩)
theorem keys_put_nd {kvs : List (κ × V)} {k : κ} {v : V} (h : (kvs.map (·.1)).Nodup) : ((putK kvs k v).map (·.1)).Nodup := by
  rw [keys_putK]
  split
  · exact h
  · rename_i n
    rw [List.nodup_append]
    exact ⟨h, by simp, fun a ha b hb e => by rw [List.mem_singleton.mp hb] at e; exact n (e ▸ ha)⟩
theorem keys_put_mem {kvs : List (κ × V)} {k j : κ} {v : V} : j ∈ (putK kvs k v).map (·.1) ↔ j ∈ kvs.map (·.1) ∨ j = k := by
  rw [keys_putK]
  split
  · rename_i h
    exact ⟨.inl, fun z => z.elim id fun e => e ▸ h⟩
  · rw [List.mem_append, List.mem_singleton]
end
theorem nd_len {α : Type} [DecidableEq α] {l m : List α} (h1 : l.Nodup) (h2 : m.Nodup) (h : ∀ x, x ∈ l ↔ x ∈ m) : l.length = m.length :=
  Nat.le_antisymm (List.Nodup.length_le_of_subset h1 fun x hx => (h x).mp hx) (List.Nodup.length_le_of_subset h2 fun x hx => (h x).mpr hx)
/-! ### beginnings -/
def isPre (p x : List Nat) : Prop := p ≠ [] ∧ x.take p.length = p
theorem isPre_len {p x : List Nat} (h : isPre p x) : p.length ≤ x.length := by
  have := congrArg List.length h.2
  rw [List.length_take] at this
  omega
/-- what the first and the last begin with, all between do -/
theorem between {x y z p : List Nat} (h1 : ¬ y < x) (h2 : ¬ z < y) (a : x.take p.length = p) (b : z.take p.length = p) : y.take p.length = p := by
  have c1 := nl_take p.length x y h1
  have c2 := nl_take p.length y z h2
  rw [a] at c1
  rw [b] at c2
  exact List.le_antisymm (List.not_lt.mp c2) (List.not_lt.mp c1)
def newP (a x : List Nat) : List (List Nat) := (List.range (x.length - comm a x)).map fun k => x.take (comm a x + k + 1)
def allP : List Nat → List (List Nat) → List (List Nat)
  | _, [] => []
  | a, x :: r => newP a x ++ allP x r
theorem mem_newP {a x p : List Nat} : p ∈ newP a x ↔ isPre p x ∧ ¬ isPre p a := by
  have cl := comm_le a x
  unfold newP
  rw [List.mem_map]
  constructor
  · rintro ⟨k, hk, rfl⟩
    have hk := List.mem_range.mp hk
    have l : (x.take (comm a x + k + 1)).length = comm a x + k + 1 := by rw [List.length_take]; omega
    refine ⟨⟨fun z => ?_, by rw [l]⟩, fun z => ?_⟩
    · rw [z] at l
      simp at l
    · have z2 := z.2
      rw [l] at z2
      have ll := congrArg List.length z2
      rw [l, List.length_take] at ll
      have := take_comm (comm a x + k + 1) a x (by omega) (by omega) z2
      omega
  · rintro ⟨h1, h2⟩
    have l1 := isPre_len h1
    have p0 : 0 < p.length := List.length_pos_iff.mpr h1.1
    have lt : comm a x < p.length := by
      rcases Nat.lt_or_ge (comm a x) p.length with c | c
      · exact c
      · have := comm_take _ _ _ c
        exact absurd ⟨h1.1, by rw [this]; exact h1.2⟩ h2
    refine ⟨p.length - comm a x - 1, List.mem_range.mpr (by omega), ?_⟩
    rw [show comm a x + (p.length - comm a x - 1) + 1 = p.length by omega]
    exact h1.2
theorem newP_nd (a x : List Nat) : (newP a x).Nodup := by
  have cl := comm_le a x
  unfold newP
  rw [List.Nodup, List.pairwise_map]
  refine (List.pairwise_lt_range (n := x.length - comm a x)).imp_of_mem fun {i j} hi hj l e => ?_
  have hi := List.mem_range.mp hi
  have hj := List.mem_range.mp hj
  have := congrArg List.length e
  rw [List.length_take, List.length_take] at this
  omega
theorem mem_allP : ∀ {a : List Nat} {W : List (List Nat)} {p : List Nat}, (a :: W).Pairwise (fun x y => ¬ y < x) → (p ∈ allP a W ↔ (∃ x ∈ W, isPre p x) ∧ ¬ isPre p a)
  | a, [], p, _ => by simp [allP]
  | a, x :: r, p, pw => by
    rw [List.pairwise_cons] at pw
    have ih := mem_allP (p := p) pw.2
    have pw2 := pw.2
    rw [List.pairwise_cons] at pw2
    show p ∈ newP a x ++ allP x r ↔ _
    rw [List.mem_append, mem_newP, ih]
    constructor
    · rintro (⟨h1, h2⟩ | ⟨⟨y, hy, h1⟩, h2⟩)
      · exact ⟨⟨x, List.mem_cons_self .., h1⟩, h2⟩
      · refine ⟨⟨y, List.mem_cons_of_mem _ hy, h1⟩, fun z => h2 ⟨h1.1, ?_⟩⟩
        exact between (pw.1 x (List.mem_cons_self ..)) (pw2.1 y hy) z.2 h1.2
    · rintro ⟨⟨y, hy, h1⟩, h2⟩
      by_cases c : isPre p x
      · exact .inl ⟨c, h2⟩
      · rcases List.mem_cons.mp hy with e | m
        · rw [e] at h1
          exact absurd h1 c
        · exact .inr ⟨⟨y, m, h1⟩, c⟩
theorem allP_nd : ∀ {a : List Nat} {W : List (List Nat)}, (a :: W).Pairwise (fun x y => ¬ y < x) → (allP a W).Nodup
  | _, [], _ => List.nodup_nil
  | a, x :: r, pw => by
    rw [List.pairwise_cons] at pw
    show (newP a x ++ allP x r).Nodup
    rw [List.nodup_append]
    refine ⟨newP_nd a x, allP_nd pw.2, fun p h1 q h2 e => ?_⟩
    subst e
    exact ((mem_allP pw.2).mp h2).2 (mem_newP.mp h1).1
def cmL : List Nat → List (List Nat) → List Int
  | _, [] => []
  | a, x :: r => (comm a x : Nat) :: cmL x r
theorem allP_len : ∀ (a : List Nat) (W : List (List Nat)), ((allP a W).length : Int) = (W.map fun x => (x.length : Int)).sum - (cmL a W).sum
  | _, [] => rfl
  | a, x :: r => by
    have cl := comm_le a x
    have ih := allP_len x r
    show ((newP a x ++ allP x r).length : Int) = ((x.length : Int) + (r.map fun x => (x.length : Int)).sum) - (((comm a x : Nat) : Int) + (cmL x r).sum)
    have l : (newP a x).length = x.length - comm a x := by unfold newP; rw [List.length_map, List.length_range]
    rw [List.length_append, l, Int.natCast_add, ih]
    omega
theorem cmL_at : ∀ (W : List (List Nat)) (a : List Nat) (k : Nat), (cmL a W)[k]? = (W[k]?).map fun x => ((comm (if k = 0 then a else (W[k - 1]?).getD []) x : Nat) : Int)
  | [], _, _ => by simp [cmL]
  | x :: r, a, 0 => rfl
  | x :: r, a, k + 1 => by
    show (cmL x r)[k]? = _
    rw [cmL_at r x k]
    show (r[k]?).map _ = (r[k]?).map _
    congr 1
    funext y
    cases k with
    | zero => rfl
    | succ k => rfl
theorem letsAt_map (E : List E3) (k : Nat) : letsAt E k = ((E.map fun e => TL.tl e.1)[k]?).getD [] := by
  unfold letsAt
  rw [List.getElem?_map]
theorem cmsE_cmL (E : List E3) : cmsE E = cmL [] (E.map fun e => TL.tl e.1) := by
  refine List.ext_getElem? fun k => ?_
  rw [cmL_at, show (E.map fun e => TL.tl e.1)[k]? = (E[k]?).map fun e => TL.tl e.1 from List.getElem?_map ..]
  unfold cmsE
  rw [List.getElem?_map]
  rcases Nat.lt_or_ge k E.length with h | h
  · rw [List.getElem?_range h, List.getElem?_eq_getElem h]
    show some _ = some _
    congr 1
    by_cases c : k = 0
    · rw [if_pos c]
      show (if k = 0 then (0 : Int) else cmAt E (k - 1)) = ((comm [] _ : Nat) : Int)
      rw [if_pos c]
      simp [comm]
    · rw [if_neg c]
      show (if k = 0 then (0 : Int) else cmAt E (k - 1)) = ((comm _ _ : Nat) : Int)
      rw [if_neg c]
      unfold cmAt
      rw [letsAt_map, show k - 1 + 1 = k by omega, letsAt_eq (List.getElem?_eq_getElem h)]
  · rw [List.getElem?_eq_none (by rw [List.length_range]; exact h), List.getElem?_eq_none h]
    rfl
/-- a stretch of the house -/
def isStr (h : List (Int × Str)) (p : List Nat) : Prop := ∃ q ∈ h, ∃ s : Nat, s ≤ q.2.length ∧ isPre p ((TL.tl q.2).drop s)
theorem ordE_lets (h : List (Int × Str)) : (([] : List Nat) :: (ordE h).map fun e => TL.tl e.1).Pairwise (fun x y => ¬ y < x) := by
  rw [List.pairwise_cons]
  refine ⟨fun x _ z => (by cases z), ?_⟩
  rw [List.pairwise_map]
  exact (ordE_pw h).imp fun h => le3_letters h
theorem mem_strs {h : List (Int × Str)} {p : List Nat} : p ∈ allP [] ((ordE h).map fun e => TL.tl e.1) ↔ isStr h p := by
  rw [mem_allP (ordE_lets h)]
  constructor
  · rintro ⟨⟨x, hx, hp⟩, _⟩
    obtain ⟨e, he, rfl⟩ := List.mem_map.mp hx
    obtain ⟨q, hq, s, hs, rfl⟩ := mem_ends3.mp (mem_ordE.mp he)
    rw [show TL.tl (suf q.2 s, q.1, (s : Int)).1 = (TL.tl q.2).drop s from suf_tl _ _] at hp
    exact ⟨q, hq, s, hs, hp⟩
  · rintro ⟨q, hq, s, hs, hp⟩
    refine ⟨⟨_, List.mem_map.mpr ⟨_, mem_ordE.mpr (mem_ends3.mpr ⟨q, hq, s, hs, rfl⟩), rfl⟩, ?_⟩, fun z => ?_⟩
    · show isPre p (TL.tl (suf q.2 s))
      rw [suf_tl]
      exact hp
    · have := isPre_len z
      exact z.1 (List.eq_nil_of_length_eq_zero (by simpa using this))
/-- how many -/
def strN (h : List (Int × Str)) : Nat := (allP [] ((ordE h).map fun e => TL.tl e.1)).length
theorem strN_eq (h : List (Int × Str)) : (strN h : Int) = ((ordE h).map fun e => (e.1.length : Int)).sum - (cmsE (ordE h)).sum := by
  unfold strN
  rw [allP_len, ← cmsE_cmL, List.map_map]
  rfl
/-- any list of all stretches, each once, has as many -/
theorem strN_of {h : List (Int × Str)} {l : List (List Nat)} (nd : l.Nodup) (hm : ∀ p, p ∈ l ↔ isStr h p) : l.length = strN h :=
  nd_len nd (allP_nd (ordE_lets h)) fun p => (hm p).trans mem_strs.symm
/-! ### the common of two ends that are not neighbours -/
theorem comm_mid {x y z : List Nat} (h1 : ¬ y < x) (h2 : ¬ z < y) : comm x z ≤ comm x y ∧ comm x z ≤ comm y z := by
  have l := comm_le x z
  have e := comm_take (comm x z) x z (Nat.le_refl _)
  have pl : (x.take (comm x z)).length = comm x z := by rw [List.length_take]; omega
  have b : y.take (comm x z) = x.take (comm x z) := by
    have := between (p := x.take (comm x z)) h1 h2 (by rw [pl]) (by rw [pl]; exact e.symm)
    rw [pl] at this
    exact this
  have yl : comm x z ≤ y.length := by
    have := congrArg List.length b
    rw [List.length_take, pl] at this
    omega
  exact ⟨take_comm _ _ _ l.1 yl b.symm, take_comm _ _ _ yl l.2 (b.trans e)⟩
theorem comm_tri {x y z : List Nat} {m : Nat} (h1 : m ≤ comm x y) (h2 : m ≤ comm y z) : m ≤ comm x z := by
  have l1 := comm_le x y
  have l2 := comm_le y z
  exact take_comm m x z (by omega) (by omega) ((comm_take m x y h1).trans (comm_take m y z h2))
section
variable {E : List E3} (pw : E.Pairwise (fun p q => le3 p q = true))
include pw
theorem lets_mono {i j : Nat} (h : i ≤ j) (hj : j < E.length) : ¬ letsAt E j < letsAt E i := by
  rw [letsAt_eq (List.getElem?_eq_getElem hj), letsAt_eq (List.getElem?_eq_getElem (by omega : i < E.length))]
  exact le3_letters (pw_at pw le3_refl (by omega) hj h)
theorem comm_le_cm {i j k : Nat} (h1 : i < k) (h2 : k ≤ j) (hj : j < E.length) : ((comm (letsAt E i) (letsAt E j) : Nat) : Int) ≤ cmAt E (k - 1) := by
  have a := (comm_mid (lets_mono pw (i := i) (j := k) (by omega) (by omega)) (lets_mono pw (i := k) (j := j) h2 hj)).1
  have b := (comm_mid (lets_mono pw (i := i) (j := k - 1) (by omega) (by omega)) (lets_mono pw (i := k - 1) (j := k) (by omega) (by omega))).2
  unfold cmAt
  rw [show k - 1 + 1 = k by omega]
  omega
theorem le_comm {i : Nat} {m : Int} : ∀ (d : Nat), (∀ k, i < k → k ≤ i + 1 + d → m ≤ cmAt E (k - 1)) → m ≤ ((comm (letsAt E i) (letsAt E (i + 1 + d)) : Nat) : Int)
  | 0, h => by
    have := h (i + 1) (by omega) (by omega)
    unfold cmAt at this
    exact this
  | d + 1, h => by
    have ih := le_comm d fun k a b => h k a (by omega)
    have := h (i + 1 + d + 1) (by omega) (by omega)
    unfold cmAt at this
    rw [show i + 1 + d + 1 - 1 + 1 = i + 1 + d + 1 by omega, show i + 1 + d + 1 - 1 = i + 1 + d by omega] at this
    by_cases c : m < 0
    · omega
    · obtain ⟨n, rfl⟩ : ∃ n : Nat, m = n := ⟨m.toNat, by omega⟩
      have := comm_tri (m := n) (x := letsAt E i) (y := letsAt E (i + 1 + d)) (z := letsAt E (i + 1 + d + 1)) (by omega) (by omega)
      show (n : Int) ≤ ((comm (letsAt E i) (letsAt E (i + 1 + d + 1)) : Nat) : Int)
      omega
/-- the least of the commons behind the first up to the second -/
theorem least_is {i j : Nat} (hij : i < j) (hj : j < E.length) {m : Int} (h1 : ∃ k, i < k ∧ k ≤ j ∧ m = cmAt E (k - 1)) (h2 : ∀ k, i < k → k ≤ j → m ≤ cmAt E (k - 1)) : m = ((comm (letsAt E i) (letsAt E j) : Nat) : Int) := by
  obtain ⟨k, k1, k2, rfl⟩ := h1
  have a := comm_le_cm pw k1 k2 hj
  have b := le_comm pw (i := i) (j - (i + 1)) fun k x y => h2 k x (by omega)
  rw [show i + 1 + (j - (i + 1)) = j by omega] at b
  omega
end
end SH
set_option Elab.async false
set_option linter.all false
set_option maxRecDepth 100000
set_option maxHeartbeats 4000000
/-! all stretches gone through; slices -/
namespace SH
open PySem PySem.Spec PyProof.Rows L2
def cuts (z : Str) (s : Nat) : List (List Nat) := (List.range (z.length - s)).map fun k => ((TL.tl z).drop s).take (k + 1)
def cutsZ (z : Str) : List (List Nat) := (List.range z.length).flatMap (cuts z)
def cutsH (h : List (Int × Str)) : List (List Nat) := h.flatMap fun q => cutsZ q.2
theorem mem_cuts {z : Str} {s : Nat} {p : List Nat} : p ∈ cuts z s ↔ isPre p ((TL.tl z).drop s) := by
  unfold cuts
  rw [List.mem_map]
  have zl : (TL.tl z).length = z.length := rfl
  constructor
  · rintro ⟨k, hk, rfl⟩
    have hk := List.mem_range.mp hk
    have l : (((TL.tl z).drop s).take (k + 1)).length = k + 1 := by rw [List.length_take, List.length_drop]; omega
    refine ⟨fun e => ?_, by rw [l]⟩
    rw [e] at l
    simp at l
  · intro h
    have l := isPre_len h
    rw [List.length_drop] at l
    have p0 : 0 < p.length := List.length_pos_iff.mpr h.1
    refine ⟨p.length - 1, List.mem_range.mpr (by omega), ?_⟩
    rw [show p.length - 1 + 1 = p.length by omega]
    exact h.2
theorem mem_cutsZ {z : Str} {p : List Nat} : p ∈ cutsZ z ↔ ∃ s : Nat, s ≤ z.length ∧ isPre p ((TL.tl z).drop s) := by
  unfold cutsZ
  rw [List.mem_flatMap]
  constructor
  · rintro ⟨s, hs, hp⟩
    exact ⟨s, Nat.le_of_lt (List.mem_range.mp hs), mem_cuts.mp hp⟩
  · rintro ⟨s, hs, hp⟩
    refine ⟨s, List.mem_range.mpr ?_, mem_cuts.mpr hp⟩
    rcases Nat.lt_or_ge s z.length with c | c
    · exact c
    · have := isPre_len hp
      have zl : (TL.tl z).length = z.length := rfl
      rw [List.length_drop] at this
      exact absurd (List.eq_nil_of_length_eq_zero (by omega : p.length = 0)) hp.1
theorem mem_cutsH {h : List (Int × Str)} {p : List Nat} : p ∈ cutsH h ↔ isStr h p := by
  unfold cutsH
  rw [List.mem_flatMap]
  constructor
  · rintro ⟨q, hq, hp⟩
    exact ⟨q, hq, mem_cutsZ.mp hp⟩
  · rintro ⟨q, hq, hp⟩
    exact ⟨q, hq, mem_cutsZ.mpr hp⟩
theorem cutsH_snoc (h : List (Int × Str)) (q : Int × Str) : cutsH (h ++ [q]) = cutsH h ++ cutsZ q.2 := by
  unfold cutsH
  rw [List.flatMap_append]
  simp
theorem flat_range {α : Type} (f : Nat → List α) (n : Nat) : (List.range (n + 1)).flatMap f = (List.range n).flatMap f ++ f n := by
  rw [List.range_succ, List.flatMap_append]
  simp
/-- the keys of a table are these words -/
def KeyW (kvs : List (Key × V)) (S : List (List Nat)) : Prop := (kvs.map (·.1)).Nodup ∧ ∀ k : Key, k ∈ kvs.map (·.1) ↔ ∃ z : Str, k = .inr z ∧ TL.tl z ∈ S
theorem KeyW.put {kvs : List (Key × V)} {S : List (List Nat)} (h : KeyW kvs S) (z : Str) (v : V) : KeyW (putK kvs (.inr z) v) (S ++ [TL.tl z]) := by
  refine ⟨keys_put_nd h.1, fun k => ?_⟩
  rw [keys_put_mem, h.2]
  constructor
  · rintro (⟨y, rfl, hy⟩ | rfl)
    · exact ⟨y, rfl, List.mem_append_left _ hy⟩
    · exact ⟨z, rfl, List.mem_append_right _ (List.mem_singleton.mpr rfl)⟩
  · rintro ⟨y, rfl, hy⟩
    rcases List.mem_append.mp hy with m | m
    · exact .inl ⟨y, rfl, m⟩
    · exact .inr (congrArg Sum.inr (str_ext (List.mem_singleton.mp m)))
theorem KeyW.nil : KeyW [] [] := ⟨List.nodup_nil, fun k => by simp⟩
theorem KeyW.eq {kvs : List (Key × V)} {S S' : List (List Nat)} (h : KeyW kvs S) (e : S = S') : KeyW kvs S' := e ▸ h
def keyL : Key → List Nat
  | .inl _ => []
  | .inr z => TL.tl z
theorem KeyW.len {kvs : List (Key × V)} {h : List (Int × Str)} (k : KeyW kvs (cutsH h)) : kvs.length = strN h := by
  have : ((kvs.map (·.1)).map keyL).length = strN h := by
    refine strN_of ?_ fun p => ?_
    · rw [List.Nodup, List.pairwise_map]
      refine (show (kvs.map (·.1)).Pairwise (· ≠ ·) from k.1).imp_of_mem fun {a b} ha hb ne e => ?_
      obtain ⟨x, rfl, _⟩ := (k.2 a).mp ha
      obtain ⟨y, rfl, _⟩ := (k.2 b).mp hb
      exact ne (congrArg Sum.inr (str_ext e))
    · rw [← mem_cutsH, List.mem_map]
      constructor
      · rintro ⟨a, ha, rfl⟩
        obtain ⟨x, rfl, hx⟩ := (k.2 a).mp ha
        exact hx
      · intro hp
        have e : TL.tl (⟨p.toArray⟩ : Str) = p := rfl
        exact ⟨.inr ⟨p.toArray⟩, (k.2 _).mpr ⟨_, rfl, by rw [e]; exact hp⟩, rfl⟩
  rw [List.length_map, List.length_map] at this
  exact this
theorem cut_ab (xs : List V) {a b : Nat} (h1 : a ≤ b) (h : b ≤ xs.length) : cutV xs (some (a : Int)) (some (b : Int)) = (xs.drop a).take (b - a) := by
  unfold cutV
  rw [HT.sIx_nat, HT.sIx_nat, Nat.min_eq_left h, Nat.min_eq_left (by omega)]
end SH
set_option Elab.async false
set_option linter.all false
set_option maxRecDepth 100000
set_option maxHeartbeats 4000000
/-! houses with a pair more or less -/
namespace SH
open PySem PySem.Spec PyProof.Rows L2
def spIsLetter : Sp := fun vs H Q _ => ∃ c : Nat, vs = [.str ⟨#[c]⟩] ∧ Q (.bl (okc c)) H
def spIsText : Sp := fun vs H Q _ => ∃ z : Str, vs = [.str z] ∧ z.length ≤ 1000 ∧ ∀ H', Same H H' → Q (.bl (isTxt z)) H'
def spHasNumber (K : PySem.W.Frag) : Sp := fun vs H Q _ => ∃ (a : Addr) (L : PL) (n : Int), vs = [.ref a, .int n] ∧ HsAt K H a L ∧ L.length ≤ 1000 ∧ ∀ H', Same H H' → Q (.bl (decide (n ∈ L.map fun q => q.2.1))) H'
theorem inV_ints (n : Int) (l : List Int) : inV (.int n) (l.map V.int) = decide (n ∈ l) := by
  unfold inV
  induction l with
  | nil => simp
  | cons x r ih =>
    rw [List.map_cons, List.any_cons, ih]
    show (x == n || decide (n ∈ r)) = decide (n ∈ x :: r)
    by_cases h : x = n
    · subst h
      simp
    · have h2 : (x == n) = false := by simpa using h
      have h3 : ¬ n = x := fun z => h z.symm
      rw [h2]
      simp [h3]
theorem refs_at {L : PL} {i : Nat} {x : V} (h : (refs L)[i]? = some x) : ∃ t, L[i]? = some t ∧ t ∈ L ∧ x = .ref t.1 := by
  unfold refs at h
  rw [List.getElem?_map] at h
  cases e : L[i]? with
  | none => rw [e] at h; cases h
  | some t =>
    rw [e] at h
    cases h
    exact ⟨t, rfl, List.mem_of_getElem? e, rfl⟩
theorem drop_at {α : Type} {l : List α} {i : Nat} {x : α} (h : l[i]? = some x) : l.drop i = x :: l.drop (i + 1) := by
  obtain ⟨hi, e⟩ := List.getElem?_eq_some_iff.mp h
  rw [List.drop_eq_getElem_cons hi, e]
/-- a new house is handed back: a new list p of pairs, as pure data h -/
def NewHs (K : PySem.W.Frag) (Q : VK) (H : Hp) (h : List (Int × Str)) : Prop := ∀ (p : Addr) (L' : PL) (H' : Hp), Same H H' → H p = none → H' p = some (.lst (refs L')) → PairsAt K H' L' → L'.map (·.2) = h → Q (.ref p) H'
/-- with a pair more, in its place -/
def ins (n : Int) (z : Str) (h : List (Int × Str)) : List (Int × Str) := h.filter (fun q => decide (q.1 < n)) ++ [(n, z)] ++ h.filter (fun q => decide (n < q.1))
theorem asc_uniq : ∀ {l m : List (Int × Str)}, l.Perm m → l.Pairwise (fun q r => q.1 < r.1) → m.Pairwise (fun q r => q.1 < r.1) → l = m
  | [], m, p, _, _ => (List.Perm.eq_nil p.symm).symm
  | x :: l, [], p, _, _ => absurd p.length_eq (by simp)
  | x :: l, y :: m, p, hl, hm => by
    rw [List.pairwise_cons] at hl hm
    have e : x = y := by
      rcases List.mem_cons.mp (p.mem_iff.mp (List.mem_cons_self ..)) with e | hx
      · exact e
      · rcases List.mem_cons.mp (p.mem_iff.mpr (List.mem_cons_self ..)) with e | hy
        · exact e.symm
        · have a := hm.1 x hx
          have b := hl.1 y hy
          omega
    subst e
    rw [asc_uniq p.cons_inv hl.2 hm.2]
theorem ins_perm {n : Int} {z : Str} : ∀ {h : List (Int × Str)}, n ∉ h.map (·.1) → (ins n z h).Perm (h ++ [(n, z)])
  | [], _ => List.Perm.refl _
  | q :: r, hn => by
    rw [List.map_cons, List.mem_cons, not_or] at hn
    have ih := ins_perm (z := z) hn.2
    unfold ins at ih ⊢
    by_cases h1 : q.1 < n
    · rw [List.filter_cons_of_pos (by simpa using h1), List.filter_cons_of_neg (by simp; omega)]
      exact ih.cons q
    · rw [List.filter_cons_of_neg (by simpa using h1), List.filter_cons_of_pos (by simp; omega)]
      have p1 := List.perm_middle (a := q) (l₁ := r.filter (fun q => decide (q.1 < n)) ++ [(n, z)]) (l₂ := r.filter (fun q => decide (n < q.1)))
      exact p1.trans (ih.cons q)
theorem ins_asc {n : Int} {z : Str} {h : List (Int × Str)} (a : h.Pairwise (fun q r => q.1 < r.1)) : (ins n z h).Pairwise (fun q r => q.1 < r.1) := by
  unfold ins
  rw [List.pairwise_append, List.pairwise_append]
  refine ⟨⟨a.filter _, by simp, fun x hx y hy => ?_⟩, a.filter _, fun x hx y hy => ?_⟩
  · have h1 := (List.mem_filter.mp hx).2
    rw [List.mem_singleton.mp hy]
    simpa using h1
  · have h2 := (List.mem_filter.mp hy).2
    have h2' : n < y.1 := by simpa using h2
    rcases List.mem_append.mp hx with m | m
    · have h1 := (List.mem_filter.mp m).2
      have h1' : x.1 < n := by simpa using h1
      omega
    · rw [List.mem_singleton.mp m]
      exact h2'
theorem IsHs.pw {m : Nat} {h : List (Int × Str)} (a : IsHs m h) : h.Pairwise (fun q r => q.1 < r.1) := List.pairwise_map.mp a.asc
end SH
set_option Elab.async false
set_option linter.all false
set_option maxRecDepth 100000
set_option maxHeartbeats 4000000
/-! a dict of words, each with the list of the numbers of the texts where it stands -/
namespace SH
open PySem PySem.Spec PyProof.Rows L2
abbrev WT := List (Str × Addr × List Int)
def wkvs (T : WT) : List (Key × V) := T.map fun e => ((Sum.inr e.1 : Key), V.ref e.2.1)
/-- what has been met: words and numbers, in order -/
abbrev Occ := List (Str × Int)
structure Wd (H0 H : Hp) (D : Addr) (T : WT) : Prop where
  at_ : H D = some (.dK (wkvs T))
  sm : Same H0 H
  nD : H0 D = none
  kd : (T.map (·.1)).Nodup
  rd : (T.map (·.2.1)).Nodup
  row : ∀ e ∈ T, H e.2.1 = some (.lst (e.2.2.map V.int)) ∧ H0 e.2.1 = none
/-- it tells what has been met -/
structure WdOf (T : WT) (O : Occ) : Prop where
  mem : ∀ z, z ∈ T.map (·.1) ↔ z ∈ O.map (·.1)
  val : ∀ e ∈ T, e.2.2 = (O.filter fun o => decide (o.1 = e.1)).map (·.2)
theorem wkvs_keys (T : WT) : (wkvs T).map (·.1) = (T.map (·.1)).map fun z => (Sum.inr z : Key) := by
  unfold wkvs
  rw [List.map_map, List.map_map]
  rfl
theorem Wd.val_of {H0 H : Hp} {D : Addr} {T : WT} (h : Wd H0 H D T) {e : Str × Addr × List Int} (he : e ∈ T) : valV (wkvs T) (.inr e.1) = some (.ref e.2.1) := by
  have kd := h.kd
  unfold wkvs
  clear h
  induction T with
  | nil => cases he
  | cons a r ih =>
    rw [List.map_cons] at kd ⊢
    rw [List.nodup_cons] at kd
    unfold valV
    rcases List.mem_cons.mp he with e1 | m
    · subst e1
      rw [List.find?_cons_of_pos (by simp)]
      rfl
    · have ne : ¬ a.1 = e.1 := fun z => kd.1 (by rw [z]; exact List.mem_map_of_mem m)
      rw [List.find?_cons_of_neg (by simpa using ne)]
      exact ih m kd.2
theorem wkvs_none {T : WT} {z : Str} (h : z ∉ T.map (·.1)) : valV (wkvs T) (.inr z) = none := by
  unfold valV
  rw [List.find?_eq_none.mpr fun x hx => ?_]
  · rfl
  · unfold wkvs at hx
    obtain ⟨e, he, rfl⟩ := List.mem_map.mp hx
    have : ¬ e.1 = z := fun y => h (y ▸ List.mem_map_of_mem he)
    simpa using this
theorem wkvs_put {T : WT} {z : Str} {r : Addr} (h : z ∉ T.map (·.1)) : putK (wkvs T) (.inr z) (.ref r) = wkvs (T ++ [(z, r, [])]) := by
  unfold putK
  rw [if_neg, show wkvs (T ++ [(z, r, [])]) = wkvs T ++ [((Sum.inr z : Key), V.ref r)] by unfold wkvs; rw [List.map_append]; rfl]
  intro y
  obtain ⟨x, hx, e⟩ := List.any_eq_true.mp y
  unfold wkvs at hx
  obtain ⟨e2, he, rfl⟩ := List.mem_map.mp hx
  have := of_decide_eq_true e
  exact h ((Sum.inr.inj this) ▸ List.mem_map_of_mem he)
def bump (T : WT) (z : Str) (n : Int) : WT := T.map fun x => if x.1 = z then (x.1, x.2.1, x.2.2 ++ [n]) else x
theorem bump_keys (T : WT) (z : Str) (n : Int) : (bump T z n).map (·.1) = T.map (·.1) := by
  unfold bump
  rw [List.map_map]
  refine List.map_congr_left fun x _ => ?_
  show (if x.1 = z then (x.1, x.2.1, x.2.2 ++ [n]) else x).1 = x.1
  split <;> rfl
theorem bump_refs (T : WT) (z : Str) (n : Int) : (bump T z n).map (·.2.1) = T.map (·.2.1) := by
  unfold bump
  rw [List.map_map]
  refine List.map_congr_left fun x _ => ?_
  show (if x.1 = z then (x.1, x.2.1, x.2.2 ++ [n]) else x).2.1 = x.2.1
  split <;> rfl
theorem bump_kvs (T : WT) (z : Str) (n : Int) : wkvs (bump T z n) = wkvs T := by
  unfold bump wkvs
  rw [List.map_map]
  refine List.map_congr_left fun x _ => ?_
  show ((Sum.inr (if x.1 = z then (x.1, x.2.1, x.2.2 ++ [n]) else x).1 : Key), V.ref (if x.1 = z then (x.1, x.2.1, x.2.2 ++ [n]) else x).2.1) = _
  split <;> rfl
theorem Wd.rne {H0 H : Hp} {D : Addr} {T : WT} (h : Wd H0 H D T) {e : Str × Addr × List Int} (he : e ∈ T) : e.2.1 ≠ D := fun z => by
  have := (h.row e he).1
  rw [z, h.at_] at this
  cases this
theorem nodup_key {T : WT} (h : (T.map (·.1)).Nodup) {e f : Str × Addr × List Int} (he : e ∈ T) (hf : f ∈ T) (k : e.1 = f.1) : e = f := by
  induction T with
  | nil => cases he
  | cons a r ih =>
    rw [List.map_cons, List.nodup_cons] at h
    rcases List.mem_cons.mp he with e1 | m1 <;> rcases List.mem_cons.mp hf with e2 | m2
    · rw [e1, e2]
    · exact (h.1 (by rw [← e1, k]; exact List.mem_map_of_mem (f := fun x : Str × Addr × List Int => x.1) m2)).elim
    · exact (h.1 (by rw [← e2, ← k]; exact List.mem_map_of_mem (f := fun x : Str × Addr × List Int => x.1) m1)).elim
    · exact ih h.2 m1 m2
theorem nodup_ref {T : WT} (h : (T.map (·.2.1)).Nodup) {e f : Str × Addr × List Int} (he : e ∈ T) (hf : f ∈ T) (k : e.2.1 = f.2.1) : e = f := by
  induction T with
  | nil => cases he
  | cons a r ih =>
    rw [List.map_cons, List.nodup_cons] at h
    rcases List.mem_cons.mp he with e1 | m1 <;> rcases List.mem_cons.mp hf with e2 | m2
    · rw [e1, e2]
    · exact (h.1 (by rw [← e1, k]; exact List.mem_map_of_mem (f := fun x : Str × Addr × List Int => x.2.1) m2)).elim
    · exact (h.1 (by rw [← e2, ← k]; exact List.mem_map_of_mem (f := fun x : Str × Addr × List Int => x.2.1) m1)).elim
    · exact ih h.2 m1 m2
/-- a word more -/
theorem Wd.new {H0 H : Hp} {D : Addr} {T : WT} (h : Wd H0 H D T) {z : Str} (hz : z ∉ T.map (·.1)) {r : Addr} (nr : H r = none) : Wd H0 (upd (upd H r (.lst [])) D (.dK (wkvs (T ++ [(z, r, [])])))) D (T ++ [(z, r, [])]) := by
  have rD : r ≠ D := fun e => by rw [e, h.at_] at nr; cases nr
  refine ⟨upd_same, same_mut (h.sm.trans (same_new nr)) h.nD, h.nD, ?_, ?_, fun e m => ?_⟩
  · rw [List.map_append, List.nodup_append]
    exact ⟨h.kd, by simp, fun a ha b hb e => by rw [List.mem_singleton.mp hb] at e; exact hz (by rw [← show a = z from e]; exact ha)⟩
  · rw [List.map_append, List.nodup_append]
    refine ⟨h.rd, by simp, fun a ha b hb e => ?_⟩
    rw [List.mem_singleton.mp hb] at e
    obtain ⟨x, hx, rfl⟩ := List.mem_map.mp ha
    have := (h.row x hx).1
    rw [show x.2.1 = r from e, nr] at this
    cases this
  · rcases List.mem_append.mp m with m | m
    · rw [upd_ne (h.rne m)]
      exact ⟨same_new nr _ _ (h.row e m).1, (h.row e m).2⟩
    · rw [List.mem_singleton.mp m]
      exact ⟨by rw [upd_ne rD]; exact upd_same, h.sm.free nr⟩
/-- a number more behind a word -/
theorem Wd.app {H0 H : Hp} {D : Addr} {T : WT} (h : Wd H0 H D T) {e : Str × Addr × List Int} (he : e ∈ T) (n : Int) : Wd H0 (upd H e.2.1 (.lst (e.2.2.map V.int ++ [.int n]))) D (bump T e.1 n) := by
  refine ⟨?_, same_mut h.sm (h.row e he).2, h.nD, by rw [bump_keys]; exact h.kd, by rw [bump_refs]; exact h.rd, fun x hx => ?_⟩
  · rw [upd_ne (fun z => h.rne he z.symm), bump_kvs]
    exact h.at_
  · unfold bump at hx
    obtain ⟨y, hy, rfl⟩ := List.mem_map.mp hx
    by_cases c : y.1 = e.1
    · have := nodup_key h.kd hy he c
      subst this
      rw [if_pos rfl]
      exact ⟨by rw [List.map_append]; exact upd_same, (h.row y hy).2⟩
    · rw [if_neg c]
      rw [upd_ne (fun z => c (congrArg (·.1) (nodup_ref h.rd hy he z)))]
      exact h.row y hy
theorem WdOf.bump {T : WT} {O : Occ} {z : Str} {n : Int} (hs : ∀ y, y ∈ T.map (·.1) ↔ y ∈ O.map (·.1) ∨ y = z) (hv : ∀ e ∈ T, e.2.2 = (O.filter fun o => decide (o.1 = e.1)).map (·.2)) : WdOf (SH.bump T z n) (O ++ [(z, n)]) := by
  refine ⟨fun y => ?_, fun e he => ?_⟩
  · rw [bump_keys, hs y, List.map_append, List.mem_append]
    exact or_congr Iff.rfl List.mem_singleton.symm
  · unfold SH.bump at he
    obtain ⟨x, hx, rfl⟩ := List.mem_map.mp he
    rw [List.filter_append, List.map_append]
    by_cases c : x.1 = z
    · rw [if_pos c]
      show x.2.2 ++ [n] = (O.filter fun o => decide (o.1 = x.1)).map (·.2) ++ ([((z, n) : Str × Int)].filter fun o => decide (o.1 = x.1)).map (·.2)
      rw [← hv x hx, List.filter_cons_of_pos (p := fun o : Str × Int => decide (o.1 = x.1)) (decide_eq_true (show z = x.1 from c.symm))]
      rfl
    · rw [if_neg c]
      show x.2.2 = (O.filter fun o => decide (o.1 = x.1)).map (·.2) ++ ([((z, n) : Str × Int)].filter fun o => decide (o.1 = x.1)).map (·.2)
      rw [← hv x hx, List.filter_cons_of_neg (p := fun o : Str × Int => decide (o.1 = x.1)) (by simpa using fun y : z = x.1 => c y.symm)]
      exact (List.append_nil _).symm
theorem Wd.same {H0 H H' : Hp} {D : Addr} {T : WT} (s : Same H H') (h : Wd H0 H D T) : Wd H0 H' D T := ⟨s _ _ h.at_, h.sm.trans s, h.nD, h.kd, h.rd, fun e m => ⟨s _ _ (h.row e m).1, (h.row e m).2⟩⟩
/-! ### the stretches of a house -/
def cutN (z : Str) (a b : Nat) : Str := cutS z (some (a : Int)) (some (b : Int))
def occA (z : Str) (n : Int) (a : Nat) (m : Nat) : Occ := (List.range m).map fun k => (cutN z a (a + 1 + k), n)
def occQ (q : Int × Str) (m : Nat) : Occ := (List.range m).flatMap fun a => occA q.2 q.1 a (q.2.length - a)
def occ (h : List (Int × Str)) : Occ := h.flatMap fun q => occQ q q.2.length
theorem occA_succ (z : Str) (n : Int) (a m : Nat) : occA z n a (m + 1) = occA z n a m ++ [(cutN z a (a + 1 + m), n)] := by
  unfold occA
  rw [List.range_succ, List.map_append]
  rfl
theorem occQ_succ (q : Int × Str) (m : Nat) : occQ q (m + 1) = occQ q m ++ occA q.2 q.1 m (q.2.length - m) := by
  unfold occQ
  rw [List.range_succ, List.flatMap_append]
  simp
theorem occ_snoc (h : List (Int × Str)) (q : Int × Str) : occ (h ++ [q]) = occ h ++ occQ q q.2.length := by
  unfold occ
  rw [List.flatMap_append]
  simp
end SH
set_option Elab.async false
set_option linter.all false
set_option maxRecDepth 100000
set_option maxHeartbeats 4000000
/-! all stretches, each once, by their number of letters and then as texts -/
namespace SH
open PySem PySem.Spec PyProof.Rows L2
def leL (x y : Str) : Prop := x.length < y.length ∨ (x.length = y.length ∧ x.cps.toList ≤ y.cps.toList)
structure StrL (O : List Str) (l : List Str) : Prop where
  nd : l.Nodup
  pw : l.Pairwise leL
  mem : ∀ z, z ∈ l ↔ z ∈ O
theorem two_of {α : Type} [DecidableEq α] : ∀ {l : List α} {a b : α}, a ∈ l → b ∈ l → a ≠ b → [a, b].Sublist l ∨ [b, a].Sublist l
  | x :: r, a, b, ha, hb, n => by
    rcases List.mem_cons.mp ha with e1 | m1 <;> rcases List.mem_cons.mp hb with e2 | m2
    · exact absurd (e1.trans e2.symm) n
    · subst e1
      exact .inl ((List.singleton_sublist.mpr m2).cons_cons a)
    · subst e2
      exact .inr ((List.singleton_sublist.mpr m1).cons_cons b)
    · rcases two_of m1 m2 n with h | h
      · exact .inl (h.cons x)
      · exact .inr (h.cons x)
theorem two_not {α : Type} : ∀ {l : List α} {a b : α}, l.Nodup → [a, b].Sublist l → [b, a].Sublist l → False
  | x :: r, a, b, nd, h1, h2 => by
    obtain ⟨nx, nr⟩ := List.nodup_cons.mp nd
    rcases List.sublist_cons_iff.mp h1 with h1 | ⟨r1, e1, h1⟩ <;> rcases List.sublist_cons_iff.mp h2 with h2 | ⟨r2, e2, h2⟩
    · exact two_not nr h1 h2
    · cases e2
      exact nx (h1.subset (by simp))
    · cases e1
      exact nx (h2.subset (by simp))
    · cases e1
      cases e2
      exact nx (List.singleton_sublist.mp h1)
theorem lenSort {l : List Str} (nd : l.Nodup) (pw : l.Pairwise fun x y => x.cps.toList ≤ y.cps.toList) : StrL l (l.mergeSort fun x y => decide (x.length ≤ y.length)) := by
  have pm := List.mergeSort_perm l fun x y => decide (x.length ≤ y.length)
  have tr : ∀ a b c : Str, decide (a.length ≤ b.length) = true → decide (b.length ≤ c.length) = true → decide (a.length ≤ c.length) = true := fun a b c h1 h2 => decide_eq_true (Nat.le_trans (of_decide_eq_true h1) (of_decide_eq_true h2))
  have tot : ∀ a b : Str, (decide (a.length ≤ b.length) || decide (b.length ≤ a.length)) = true := fun a b => by
    rcases Nat.le_total a.length b.length with h | h
    · rw [decide_eq_true h]; rfl
    · rw [decide_eq_true h, Bool.or_true]
  have pl := List.pairwise_mergeSort tr tot l
  have nr := pm.nodup_iff.mpr nd
  refine ⟨nr, ?_, fun z => pm.mem_iff⟩
  rw [List.pairwise_iff_forall_sublist]
  intro a b hab
  have h1 : a.length ≤ b.length := of_decide_eq_true (List.pairwise_iff_forall_sublist.mp pl hab)
  rcases Nat.lt_or_ge a.length b.length with h | h
  · exact .inl h
  · have e : a.length = b.length := Nat.le_antisymm h1 h
    refine .inr ⟨e, ?_⟩
    by_cases c : a = b
    · rw [c]; exact List.le_refl _
    · have ma := pm.mem_iff.mp (hab.subset (List.mem_cons_self ..))
      have mb := pm.mem_iff.mp (hab.subset (by simp : b ∈ [a, b]))
      rcases two_of ma mb c with s | s
      · exact List.pairwise_iff_forall_sublist.mp pw s
      · exact (two_not nr hab (List.pair_sublist_mergeSort tr tot (decide_eq_true h) s)).elim
theorem leL_anti {x y : Str} (h1 : leL x y) (h2 : leL y x) : x = y := by
  rcases h1 with a | ⟨a, b⟩ <;> rcases h2 with c | ⟨c, d⟩
  · omega
  · omega
  · omega
  · exact str_ext (List.le_antisymm b d)
theorem StrL.uniq {O l m : List Str} (h : StrL O l) (k : StrL O m) : l = m :=
  ((List.perm_ext_iff_of_nodup h.nd k.nd).mpr fun z => (h.mem z).trans (k.mem z).symm).eq_of_pairwise (fun a b _ _ => leL_anti) h.pw k.pw
theorem StrL.cong {O O' l : List Str} (h : StrL O l) (e : ∀ z, z ∈ O ↔ z ∈ O') : StrL O' l := ⟨h.nd, h.pw, fun z => (h.mem z).trans (e z)⟩
/-! ### a set of texts that grows -/
/-- at D stands a set of just these texts -/
def SetS (w : World) (H0 H : Hp) (D : Addr) (O : List Str) : Prop := ∃ (S : Key → Bool) (n : Nat), H D = some (SetMO w D S n) ∧ (∀ k, S k = true ↔ ∃ z : Str, k = .inr z ∧ z ∈ O) ∧ n ≤ O.length ∧ Same H0 H
theorem SetS.nil {w : World} {H0 : Hp} {D : Addr} (h : H0 D = none) : SetS w H0 (upd H0 D (SetMO w D (fun _ => false) 0)) D [] :=
  ⟨_, 0, upd_same, fun k => ⟨fun z => (by cases z), fun z => (by obtain ⟨_, _, z⟩ := z; cases z)⟩, Nat.le_refl _, same_new h⟩
theorem SetS.put {w : World} {H0 H : Hp} {D : Addr} {O : List Str} (nD : H0 D = none) (h : SetS w H0 H D O) (z : Str) (hl : O.length < 4000) {Q : Hp → Prop} (q : ∀ H', SetS w H0 H' D (O ++ [z]) → Q H') :
    ∃ (k : Key) (S : Key → Bool) (n : Nat), V.str z = kV k ∧ H D = some (SetMO w D S n) ∧ n + 1 < scanBound ∧ Q (upd H D (SetMO w D (fun j => S j || decide (j = k)) (if S k = true then n else n + 1))) := by
  obtain ⟨S, n, hD, hS, hn, sm⟩ := h
  refine ⟨.inr z, S, n, rfl, hD, ?_, q _ ⟨_, _, upd_same, fun k => ?_, ?_, same_mut sm nD⟩⟩
  · have : scanBound = 4096 := rfl
    omega
  · rw [Bool.or_eq_true, hS k, decide_eq_true_eq]
    constructor
    · rintro (⟨y, e, m⟩ | e)
      · exact ⟨y, e, List.mem_append_left _ m⟩
      · exact ⟨z, e, List.mem_append_right _ (List.mem_singleton.mpr rfl)⟩
    · rintro ⟨y, e, m⟩
      rcases List.mem_append.mp m with m | m
      · exact .inl ⟨y, e, m⟩
      · exact .inr (by rw [e, List.mem_singleton.mp m])
  · rw [List.length_append]
    show (if S (.inr z) = true then n else n + 1) ≤ O.length + 1
    split <;> omega
end SH
set_option Elab.async false
set_option linter.all false
set_option maxRecDepth 100000
set_option maxHeartbeats 4000000
/-! shortest single stretches -/
namespace SH
open PySem PySem.Spec PyProof.Rows L2
theorem cutN_tl {z : Str} {a b : Nat} (h1 : a ≤ b) (h2 : b ≤ z.length) : TL.tl (cutN z a b) = ((TL.tl z).drop a).take (b - a) := by
  unfold cutN
  have e : (b : Int) = (a : Int) + ((b - a : Nat) : Int) := by omega
  rw [e]
  exact cut_mid (by omega)
theorem cutN_len {z : Str} {a b : Nat} (h1 : a ≤ b) (h2 : b ≤ z.length) : (cutN z a b).length = b - a := by
  have := congrArg List.length (cutN_tl h1 h2)
  rw [List.length_take, List.length_drop] at this
  have e1 : (TL.tl (cutN z a b)).length = (cutN z a b).length := rfl
  have e2 : (TL.tl z).length = z.length := rfl
  omega
theorem cutN_is {z w : Str} {m k : Nat} (hm : m + 1 + k ≤ z.length) : cutN z m (m + 1 + k) = w ↔ (k + 1 = w.length ∧ standsP w z m = true) := by
  have tl := cutN_tl (z := z) (a := m) (b := m + 1 + k) (by omega) hm
  rw [show m + 1 + k - m = k + 1 by omega] at tl
  constructor
  · intro h
    have hl := cutN_len (z := z) (a := m) (b := m + 1 + k) (by omega) hm
    rw [h] at hl tl
    refine ⟨by omega, decide_eq_true ?_⟩
    rw [hl, show m + 1 + k - m = k + 1 by omega]
    exact tl.symm
  · rintro ⟨h1, h2⟩
    refine str_ext ?_
    show TL.tl (cutN z m (m + 1 + k)) = TL.tl w
    rw [tl, h1]
    exact of_decide_eq_true h2
theorem range_one (n : Nat) : ∀ c : Nat, ((List.range c).filter fun k => decide (k + 1 = n)).length = if 0 < n ∧ n ≤ c then 1 else 0
  | 0 => by
    rw [if_neg (by omega)]
    rfl
  | c + 1 => by
    rw [List.range_succ, List.filter_append, List.length_append, range_one n c]
    by_cases h : c + 1 = n
    · rw [if_neg (by omega), if_pos (by omega), List.filter_cons_of_pos (p := fun k => decide (k + 1 = n)) (decide_eq_true h)]
      rfl
    · rw [List.filter_cons_of_neg (p := fun k => decide (k + 1 = n)) (by simpa using h)]
      by_cases h2 : 0 < n ∧ n ≤ c
      · rw [if_pos h2, if_pos (by omega)]
        rfl
      · rw [if_neg h2, if_neg (by omega)]
        rfl
theorem occA_cnt {z w : Str} {n : Int} {m : Nat} (hm : m < z.length) (hw : 0 < w.length) : ((occA z n m (z.length - m)).filter fun o => decide (o.1 = w)).length = if standsP w z m = true then 1 else 0 := by
  unfold occA
  rw [List.filter_map, List.length_map]
  have e : (List.range (z.length - m)).filter ((fun o : Str × Int => decide (o.1 = w)) ∘ fun k => (cutN z m (m + 1 + k), n)) = (List.range (z.length - m)).filter fun k => decide (k + 1 = w.length ∧ standsP w z m = true) := by
    refine List.filter_congr fun k hk => ?_
    have := List.mem_range.mp hk
    exact decide_eq_decide.mpr (cutN_is (by omega))
  rw [e]
  by_cases s : standsP w z m = true
  · rw [if_pos s]
    have : (List.range (z.length - m)).filter (fun k => decide (k + 1 = w.length ∧ standsP w z m = true)) = (List.range (z.length - m)).filter fun k => decide (k + 1 = w.length) :=
      List.filter_congr fun k _ => decide_eq_decide.mpr ⟨fun h => h.1, fun h => ⟨h, s⟩⟩
    rw [this, range_one, if_pos]
    have := stands_le s (by omega)
    omega
  · rw [if_neg s, List.filter_eq_nil_iff.mpr fun k _ h => s (of_decide_eq_true h).2]
    rfl
theorem occQ_cnt {q : Int × Str} {w : Str} (hw : 0 < w.length) : ∀ m, m ≤ q.2.length → ((occQ q m).filter fun o => decide (o.1 = w)).length = ((List.range m).filter (standsP w q.2)).length
  | 0, _ => rfl
  | m + 1, h => by
    rw [occQ_succ, List.filter_append, List.length_append, occQ_cnt hw m (by omega), occA_cnt (by omega) hw, List.range_succ, List.filter_append, List.length_append]
    congr 1
    by_cases s : standsP w q.2 m = true
    · rw [if_pos s, List.filter_cons_of_pos s]; rfl
    · rw [if_neg s, List.filter_cons_of_neg s]; rfl
/-- as many numbers as places -/
theorem occ_cnt {w : Str} (hw : 0 < w.length) : ∀ h : List (Int × Str), ((occ h).filter fun o => decide (o.1 = w)).length = (plc h w).length
  | [] => rfl
  | q :: r => by
    have e1 : occ (q :: r) = occQ q q.2.length ++ occ r := rfl
    have e2 : plc (q :: r) w = plcOf w q ++ plc r w := rfl
    rw [e1, e2, List.filter_append, List.length_append, List.length_append, occ_cnt hw r, occQ_cnt hw _ (Nat.le_refl _)]
    congr 1
    unfold plcOf
    rw [List.length_map, List.range_succ, List.filter_append, List.length_append]
    have : standsP w q.2 q.2.length = false := by
      cases s : standsP w q.2 q.2.length with
      | false => rfl
      | true =>
        have := stands_le s (Nat.le_refl _)
        omega
    rw [List.filter_cons_of_neg (by rw [this]; decide)]
    rfl
theorem occ_mem {h : List (Int × Str)} {q : Int × Str} (hq : q ∈ h) {a b : Nat} (h1 : a < b) (h2 : b ≤ q.2.length) : cutN q.2 a b ∈ (occ h).map (·.1) := by
  have : ∀ m, a < m → m ≤ q.2.length → (cutN q.2 a b, q.1) ∈ occQ q m := fun m => by
    induction m with
    | zero => intro h; omega
    | succ m ih =>
      intro c1 c2
      rw [occQ_succ]
      rcases Nat.lt_or_ge a m with c | c
      · exact List.mem_append_left _ (ih c (by omega))
      · refine List.mem_append_right _ ?_
        rw [show m = a by omega]
        unfold occA
        exact List.mem_map.mpr ⟨b - a - 1, List.mem_range.mpr (by omega), by rw [show a + 1 + (b - a - 1) = b by omega]⟩
  exact List.mem_map.mpr ⟨_, List.mem_flatMap.mpr ⟨q, hq, this _ (by omega) (Nat.le_refl _)⟩, rfl⟩
/-- a stretch over a letter, that stands once -/
def Sgl (h : List (Int × Str)) (z : Str) (i : Nat) (s m : Nat) : Prop := s ≤ i ∧ i < s + m ∧ s + m ≤ z.length ∧ (plc h (cutN z s (s + m))).length = 1
/-- the least: by size, then by start -/
def LeastS (h : List (Int × Str)) (z : Str) (i : Nat) : Option (Nat × Nat) → Prop
  | none => ∀ s m, ¬ Sgl h z i s m
  | some (s, m) => Sgl h z i s m ∧ ∀ s' m', Sgl h z i s' m' → m < m' ∨ (m = m' ∧ s ≤ s')
theorem leastS_uniq {h : List (Int × Str)} {z : Str} {i : Nat} : ∀ {a b : Option (Nat × Nat)}, LeastS h z i a → LeastS h z i b → a = b
  | none, none, _, _ => rfl
  | none, some (s, m), h1, h2 => absurd h2.1 (h1 s m)
  | some (s, m), none, h1, h2 => absurd h1.1 (h2 s m)
  | some (s, m), some (s', m'), h1, h2 => by
    have a := h1.2 s' m' h2.1
    have b := h2.2 s m h1.1
    have : m = m' ∧ s = s' := by omega
    rw [this.1, this.2]
/-- how it is told -/
def AtS (_ : PySem.W.Frag) (H : Hp) (v : V) : Option (Nat × Nat) → Prop
  | none => v = .non
  | some (s, m) => ∃ t, v = .ref t ∧ H t = some (.tup [.int (s : Int), .int ((s + m : Nat) : Int)])
def dS : Option (Nat × Nat) → PyData
  | none => .none
  | some (s, m) => .tuple [.int (s : Int), .int ((s + m : Nat) : Int)]
theorem AtS.dp {K : PySem.W.Frag} {H : Hp} {v : V} : ∀ {r : Option (Nat × Nat)}, AtS K H v r → Dp K H v (dS r)
  | none, h => by rw [show v = .non from h]; exact .non
  | some (s, m), h => by
    obtain ⟨t, rfl, ht⟩ := h
    exact .tup (.inl (.inl ht)) (.cons (.int _) (.cons (.int _) .nil))
theorem AtS.same {K : PySem.W.Frag} {H H' : Hp} {v : V} (e : Same H H') : ∀ {r : Option (Nat × Nat)}, AtS K H v r → AtS K H' v r
  | none, h => h
  | some (s, m), h => by
    obtain ⟨t, rfl, ht⟩ := h
    exact ⟨t, rfl, e _ _ ht⟩
theorem okd_S : ∀ r : Option (Nat × Nat), Okd (dS r)
  | none => okd_non
  | some (s, m) => ⟨rfl, by show max 0 (max 0 0) + 1 ≤ 60; decide⟩
end SH
set_option Elab.async false
set_option linter.all false
set_option maxRecDepth 100000
set_option maxHeartbeats 4000000
/-! how many texts have how many letters -/
namespace SH
open PySem PySem.Spec PyProof.Rows L2
def cntOf (k : Nat) (p : List Str) : Nat := (p.filter fun z => decide (z.length = k + 1)).length
def cntsTo (m : Nat) (p : List Str) : List Int := (List.range m).map fun k => ((cntOf k p : Nat) : Int)
theorem cntsTo_len (m : Nat) (p : List Str) : (cntsTo m p).length = m := by unfold cntsTo; rw [List.length_map, List.length_range]
theorem cntOf_snoc (k : Nat) (p : List Str) (w : Str) : cntOf k (p ++ [w]) = cntOf k p + (if w.length = k + 1 then 1 else 0) := by
  unfold cntOf
  rw [List.filter_append, List.length_append]
  by_cases c : w.length = k + 1
  · simp [c]
  · simp [c]
theorem cntOf_zero {k : Nat} {p : List Str} (h : ∀ z ∈ p, z.length ≤ k) : cntOf k p = 0 := by
  unfold cntOf
  rw [List.filter_eq_nil_iff.mpr fun z hz hd => by have := h z hz; have := of_decide_eq_true hd; omega]
  rfl
theorem cntsTo_grow {m : Nat} {p : List Str} (h : ∀ z ∈ p, z.length ≤ m) : cntsTo m p ++ [0] = cntsTo (m + 1) p := by
  unfold cntsTo
  rw [List.range_succ, List.map_append]
  show _ = _ ++ [((cntOf m p : Nat) : Int)]
  rw [cntOf_zero h]
  rfl
theorem cntsTo_at (m : Nat) (p : List Str) : atI ((cntsTo (m + 1) p).map V.int) (-1) = some (.int ((cntOf m p : Nat) : Int)) := by
  unfold cntsTo
  rw [List.range_succ, List.map_append, List.map_append]
  exact atI_last _ _
theorem cntsTo_ix (m : Nat) (p : List Str) : ixN ((cntsTo (m + 1) p).map V.int).length (-1) = some m := by
  rw [List.length_map, cntsTo_len]
  unfold ixN
  rw [if_neg (by decide), if_pos (by omega)]
  congr 1
  omega
theorem cntsTo_set {m : Nat} {p : List Str} {w : Str} (h : w.length = m + 1) : ((cntsTo (m + 1) p).map V.int).set m (.int (((cntOf m p : Nat) : Int) + 1)) = (cntsTo (m + 1) (p ++ [w])).map V.int := by
  rw [← List.map_set]
  congr 1
  refine List.ext_getElem? fun k => ?_
  unfold cntsTo
  rw [List.getElem?_set, List.getElem?_map, List.getElem?_map, List.length_map, List.length_range]
  rcases Nat.lt_or_ge k (m + 1) with c | c
  · rw [List.getElem?_range c]
    by_cases e : m = k
    · subst e
      rw [if_pos rfl, if_pos c]
      show some _ = some _
      congr 1
      show _ = ((cntOf m (p ++ [w]) : Nat) : Int)
      rw [cntOf_snoc, if_pos h]
      omega
    · rw [if_neg e]
      show some _ = some _
      congr 1
      show ((cntOf k p : Nat) : Int) = ((cntOf k (p ++ [w]) : Nat) : Int)
      rw [cntOf_snoc, if_neg (by omega)]
      rfl
  · rw [if_neg (by omega), List.getElem?_eq_none (by rw [List.length_range]; exact c)]
    rfl
theorem cntOf_perm {k : Nat} {p q : List Str} (h : p.Perm q) : cntOf k p = cntOf k q := (h.filter _).length_eq
theorem cntsTo_perm {m : Nat} {p q : List Str} (h : p.Perm q) : cntsTo m p = cntsTo m q := by
  unfold cntsTo
  exact List.map_congr_left fun k _ => by rw [cntOf_perm h]
/-- the longest -/
structure MaxL (m : Nat) (p : List Str) : Prop where
  le : ∀ z ∈ p, z.length ≤ m
  has : m = 0 ∨ ∃ z ∈ p, z.length = m
theorem MaxL.uniq {m n : Nat} {p : List Str} (h : MaxL m p) (k : MaxL n p) : m = n := by
  rcases h.has with a | ⟨z, hz, a⟩ <;> rcases k.has with b | ⟨y, hy, b⟩
  · omega
  · have := h.le y hy; omega
  · have := k.le z hz; omega
  · have := h.le y hy
    have := k.le z hz
    omega
theorem MaxL.perm {m : Nat} {p q : List Str} (e : ∀ z, z ∈ p ↔ z ∈ q) (h : MaxL m p) : MaxL m q := ⟨fun z hz => h.le z ((e z).mpr hz), h.has.imp id fun ⟨z, hz, a⟩ => ⟨z, (e z).mp hz, a⟩⟩
theorem occ_isStr {h : List (Int × Str)} {p : List Nat} : p ∈ ((occ h).map (·.1)).map TL.tl ↔ isStr h p := by
  rw [← mem_cutsH]
  have key : ∀ q : Int × Str, p ∈ ((occQ q q.2.length).map (·.1)).map TL.tl ↔ p ∈ cutsZ q.2 := fun q => by
    unfold occQ cutsZ
    rw [List.map_flatMap, List.map_flatMap, List.mem_flatMap, List.mem_flatMap]
    have e : ∀ s ∈ List.range q.2.length, ((occA q.2 q.1 s (q.2.length - s)).map (·.1)).map TL.tl = cuts q.2 s := fun s hs => by
      have hs := List.mem_range.mp hs
      unfold occA cuts
      rw [List.map_map, List.map_map]
      refine List.map_congr_left fun k hk => ?_
      have hk := List.mem_range.mp hk
      show TL.tl (cutN q.2 s (s + 1 + k)) = _
      rw [cutN_tl (by omega) (by omega), show s + 1 + k - s = k + 1 by omega]
    exact ⟨fun ⟨s, hs, hp⟩ => ⟨s, hs, (e s hs) ▸ hp⟩, fun ⟨s, hs, hp⟩ => ⟨s, hs, (e s hs).symm ▸ hp⟩⟩
  unfold occ cutsH
  rw [List.map_flatMap, List.map_flatMap, List.mem_flatMap, List.mem_flatMap]
  exact ⟨fun ⟨q, hq, hp⟩ => ⟨q, hq, (key q).mp hp⟩, fun ⟨q, hq, hp⟩ => ⟨q, hq, (key q).mpr hp⟩⟩
theorem tl_inj {x y : Str} (h : TL.tl x = TL.tl y) : x = y := str_ext h
theorem strN_occ {h : List (Int × Str)} {l : List Str} (nd : l.Nodup) (hm : ∀ z, z ∈ l ↔ z ∈ (occ h).map (·.1)) : l.length = strN h := by
  have := strN_of (h := h) (l := l.map TL.tl) (by rw [List.Nodup, List.pairwise_map]; exact nd.imp fun n e => n (tl_inj e)) fun p => by
    rw [← occ_isStr, List.mem_map, List.mem_map]
    exact ⟨fun ⟨z, hz, e⟩ => ⟨z, (hm z).mp hz, e⟩, fun ⟨z, hz, e⟩ => ⟨z, (hm z).mpr hz, e⟩⟩
  rw [List.length_map] at this
  exact this
/-- letters are left out at the end -/
theorem occ_pos {h : List (Int × Str)} {z : Str} (hm : z ∈ (occ h).map (·.1)) : 0 < z.length := by
  obtain ⟨o, ho, rfl⟩ := List.mem_map.mp hm
  obtain ⟨q, hq, ho⟩ := List.mem_flatMap.mp ho
  obtain ⟨s, hs, ho⟩ := List.mem_flatMap.mp ho
  obtain ⟨k, hk, rfl⟩ := List.mem_map.mp ho
  have hs := List.mem_range.mp hs
  have hk := List.mem_range.mp hk
  show 0 < (cutN q.2 s (s + 1 + k)).length
  have e := cutN_len (z := q.2) (a := s) (b := s + 1 + k) (by omega) (by omega)
  omega
theorem occ_memK {h : List (Int × Str)} {q : Int × Str} (hq : q ∈ h) {s k : Nat} (hk : s + k < q.2.length) : cutN q.2 s (s + 1 + k) ∈ (occ h).map (·.1) :=
  List.mem_map.mpr ⟨(cutN q.2 s (s + 1 + k), q.1), List.mem_flatMap.mpr ⟨q, hq, List.mem_flatMap.mpr ⟨s, List.mem_range.mpr (by omega), List.mem_map.mpr ⟨k, List.mem_range.mpr (by omega), rfl⟩⟩⟩, rfl⟩
theorem occ_less {h : List (Int × Str)} {z : Str} {m : Nat} (hm : z ∈ (occ h).map (·.1)) (hz : z.length = m + 2) : ∃ y ∈ (occ h).map (·.1), y.length = m + 1 := by
  obtain ⟨o, ho, rfl⟩ := List.mem_map.mp hm
  obtain ⟨q, hq, ho⟩ := List.mem_flatMap.mp ho
  obtain ⟨s, hs, ho⟩ := List.mem_flatMap.mp ho
  obtain ⟨k, hk, rfl⟩ := List.mem_map.mp ho
  have hs := List.mem_range.mp hs
  have hk := List.mem_range.mp hk
  have e := cutN_len (z := q.2) (a := s) (b := s + 1 + k) (by omega) (by omega)
  have hz : (cutN q.2 s (s + 1 + k)).length = m + 2 := hz
  refine ⟨_, occ_memK hq (s := s) (k := m) (by omega), ?_⟩
  have := cutN_len (z := q.2) (a := s) (b := s + 1 + m) (by omega) (by omega)
  omega
theorem maxL_next {h : List (Int × Str)} {l : List Str} (hl : StrL ((occ h).map (·.1)) l) {i : Nat} {w : Str} (hw : l[i]? = some w) {m : Nat} (hm : MaxL m (l.take i)) : (m = w.length ∨ m + 1 = w.length) ∧ 0 < w.length ∧ MaxL w.length (l.take i ++ [w]) := by
  have il : i < l.length := (List.getElem?_eq_some_iff.mp hw).1
  have wm : w ∈ l := List.mem_of_getElem? hw
  have split : l = l.take i ++ (w :: l.drop (i + 1)) := by
    have e1 := List.take_append_drop i l
    have e2 : l.drop i = w :: l.drop (i + 1) := by
      rw [List.drop_eq_getElem_cons il]
      congr 1
      exact Option.some.inj ((List.getElem?_eq_getElem il).symm.trans hw)
    rw [e2] at e1
    exact e1.symm
  have pw := hl.pw
  rw [split, List.pairwise_append] at pw
  obtain ⟨_, p2, p3⟩ := pw
  rw [List.pairwise_cons] at p2
  have lel : ∀ {x y : Str}, leL x y → x.length ≤ y.length := fun h => by rcases h with h | ⟨h, _⟩ <;> omega
  have a1 : m ≤ w.length := by
    rcases hm.has with e | ⟨z, hz, e⟩
    · omega
    · have := lel (p3 z hz w (List.mem_cons_self ..))
      omega
  have pos := occ_pos ((hl.mem w).mp wm)
  refine ⟨?_, pos, ⟨fun z hz => ?_, .inr ⟨w, by simp, rfl⟩⟩⟩
  · rcases Nat.lt_or_ge (m + 1) w.length with c | c
    · obtain ⟨y, hy, ey⟩ := occ_less ((hl.mem w).mp wm) (m := w.length - 2) (by omega)
      have ym := (hl.mem y).mpr hy
      rw [split] at ym
      rcases List.mem_append.mp ym with m1 | m1
      · have := hm.le y m1
        omega
      · rcases List.mem_cons.mp m1 with e | m2
        · rw [e] at ey
          omega
        · have := lel (p2.1 y m2)
          omega
    · omega
  · rcases List.mem_append.mp hz with m1 | m1
    · exact lel (p3 z m1 w (List.mem_cons_self ..))
    · rw [List.mem_singleton.mp m1]
      exact Nat.le_refl _
theorem filter_both {α : Type} (f : α → Bool) : ∀ p : List α, p.length = (p.filter f).length + (p.filter fun z => !f z).length
  | [] => rfl
  | x :: r => by
    have ih := filter_both f r
    cases e : f x with
    | true =>
      rw [List.filter_cons_of_pos e, List.filter_cons_of_neg (by rw [e]; decide), List.length_cons, List.length_cons]
      omega
    | false =>
      rw [List.filter_cons_of_neg (by rw [e]; decide), List.filter_cons_of_pos (by rw [e]; rfl), List.length_cons, List.length_cons]
      omega
/-- all of them together -/
theorem cnts_sum : ∀ {p : List Str} {m : Nat}, (∀ z ∈ p, 0 < z.length ∧ z.length ≤ m) → (cntsTo m p).sum = (p.length : Int)
  | p, 0, h => by
    have : p = [] := List.eq_nil_iff_forall_not_mem.mpr fun z hz => by have := h z hz; omega
    subst this
    rfl
  | p, m + 1, h => by
    have e1 : (cntsTo (m + 1) p) = cntsTo m (p.filter fun z => decide (z.length ≤ m)) ++ [((cntOf m p : Nat) : Int)] := by
      unfold cntsTo
      rw [List.range_succ, List.map_append]
      congr 1
      refine List.map_congr_left fun k hk => ?_
      have hk := List.mem_range.mp hk
      show ((cntOf k p : Nat) : Int) = _
      unfold cntOf
      rw [List.filter_filter]
      congr 2
      refine List.filter_congr fun z _ => ?_
      by_cases c : z.length = k + 1
      · rw [decide_eq_true c, decide_eq_true (by omega : z.length ≤ m)]
        rfl
      · rw [decide_eq_false c]
        rfl
    have ih := cnts_sum (p := p.filter fun z => decide (z.length ≤ m)) (m := m) fun z hz => by
      obtain ⟨h1, h2⟩ := List.mem_filter.mp hz
      exact ⟨(h z h1).1, of_decide_eq_true h2⟩
    rw [e1, List.sum_append, ih]
    have : (p.filter fun z => decide (z.length ≤ m)).length + cntOf m p = p.length := by
      have e2 := filter_both (fun z : Str => decide (z.length ≤ m)) p
      have e3 : cntOf m p = (p.filter fun z => !decide (z.length ≤ m)).length := by
        unfold cntOf
        congr 1
        refine List.filter_congr fun z hz => ?_
        have := h z hz
        by_cases c : z.length = m + 1
        · rw [decide_eq_true c, decide_eq_false (by omega)]
          rfl
        · rw [decide_eq_false c, decide_eq_true (by omega)]
          rfl
      omega
    simp only [List.sum_cons, List.sum_nil]
    omega
end SH
set_option Elab.async false
set_option linter.all false
set_option maxRecDepth 100000
set_option maxHeartbeats 4000000
/-! zip of two texts: new pairs of their signs -/
namespace SH
open PySem PySem.Spec PyProof.Rows L2
def pairHere (x y : Str) (i : Nat) (H : Hp) (v : V) (H' : Hp) : Prop := ∃ (T : Addr) (c d : Nat), v = .ref T ∧ H T = none ∧ H' = upd H T (.tup [.str ⟨#[c]⟩, .str ⟨#[d]⟩]) ∧ x.cps[i]? = some c ∧ y.cps[i]? = some d
def Itzs (x y : Str) : It := ⟨fun i _ => i < min x.cps.size y.cps.size, fun i H v H' => pairHere x y i H v H', fun i _ => i = min x.cps.size y.cps.size⟩
def zipsAt (x y : Str) (t u : Tok) (z TI TO i1 i2 : Addr) (i : Nat) (h : Heap) : Prop :=
  IsZip h z TI TO .none ∧ IsTupOf2 h TI (.ref i1) (.ref i2) ∧ (∃ p q, IsTupOf2 h TO p q) ∧ h.IsStrIter i1 (strIterType x) x t i ∧ h.IsStrIter i2 (strIterType y) y u i
theorem turn_zips {P : Program} {w : World} {K : PySem.W.Frag} {es : List Expr} {n : Nat} {ps : Pos} {x y : Str} {t u : Tok} {z TI TO i1 i2 : Addr} (D : ZipSep2 z TI TO i1 i2 [i1] [i2]) :
    Turn P w K (.Tuple es n ps) (Itzs x y) [z, TI, TO, i1, i2] z (zipsAt x y t u z TI TO i1 i2) where
  mem := by simp
  obj := fun i h st c hc => by
    obtain ⟨g0, gI, ⟨p, q, gO⟩, ⟨o1, e1, _, d1⟩, ⟨o2, e2, _, d2⟩⟩ := st
    simp only [List.mem_cons, List.not_mem_nil, or_false] at hc
    rcases hc with rfl | rfl | rfl | rfl | rfl
    · exact ⟨_, g0, fun v q => nomatch q⟩
    · exact ⟨_, gI, fun v q => nomatch q⟩
    · exact ⟨_, gO, fun v q => nomatch q⟩
    · exact ⟨o1, e1, fun v q => by rw [d1] at q; cases q⟩
    · exact ⟨o2, e2, fun v q => by rw [d2] at q; cases q⟩
  keep := fun i h h' st k => by
    obtain ⟨g0, gI, ⟨p, q, gO⟩, ⟨o1, e1, r1⟩, ⟨o2, e2, r2⟩⟩ := st
    exact ⟨k z (by simp) _ g0, k TI (by simp) _ gI, ⟨p, q, k TO (by simp) _ gO⟩, ⟨o1, k i1 (by simp) _ e1, r1⟩, ⟨o2, k i2 (by simp) _ e2, r2⟩⟩
  item := by
    intro X hP hw hK hc i pins s σ H E I hf st hg
    subst hP hw hK
    obtain ⟨g0, gI, ⟨p, q, gO⟩, st1, st2⟩ := st
    have hg' : i < min x.cps.size y.cps.size := hg
    have hh : X.A.in1.handled = none := I.ok.hd hc
    refine wpAny_pyNext_zipD2_item D (Draws.text hh i1 x t) (Draws.text hh i2 y u) g0 gI gO st1 st2 (by omega) (by omega) fun v1 v2 h' tk hv1 hv2 z' TO' st1' st2' hT hsz hk => ?_
    obtain ⟨c, a1, hc1, rfl⟩ := hv1
    obtain ⟨d, a2, hd1, rfl⟩ := hv2
    have hzl : z < s.heap.objs.size := Heap.lt_size g0
    refine ⟨_, rfl, wpAny_letOwnedTupleGo_zip (s := { s with heap := h', toks := tk }) z' fun h2 z2 sb => ?_⟩
    have hT2 : IsTupOf2 h2 s.heap.objs.size (.str ⟨#[c]⟩ a1) (.str ⟨#[d]⟩ a2) := (sb.2 _ (Nat.ne_of_gt hzl)).trans hT
    have new : ObjOk X.prog X.w (upd H s.heap.objs.size (.tup [.str ⟨#[c]⟩, .str ⟨#[d]⟩])) h2 s.heap.objs.size (.tup [.str ⟨#[c]⟩, .str ⟨#[d]⟩]) :=
      ⟨by show 2 ≤ sizeLine; decide, [_, _], .cons ⟨_, rfl⟩ (.cons ⟨_, rfl⟩ .nil), ⟨_, hT2, rfl, _, rfl⟩⟩
    have I1 : Inv X pins σ (upd H s.heap.objs.size (.tup [.str ⟨#[c]⟩, .str ⟨#[d]⟩])) { s with heap := h2, toks := tk } :=
      I.turnedNew (t' := tk) (ch := [z, TI, TO, i1, i2]) (fun b o hb e => by
        simp only [List.mem_cons, List.not_mem_nil, or_false, not_or] at hb
        exact (sb.2 b hb.1).trans (hk b o hb.1 hb.2.2.1 hb.2.2.2.1 hb.2.2.2.2 e)) hf (Nat.le_refl _) new
    refine ⟨.ref s.heap.objs.size, _, I1, rfl, ⟨_, c, d, rfl, I.hok.fresh (Nat.le_refl _), rfl, hc1, hd1⟩, ⟨z2, ?_, ⟨.str ⟨#[c]⟩ a1, .str ⟨#[d]⟩ a2, ?_⟩, ?_, ?_⟩, fun b hb => ?_⟩
    · exact (sb.2 _ D.TIz).trans (hk _ _ D.TIz D.TITO D.TIi1 D.TIi2 gI)
    · exact (sb.2 _ D.TOz).trans TO'
    · obtain ⟨o, e, r⟩ := st1'
      exact ⟨o, (sb.2 _ (Ne.symm D.zi1)).trans e, r⟩
    · obtain ⟨o, e, r⟩ := st2'
      exact ⟨o, (sb.2 _ (Ne.symm D.zi2)).trans e, r⟩
    · have hlt : b < s.heap.objs.size := by
        simp only [List.mem_cons, List.not_mem_nil, or_false] at hb
        rcases hb with rfl | rfl | rfl | rfl | rfl
        · exact hzl
        · exact Heap.lt_size gI
        · exact Heap.lt_size gO
        · obtain ⟨_, e, _⟩ := st1; exact Heap.lt_size e
        · obtain ⟨_, e, _⟩ := st2; exact Heap.lt_size e
      rw [upd_ne (Nat.ne_of_lt hlt)]
      exact (hf b hb).1
  done := by
    intro X hP hw hK hc i pins s σ H E I hf st hg
    subst hP hw hK
    obtain ⟨g0, gI, ⟨p, q, gO⟩, st1, st2⟩ := st
    have hg' : i = min x.cps.size y.cps.size := hg
    have hh : X.A.in1.handled = none := I.ok.hd hc
    exact wpAny_pyNext_zipD2_end D (Draws.text hh i1 x t) (Draws.text hh i2 y u) g0 gI gO st1 st2 (by omega) (by omega) (by omega) fun h' tk hk => ⟨rfl, I.turnedL (t' := tk) (ch := [z, TI, TO, i1, i2]) (fun b o hb e => by
      simp only [List.mem_cons, List.not_mem_nil, or_false, not_or] at hb
      exact hk b o hb.1 hb.2.2.1 hb.2.2.2.1 hb.2.2.2.2 e) hf⟩
  self := fun A i s Q E st h => wpAny_pyIter_zip st.1 h
def iZipS (ta : TA) : TI := fun σ H R => ta σ H fun vs H1 => ∃ x y, vs = [.str x, .str y] ∧ R (Itzs x y) H1
theorem pi_zipS {X : Cx} {e e2 : Expr} {ta : TA} {p pos ps : Pos} {es : List Expr} {n : Nat} (hg : Gl X "zip") (hm : X.mg "zip" = none) (ha : PA X [e, e2] ta)
    (hs : starEach [e, e2] X.env = (false, eval e X.env) :: starEach [e2] X.env := by rfl) (hpl : (backTo pos (starEach [e2] X.env)).any (·.1) = false := by rfl) :
    PI X (.Tuple es n ps) (.Call (.Name "zip" p) [e, e2] [] pos) (iZipS ta) := by
  refine ⟨fun pins s σ H R I h => ?_⟩
  refine Call_ (ld_blt I hg hm PyProof.Rows.boot_zip (PyProof.Rows.callWith_type1 (thn (ha.run pos pins s σ H _ I h) fun us s1 ⟨vs, H1, I1, r1, q1⟩ => ?_) hs hpl))
  obtain ⟨x, y, ex, q⟩ := q1
  subst ex
  obtain ⟨v1, v2, rfl, ⟨t1, rfl⟩, ⟨t2, rfl⟩⟩ := vals2 r1
  refine zip_begins2 (begins_text x t1) (begins_text y t2) trivial trivial fun h' g0 gI gO g1 g2 hsz hk => wpAny_pyIter_zip g0 ?_
  have I2 : Inv X pins σ H1 { s1 with heap := h' } := I1.kept (t' := s1.toks) hk
  refine ⟨s1.heap.objs.size + 4, [s1.heap.objs.size + 4, s1.heap.objs.size + 2, s1.heap.objs.size + 3, s1.heap.objs.size, s1.heap.objs.size + 1], _, _, H1, rfl, I2,
    turn_zips (t := t1) (u := t2) (zip_sep2 (fp1 := []) (fp2 := []) (fun _ h => nomatch h) fun _ h => nomatch h), ⟨g0, gI, ⟨_, _, gO⟩, ⟨_, g1, rfl, rfl⟩, ⟨_, g2, rfl, rfl⟩⟩, fun b hb => ?_, q⟩
  have hle : s1.heap.objs.size ≤ b := by
    simp only [List.mem_cons, List.not_mem_nil, or_false] at hb
    rcases hb with rfl | rfl | rfl | rfl | rfl
    · exact Nat.le_add_right _ _
    · exact Nat.le_add_right _ _
    · exact Nat.le_add_right _ _
    · exact Nat.le_refl _
    · exact Nat.le_add_right _ _
  exact I1.fpOk hle (I1.hok.fresh hle)
theorem walk_zips {x y : Str} : Walk (Itzs x y) (min x.cps.size y.cps.size) (fun _ => True) (pairHere x y) :=
  ⟨fun _ _ hi _ => hi, fun _ _ => rfl, fun _ _ _ _ _ _ q => q⟩
end SH
set_option Elab.async false
set_option linter.all false
set_option maxRecDepth 100000
set_option maxHeartbeats 4000000
/-! slices of texts as lists of signs; letters joined -/
namespace SH
open PySem PySem.Spec PyProof.Rows L2
theorem tlen (z : Str) : (TL.tl z).length = z.length := (TL.len_tl z).symm
theorem cuts_take (z : Str) (k : Nat) : TL.tl (cutS z none (some (k : Int))) = (TL.tl z).take k := by
  show (z.cps.toList.drop (HT.sIx z.length 0 none)).take (HT.sIx z.length z.length (some (k : Int)) - HT.sIx z.length 0 none) = _
  rw [HT.sIx_none, HT.sIx_nat, List.drop_zero, Nat.sub_zero]
  have hz : z.cps.toList.length = z.length := rfl
  rcases Nat.le_total k z.length with h | h
  · rw [Nat.min_eq_left h]
  · rw [Nat.min_eq_right h, List.take_of_length_le (by rw [hz]; exact Nat.le_refl _)]
    exact (List.take_of_length_le (by rw [tlen]; exact h)).symm
theorem cuts_drop (z : Str) (k : Nat) : TL.tl (cutS z (some (k : Int)) none) = (TL.tl z).drop k := by
  show (z.cps.toList.drop (HT.sIx z.length 0 (some (k : Int)))).take (HT.sIx z.length z.length none - HT.sIx z.length 0 (some (k : Int))) = _
  rw [HT.sIx_none, HT.sIx_nat]
  have hz : z.cps.toList.length = z.length := rfl
  rcases Nat.le_total k z.length with h | h
  · rw [Nat.min_eq_left h, List.take_of_length_le (by rw [List.length_drop, hz]; exact Nat.le_refl _)]
  · rw [Nat.min_eq_right h, List.drop_of_length_le (by rw [hz]; exact Nat.le_refl _), List.take_nil]
    exact (List.drop_of_length_le (by rw [tlen]; exact h)).symm
theorem joinL_ones : ∀ cs : List Nat, TL.joinL [] (cs.map fun c => [c]) = cs
  | [] => rfl
  | [c] => rfl
  | c :: d :: r => by
    show [c] ++ ([] ++ TL.joinL [] ((d :: r).map fun c => [c])) = _
    rw [joinL_ones (d :: r)]
    rfl
theorem tl_join_ones (cs : List Nat) : TL.tl (Txt.join "" (cs.map fun c => (⟨#[c]⟩ : Str))) = cs := by
  have e : (Txt.join "" (cs.map fun c => (⟨#[c]⟩ : Str))).cps.toList = TL.joinL [] (cs.map fun c => [c]) := by
    rw [TL.join_eq]
    refine (TL.tl_join "" _).trans ?_
    rw [List.map_map]
    rfl
  rw [joinL_ones] at e
  exact e
theorem cut_let {z : Str} (h : IsLet z) (lo hi : Option Int) : IsLet (cutS z lo hi) := List.all_eq_true.mpr fun c hc => List.all_eq_true.mp h c (List.mem_of_mem_drop (List.mem_of_mem_take (show c ∈ (z.cps.toList.drop _).take _ from hc)))
end SH
set_option Elab.async false
set_option linter.all false
set_option maxRecDepth 100000
set_option maxHeartbeats 4000000
/-! xs[i] += e -/
namespace SH
open PySem PySem.Spec PyProof.Rows L2
theorem pget_list {X : Cx} : PGet X (rIxL X.K) := by
  intro pins s σ H x y v u Q I rx ry h
  obtain ⟨p, xs, i, z, rfl, rfl, hq, he, q⟩ := h
  cases rx
  obtain ⟨t, rfl⟩ := ry
  obtain ⟨its, r, pl, hz⟩ := I.list hq
  obtain ⟨j, h1, h2, h3, h4, h5⟩ := atI_get he
  obtain ⟨w, ew, rw'⟩ := r.get h2
  have hl := r.length
  have hn := line63
  have fin : EP X pins σ Q w s := ⟨z, H, I, rw', q⟩
  by_cases h0 : 0 ≤ i
  · have hj : i.toNat = j := by
      rw [seqIndex_of h0 h5] at h1
      exact Option.some.inj h1
    exact wpAny_getItem_list pl.isList h0 (by omega) (by rw [hj]; simpa using ew) fin
  · have hj : (i + (its.toArray.size : Int)).toNat = j := by
      rw [seqIndex_neg (by omega) h4] at h1
      rw [List.size_toArray, ← hl]
      exact Option.some.inj h1
    exact wpAny_getItem_list_neg pl.isList (by omega) (by rw [List.size_toArray] <;> omega) (by omega) (by rw [hj]; simpa using ew) fin
theorem pgetK {X : Cx} {K : PySem.W.Frag} (h : X.K = K := by rfl) : PGet X (rIxL K) := h ▸ pget_list
theorem call_len_seqK {X : Cx} {K : PySem.W.Frag} (h : X.K = K := by rfl) : CallR X (.builtin "len") (fun xs H Q => ∃ p ys, xs = [.ref p] ∧ (SqL K H p ys ∨ SqT K H p ys) ∧ Q (.int ys.length) H) := h ▸ call_len_seq
theorem call_list_ofK {X : Cx} {K : PySem.W.Frag} (h : X.K = K := by rfl) : CallR X (.type "list") (fun xs H Q => ∃ p ys, xs = [.ref p] ∧ (SqL K H p ys ∨ SqT K H p ys) ∧ ∀ l, H l = none → Q (.ref l) (upd H l (.lst ys))) := h ▸ call_list_of
theorem op_notIn_seqK {X : Cx} {K : PySem.W.Frag} (h : X.K = K := by rfl) : OpR X (compareOp .NotIn) (rIn K true) := h ▸ op_notIn_seq
end SH
set_option Elab.async false
set_option linter.all false
set_option maxRecDepth 100000
set_option maxHeartbeats 4000000
namespace SH
open PySem PySem.Spec PyProof.Rows L2
def topS (i : Nat) : Stmt := PySem.Challenge.pw_suffixhouse_k28_numbers_of_stretches.main.body.getD i (.Pass ⟨0, 0, 0, 0⟩)
abbrev s_stretches : Stmt := topS 1
abbrev s_stretch_counts : Stmt := topS 3
abbrev s_stretch_count : Stmt := topS 5
abbrev s_order_of : Stmt := topS 7
abbrev s_commons_of : Stmt := topS 8
abbrev s__common_size : Stmt := topS 9
abbrev s__law_draws : Stmt := topS 11
abbrev s__law_at : Stmt := topS 12
abbrev s__law_is_integer : Stmt := topS 13
abbrev s__law_text : Stmt := topS 14
abbrev s__law_house : Stmt := topS 15
abbrev s__law_words : Stmt := topS 16
abbrev s_law : Stmt := topS 18
structure Ea where
  fI : Addr
structure Txt (K : PySem.W.Frag) (mg : Str → Option Value) (ea : Ea) : Prop where
  b_abs : mg "abs" = none
  b_bool : mg "bool" = none
  b_dict : mg "dict" = none
  b_int : mg "int" = none
  b_isinstance : mg "isinstance" = none
  b_len : mg "len" = none
  b_list : mg "list" = none
  b_max : mg "max" = none
  b_min : mg "min" = none
  b_range : mg "range" = none
  b_sorted : mg "sorted" = none
  b_sum : mg "sum" = none
  b_zip : mg "zip" = none
  d_stretches : Dd K mg "stretches" s_stretches ["house"]
  d_stretch_counts : Dd K mg "stretch_counts" s_stretch_counts ["house"]
  d_stretch_count : Dd K mg "stretch_count" s_stretch_count ["house", "order", "commons"]
  d_order_of : Dd K mg "order_of" s_order_of ["house"]
  d_commons_of : Dd K mg "commons_of" s_commons_of ["house", "order"]
  d__common_size : Dd K mg "_common_size" s__common_size ["texts", "one", "two"]
  d__law_draws : Dd K mg "_law_draws" s__law_draws ["script"]
  d__law_at : Dd K mg "_law_at" s__law_at ["draws", "k", "many"]
  d__law_is_integer : Dd K mg "_law_is_integer" s__law_is_integer ["actual"]
  d__law_text : Dd K mg "_law_text" s__law_text ["draws", "first", "most"]
  d__law_house : Dd K mg "_law_house" s__law_house ["draws", "first"]
  d__law_words : Dd K mg "_law_words" s__law_words ["house"]
  d_law : Dd K mg "law" s_law ["script"]
section
variable {P : Program} {w : World} {K : PySem.W.Frag} {mg : Str → Option Value} {base : Heap} {ea : Ea}
/-- the numbers drawn from the script: a new list of small numbers -/
def spDraws (K : PySem.W.Frag) : Sp := fun vs H Q _ => ∃ (a : Addr) (ns : List Int), vs = [.ref a] ∧ SqL K H a (ns.map V.int) ∧ ns.length ≤ 63 ∧
  ∀ (p : Addr) (ds : List Int) (H' : Hp), Same H H' → H p = none → H' p = some (.lst (ds.map V.int)) → Dr ds → Q (.ref p) H'
/-- the list at p so far -/
structure DrAt (H H' : Hp) (p : Addr) (n : Nat) (ds : List Int) : Prop where
  sm : Same H H'
  at_ : H' p = some (.lst (ds.map V.int))
  len : ds.length ≤ n
  all : ∀ z ∈ ds, 0 ≤ z ∧ z < 65536
theorem DrAt.more {H H' : Hp} {p : Addr} {n : Nat} {ds : List Int} (h : DrAt H H' p n ds) (hp : H p = none) {z : Int} (z0 : 0 ≤ z) (z1 : z < 65536) : DrAt H (upd H' p (.lst (ds.map V.int ++ [.int z]))) p (n + 1) (ds ++ [z]) :=
  ⟨same_mut h.sm hp, by rw [upd_same, List.map_append]; rfl, by rw [List.length_append]; have := h.len; simp; omega, fun y hy => by
    rcases List.mem_append.mp hy with m | m
    · exact h.all y m
    · rw [List.mem_singleton.mp m]; exact ⟨z0, z1⟩⟩
theorem DrAt.mono {H H' : Hp} {p : Addr} {n m : Nat} {ds : List Int} (h : DrAt H H' p n ds) (l : n ≤ m) : DrAt H H' p m ds := ⟨h.sm, h.at_, Nat.le_trans h.len l, h.all⟩
theorem sc__law_draws : FnScope ["script", "draws", "k", "rest", "turn", "mixed"] ["script"] (defScope s__law_draws) := ⟨rfl, rfl, rfl, by decide +kernel, rfl, by decide +kernel, by decide +kernel⟩
theorem ok__law_draws (T : Txt K mg ea) : Cl P w K mg base 1 "_law_draws" (spDraws K) := by
  have nd := sc__law_draws.nd
  refine cl_of T.d__law_draws sc__law_draws (fun vs H Q E h => ?_) (fun f cdv A outer s H vs Q E hr h => ?_)
  · obtain ⟨a, ns, rfl, _⟩ := h
    rfl
  · obtain ⟨a, ns, rfl, hS, hl, q⟩ := h
    refine ⟨_, (pss_cons (ps_set (i := 1) nd rfl (.inl rfl) (pe_lst pa_nil))
      (pss_cons (ps_for PassesOwn.never rfl (pi_range1 rfl T.b_range (pa_cons (pe_callB (call_min2 rfl) (by rfl) T.b_min (by decide +kernel) (pa_cons pe_int (pa_cons (pe_callB call_len_seq (by rfl) T.b_len PySem.boot_len (pa_cons (pv 0) pa_nil)) pa_nil))) pa_nil)) (pg_name (i := 2) nd rfl (.inl rfl))
        (pss_cons (ps_set (i := 3) nd rfl (.inl rfl) (pe_callB call_abs (by rfl) T.b_abs (by decide +kernel) (pa_cons (pe_ix (ixl (K := K)) (pv 0) (pv 2) (fun _ _ => rfl)) pa_nil)))
          (pss_one (ps_if (pt_cmpR op_ge (pv 3) (pe_op op_pow pe_int pe_int) (nomark _))
            (pss_one (ps_for PassesOwn.never rfl (pi_range1 rfl T.b_range (pa_cons pe_int pa_nil)) (pg_name (i := 4) nd rfl (.inl rfl))
                (pss_one (ps_if (pt_cmpR op_gt (pv 3) pe_int (nomark _))
                    (pss_cons (ps_expr (pe_bm PySem.F.plainAttrs_list PySem.F.slot_list_append PySem.F.type_list_append mt_append (pv 1) (pa_cons (pe_op op_mod (pe_callTy call_int1 (by rfl) T.b_int (by decide +kernel) (pa_cons (pv 3) pa_nil)) pe_int) pa_nil)))
                      (pss_one (ps_set (i := 3) nd rfl (.inl rfl) (pe_op op_fdiv (pv 3) pe_int))))
                    pss_nil))))
            (pss_cons (ps_set (i := 5) nd rfl (.inl rfl) (pe_op op_mod (pe_callTy call_int1 (by rfl) T.b_int (by decide +kernel) (pa_cons (pe_op op_add (pe_op op_mul (pv 3) pe_int) (pe_op op_mul (pe_op op_add (pv 2) pe_int) pe_int)) pa_nil)) pe_int))
              (pss_cons (ps_set (i := 5) nd rfl (.inl rfl) (pe_op op_mod (pe_callTy call_int1 (by rfl) T.b_int (by decide +kernel) (pa_cons (pe_op op_add (pe_op op_add (pe_op op_mul (pv 5) pe_int) (pe_op op_mul pe_int (pv 2))) pe_int) pa_nil)) pe_int))
              (pss_cons (ps_expr (pe_bm PySem.F.plainAttrs_list PySem.F.slot_list_append PySem.F.type_list_append mt_append (pv 1) (pa_cons (pe_op op_mod (pe_callTy call_int1 (by rfl) T.b_int (by decide +kernel) (pa_cons (pv 5) pa_nil)) pe_int) pa_nil)))
              (pss_one (ps_expr (pe_bm PySem.F.plainAttrs_list PySem.F.slot_list_append PySem.F.type_list_append mt_append (pv 1) (pa_cons (pe_op op_mod (pe_callTy call_int1 (by rfl) T.b_int (by decide +kernel) (pa_cons (pe_op op_fdiv (pv 5) pe_int) pa_nil)) pe_int) pa_nil)))))))))))
      (pss_one (ps_ret (pv 1))))), ?_⟩
    refine ⟨Nat.zero_le _, fun p hp => ?_⟩
    have sm0 : Same H (upd H p (.lst [])) := same_new hp
    have hlen : (ns.map V.int).length = ns.length := List.length_map ..
    refine ⟨_, rfl, _, _, rfl, .inl (sm0.seq hS), _, _, rfl, ?_⟩
    have hm : (if ((ns.map V.int).length : Int) < 63 then ((ns.map V.int).length : Int) else 63) ≤ ns.length ∧ 0 ≤ (if ((ns.map V.int).length : Int) < 63 then ((ns.map V.int).length : Int) else 63) ∧ (if ((ns.map V.int).length : Int) < 63 then ((ns.map V.int).length : Int) else 63) ≤ 63 := by
      rw [hlen]; split <;> omega
    refine ⟨_, rfl, by omega, by omega, ?_⟩
    generalize (if ((ns.map V.int).length : Int) < 63 then ((ns.map V.int).length : Int) else 63) = m at hm ⊢
    obtain ⟨m1, m0, m2⟩ := hm
    refine for_range (lo := 0) (n := m.toNat) (fun i σ H' => ∃ (ds : List Int) (y2 y3 y4 y5 : Option V), σ = [some (.ref a), some (.ref p), y2, y3, y4, y5] ∧ DrAt H H' p (60 * i) ds)
      ⟨[], none, none, none, none, rfl, sm0, upd_same, Nat.zero_le _, fun z hz => by cases hz⟩ (fun i σ H' hi hW => ?_) (fun σ H' hW => ?_)
    · obtain ⟨ds, y2, y3, y4, y5, rfl, hA⟩ := hW
      obtain ⟨z, hz, _⟩ := at_ints (ns := ns) (i := 0 + (i : Int)) (by omega) (by omega)
      refine ⟨_, rfl, _, rfl, _, _, _, _, rfl, rfl, hA.sm.seq hS, hz, _, rfl, ?_⟩
      generalize (if z < 0 then -z else z) = r
      refine ⟨_, rfl, _, _, rfl, rfl, ⟨by decide, by decide, by decide⟩, _, _, rfl, rfl, _, rfl, ite2 (fun e => ?_) (fun e => ?_)⟩
      · -- a great number: its digits
        refine ⟨60, rfl, by decide, by decide, ?_⟩
        refine for_range (lo := 0) (n := 60) (fun j σ H' => ∃ (ds : List Int) (r' : Int) (y4 : Option V), σ = [some (.ref a), some (.ref p), some (.int (0 + (i : Int))), some (.int r'), y4, y5] ∧ DrAt H H' p (60 * i + j) ds)
          ⟨ds, r, y4, rfl, hA⟩ (fun j σ H2 hj hW => ?_) (fun σ H2 hW => ?_)
        · obtain ⟨ds2, r2, y42, rfl, hA2⟩ := hW
          refine ⟨_, rfl, _, _, rfl, rfl, _, rfl, ite2 (fun e => ?_) (fun e => ?_)⟩
          · refine ⟨_, rfl, .inl ⟨rfl, _, SqL.of hA2.at_⟩, _, rfl, .inl ⟨_, rfl, _, _, rfl, rfl, (by show (0 : Int) < 65536; decide), ?_⟩⟩
            refine ⟨p, _, _, rfl, rfl, hA2.at_, ?_, ?_⟩
            · rw [List.length_map]; exact Nat.lt_of_le_of_lt (Nat.le_trans hA2.len (by omega : _ ≤ 4000)) (by decide)
            · refine ⟨_, rfl, _, _, rfl, rfl, (by constructor <;> decide), ?_⟩
              exact ⟨_, _, _, rfl, hA2.more hp (Int.emod_nonneg _ (by decide)) (Int.emod_lt_of_pos _ (by decide))⟩
          · exact ⟨ds2, r2, _, rfl, hA2.mono (by omega)⟩
        · obtain ⟨ds2, r2, y42, rfl, hA2⟩ := hW
          exact ⟨ds2, _, _, _, _, rfl, hA2.mono (by omega)⟩
      · -- a lesser one: two numbers mixed
        refine ⟨_, rfl, _, _, rfl, rfl, .inr (by decide), _, rfl, _, _, rfl, rfl, _, _, rfl, rfl, .inr (by decide), _, _, rfl, rfl, .inl ⟨_, rfl, _, _, rfl, rfl, (by show (0 : Int) < 2147483647; decide), ?_⟩⟩
        refine ⟨_, rfl, _, _, rfl, rfl, .inr (by decide), _, rfl, _, _, rfl, rfl, .inl (by decide), _, _, rfl, rfl, _, _, rfl, rfl, .inl ⟨_, rfl, _, _, rfl, rfl, (by show (0 : Int) < 2147483629; decide), ?_⟩⟩
        have b1 : (ds.map V.int).length < sizeLine := by rw [List.length_map]; exact Nat.lt_of_le_of_lt (Nat.le_trans hA.len (by omega : _ ≤ 4000)) (by decide)
        refine ⟨_, rfl, .inl ⟨rfl, _, SqL.of hA.at_⟩, _, rfl, .inl ⟨_, rfl, _, _, rfl, rfl, (by show (0 : Int) < 65536; decide), p, _, _, rfl, rfl, hA.at_, b1, ?_⟩⟩
        have hB := hA.more hp (z := (((r * 48271 + (0 + (i : Int) + 1) * 69621) % 2147483647 * 16807 + 11 * (0 + (i : Int)) + 5) % 2147483629) % 65536) (Int.emod_nonneg _ (by decide)) (Int.emod_lt_of_pos _ (by decide))
        have b2 : ((ds ++ [(((r * 48271 + (0 + (i : Int) + 1) * 69621) % 2147483647 * 16807 + 11 * (0 + (i : Int)) + 5) % 2147483629) % 65536]).map V.int).length < sizeLine := by rw [List.length_map]; exact Nat.lt_of_le_of_lt (Nat.le_trans hB.len (by omega : _ ≤ 4000)) (by decide)
        refine ⟨_, rfl, .inl ⟨rfl, _, SqL.of hB.at_⟩, _, rfl, _, _, rfl, rfl, (by constructor <;> decide), .inl ⟨_, rfl, _, _, rfl, rfl, (by show (0 : Int) < 32768; decide), p, _, _, rfl, rfl, hB.at_, b2, ?_⟩⟩
        exact ⟨_, _, _, _, _, rfl, (hB.more hp (z := (((r * 48271 + (0 + (i : Int) + 1) * 69621) % 2147483647 * 16807 + 11 * (0 + (i : Int)) + 5) % 2147483629) / 65536 % 32768) (Int.emod_nonneg _ (by decide)) (by have := Int.emod_lt_of_pos ((((r * 48271 + (0 + (i : Int) + 1) * 69621) % 2147483647 * 16807 + 11 * (0 + (i : Int)) + 5) % 2147483629) / 65536) (show (0 : Int) < 32768 by decide); omega)).mono (by omega)⟩
    · obtain ⟨ds, y2, y3, y4, y5, rfl, hA⟩ := hW
      exact ⟨_, rfl, q p ds H' hA.sm hp hA.at_ ⟨Nat.le_trans hA.len (by omega), hA.all⟩⟩
end

section
variable {P : Program} {w : World} {K : PySem.W.Frag} {mg : Str → Option Value} {base : Heap} {ea : Ea}
theorem sc__law_at : FnScope ["draws", "k", "many"] ["draws", "k", "many"] (defScope s__law_at) := ⟨rfl, rfl, rfl, by decide +kernel, rfl, by decide +kernel, by decide +kernel⟩
theorem ok__law_at (T : Txt K mg ea) : Cl P w K mg base 1 "_law_at" (spDraw K) := by
  have nd := sc__law_at.nd
  refine cl_of T.d__law_at sc__law_at (fun vs H Q E h => ?_) (fun f cdv A outer s H vs Q E hr h => ?_)
  · obtain ⟨a, ns, k, many, rfl, _⟩ := h
    rfl
  · obtain ⟨a, ns, k, many, rfl, hS, hD, h0, h1, hm, q⟩ := h
    refine ⟨_, (pss_cons (ps_if (pt_cmpR op_lt (pv 1) (pe_callB call_len_seq (by rfl) T.b_len PySem.boot_len (pa_cons (pv 0) pa_nil)) (nomark _))
        (pss_one (ps_ret (pe_op op_mod (pe_callTy call_int1 (by rfl) T.b_int (by decide +kernel) (pa_cons (pe_ix (ixl (K := K)) (pv 0) (pv 1) (fun _ _ => rfl)) pa_nil)) (pv 2))))
        pss_nil)
      (pss_one (ps_ret pe_int))), ?_⟩
    refine ⟨_, rfl, _, rfl, _, _, rfl, .inl hS, _, _, rfl, rfl, _, rfl, ite2 (fun e => ?_) (fun e => ?_)⟩
    · have e' := of_decide_eq_true e
      rw [List.length_map] at e'
      obtain ⟨z, hz, hm2⟩ := at_ints h0 e'
      refine ⟨_, rfl, _, rfl, _, _, _, _, rfl, rfl, hS, hz, .inl ⟨_, rfl, _, rfl, _, _, rfl, rfl, hm, ?_⟩⟩
      exact q _ (Int.emod_nonneg _ (by omega)) (Int.emod_lt_of_pos _ hm)
    · exact q 0 (by omega) hm
end

end SH
set_option Elab.async false
set_option linter.all false
set_option maxRecDepth 100000
set_option maxHeartbeats 4000000
namespace SH
open PySem PySem.Spec PyProof.Rows L2
section
variable {P : Program} {w : World} {K : PySem.W.Frag} {mg : Str → Option Value} {base : Heap} {ea : Ea}
/-- a word drawn -/
def spWord3 (K : PySem.W.Frag) : Sp := fun vs H Q _ => ∃ (a : Addr) (ns : List Int) (k : Int) (most : Nat), vs = [.ref a, .int k, .int most] ∧ SqL K H a (ns.map V.int) ∧ Dr ns ∧ 0 ≤ k ∧ k < 50000 ∧ most ≤ 40 ∧
  ∀ (z : Str) (H' : Hp), Same H H' → IsLet z → z.length ≤ most → Q (.str z) H'
theorem sc__law_text : FnScope ["draws", "first", "most", "menu", "out", "k"] ["draws", "first", "most"] (defScope s__law_text) := ⟨rfl, rfl, rfl, by decide +kernel, rfl, by decide +kernel, by decide +kernel⟩
theorem ok__law_text (T : Txt K mg ea) (c__law_at : Cl P w K mg base 1 "_law_at" (spDraw K)) : Cl P w K mg base 2 "_law_text" (spWord3 K) := by
  have nd := sc__law_text.nd
  refine cl_of T.d__law_text sc__law_text (fun vs H Q E h => ?_) (fun f cdv A outer s H vs Q E hr h => ?_)
  · obtain ⟨a, ns, k, most, rfl, _⟩ := h
    rfl
  · obtain ⟨a, ns, k, most, rfl, hS, hD, h0, h1, hm, q⟩ := h
    refine ⟨_, (pss_cons (ps_set (i := 3) nd rfl (.inl rfl) (pe_ix (ixl (K := K)) (pe_lst (pa_cons pe_str (pa_cons pe_str (pa_cons pe_str (pa_cons pe_str pa_nil))))) (C8.pe_c c__law_at hr (by decide) (by rfl) (pa_cons (pv 0) (pa_cons (pe_op op_add (pv 1) pe_int) (pa_cons pe_int pa_nil)))) (fun _ _ => rfl)))
      (pss_cons (ps_set (i := 4) nd rfl (.inl rfl) pe_str)
      (pss_cons (ps_for PassesOwn.never rfl (pi_range1 rfl T.b_range (pa_cons (C8.pe_c c__law_at hr (by decide) (by rfl) (pa_cons (pv 0) (pa_cons (pv 1) (pa_cons (pe_op op_add (pv 2) pe_int) pa_nil)))) pa_nil)) (pg_name (i := 5) nd rfl (.inl rfl))
        (pss_one (ps_set (i := 4) nd rfl (.inl rfl) (pe_op op_add_str (pv 4) (pe_ix ix_str (pv 3) (pe_op op_mod (pe_callTy call_int1 (by rfl) T.b_int (by decide +kernel) (pa_cons (pe_op op_fdiv (C8.pe_c c__law_at hr (by decide) (by rfl) (pa_cons (pv 0) (pa_cons (pe_op op_add (pe_op op_add (pv 1) pe_int) (pe_op op_mod (pe_callTy call_int1 (by rfl) T.b_int (by decide +kernel) (pa_cons (pv 5) pa_nil)) pe_int)) (pa_cons pe_int pa_nil)))) (pe_op op_add pe_int (pe_op op_fdiv (pv 5) pe_int))) pa_nil)) (pe_callB call_len_str (by rfl) T.b_len PySem.boot_len (pa_cons (pv 3) pa_nil))) (fun _ _ => rfl))))))
      (pss_one (ps_ret (pv 4)))))), ?_⟩
    refine ⟨(by show 4 ≤ sizeLine; decide), fun l nl => ?_⟩
    have s1 : Same H (upd H l (.lst ([("ab" : Str), "abc", "a", "ab ~X"].map V.str))) := same_new nl
    repeat (first | refine ⟨_, rfl, ?_⟩ | refine ⟨rfl, ?_⟩ | refine ⟨_, _, rfl, rfl, ?_⟩ | refine ⟨_, _, _, rfl, rfl, ?_⟩)
    refine ⟨a, ns, _, 4, rfl, s1.seq hS, hD, by omega, by omega, by omega, fun word w0 w1 => ?_⟩
    obtain ⟨x, hx, hxm⟩ := at_map V.str (xs := [("ab" : Str), "abc", "a", "ab ~X"]) (i := word) w0 w1
    have hx1 : IsLet x ∧ 1 ≤ x.length ∧ x.length ≤ 5 := by
      simp only [List.mem_cons, List.not_mem_nil, or_false] at hxm
      rcases hxm with e | e | e | e <;> subst e <;> exact ⟨by decide, by decide, by decide⟩
    refine ⟨l, _, word, .str x, rfl, rfl, .inl (.inl upd_same), hx, ?_⟩
    repeat (first | refine ⟨_, rfl, ?_⟩ | refine ⟨rfl, ?_⟩ | refine ⟨_, _, rfl, rfl, ?_⟩ | refine ⟨_, _, _, rfl, rfl, ?_⟩)
    refine ⟨a, ns, k, (most : Int) + 1, rfl, s1.seq hS, hD, by omega, by omega, by omega, fun r r0 r1 => ?_⟩
    refine ⟨r, rfl, by omega, by omega, ?_⟩
    have s2 : Same H (upd H l (.lst [.str "ab", .str "abc", .str "a", .str "ab ~X"])) := s1
    generalize upd H l (.lst [.str "ab", .str "abc", .str "a", .str "ab ~X"]) = H1 at s2 ⊢
    refine for_range (lo := 0) (n := r.toNat) (fun i σ H' => H' = H1 ∧ ∃ (z : Str) (y5 : Option V), σ = [some (.ref a), some (.int k), some (.int most), some (.str x), some (.str z), y5] ∧ IsLet z ∧ z.length ≤ i)
      ⟨rfl, "", none, rfl, by decide, Nat.zero_le _⟩ (fun i σ H' hi hW => ?_) (fun σ H' hW => ?_)
    · obtain ⟨rfl, z, y5, rfl, zl, zn⟩ := hW
      repeat (first | refine ⟨_, rfl, ?_⟩ | refine ⟨rfl, ?_⟩ | refine ⟨_, _, rfl, rfl, ?_⟩ | refine ⟨_, _, _, rfl, rfl, ?_⟩)
      refine .inl ⟨_, rfl, _, _, rfl, rfl, (by show (0 : Int) < 9; decide), ?_⟩
      repeat (first | refine ⟨_, rfl, ?_⟩ | refine ⟨rfl, ?_⟩ | refine ⟨_, _, rfl, rfl, ?_⟩ | refine ⟨_, _, _, rfl, rfl, ?_⟩)
      refine ⟨a, ns, _, 60000, rfl, s2.seq hS, hD, by omega, by omega, by omega, fun g g0 g1 => ?_⟩
      repeat (first | refine ⟨_, rfl, ?_⟩ | refine ⟨rfl, ?_⟩ | refine ⟨_, _, rfl, rfl, ?_⟩ | refine ⟨_, _, _, rfl, rfl, ?_⟩)
      refine ⟨⟨by decide, by decide⟩, ?_⟩
      repeat (first | refine ⟨_, rfl, ?_⟩ | refine ⟨rfl, ?_⟩ | refine ⟨_, _, rfl, rfl, ?_⟩ | refine ⟨_, _, _, rfl, rfl, ?_⟩)
      refine ⟨by unfold CDiv; omega, .inl ⟨_, rfl, _, rfl, x, rfl, Nat.le_trans hx1.2.2 (by decide), _, _, rfl, rfl, (by show (0 : Int) < (x.length : Int); omega), ?_⟩⟩
      refine ixs_let hx1.1 (Nat.le_trans hx1.2.2 (by decide)) (Int.emod_nonneg _ (by omega)) (by show _ % (x.length : Int) < (x.length : Int); exact Int.emod_lt_of_pos _ (by omega)) fun c hc => ?_
      have e1 : (⟨#[c]⟩ : Str).length = 1 := rfl
      refine ⟨z, ⟨#[c]⟩, rfl, rfl, Nat.le_trans (by rw [e1]; omega : _ ≤ 1000) (by decide), rfl, z ++ ⟨#[c]⟩, _, rfl, let_app zl (let_one hc), ?_⟩
      rw [len_app, e1]
      omega
    · obtain ⟨rfl, z, y5, rfl, zl, zn⟩ := hW
      exact ⟨_, rfl, q z _ s2 zl (by omega)⟩
end

end SH
set_option Elab.async false
set_option linter.all false
set_option maxRecDepth 100000
set_option maxHeartbeats 4000000
namespace SH
open PySem PySem.Spec PyProof.Rows L2
theorem hs_snoc {m : Nat} {h : List (Int × Str)} (a : IsHs m h) {n : Int} {z : Str} (lt : ∀ q ∈ h, q.1 < n) (n0 : 0 ≤ n) (n1 : n ≤ 99) (hz : IsLet z) (hl : z.length ≤ m) : IsHs m (h ++ [(n, z)]) := by
  refine ⟨?_, fun q hq => ?_, fun q hq => ?_⟩
  · rw [List.map_append, List.pairwise_append]
    refine ⟨a.asc, by simp, fun x hx y hy => ?_⟩
    obtain ⟨q, hq, rfl⟩ := List.mem_map.mp hx
    simp at hy
    subst hy
    exact lt q hq
  · rcases List.mem_append.mp hq with m1 | m1
    · exact a.num q m1
    · rw [List.mem_singleton.mp m1]; exact ⟨n0, n1⟩
  · rcases List.mem_append.mp hq with m1 | m1
    · exact a.txt q m1
    · rw [List.mem_singleton.mp m1]; exact ⟨hz, hl⟩

section
variable {P : Program} {w : World} {K : PySem.W.Frag} {mg : Str → Option Value} {base : Heap} {ea : Ea}
/-- a house drawn -/
def spHouse (K : PySem.W.Frag) : Sp := fun vs H Q _ => ∃ (a : Addr) (ns : List Int) (k : Int), vs = [.ref a, .int k] ∧ SqL K H a (ns.map V.int) ∧ Dr ns ∧ 0 ≤ k ∧ k < 10000 ∧
  ∀ (p : Addr) (L : PL) (H' : Hp), Same H H' → H p = none → H' p = some (.lst (refs L)) → PairsAt K H' L → L.length ≤ 4 → IsHs 14 (L.map (·.2)) → Q (.ref p) H'
/-- the house so far -/
structure HsSo (K : PySem.W.Frag) (H H' : Hp) (p : Addr) (i : Nat) (num : Int) (L : PL) : Prop where
  sm : Same H H'
  at_ : H' p = some (.lst (refs L))
  ps : PairsAt K H' L
  len : L.length = i
  hs : IsHs 14 (L.map (·.2))
  le : ∀ q ∈ L, q.2.1 ≤ num
  n0 : -1 ≤ num
  n1 : num ≤ 7 + 20 * (i : Int)
theorem HsSo.same {H H' H2 : Hp} {p : Addr} {i : Nat} {num : Int} {L : PL} (h : HsSo K H H' p i num L) (e : Same H' H2) : HsSo K H H2 p i num L :=
  ⟨h.sm.trans e, e _ _ h.at_, h.ps.same e, h.len, h.hs, h.le, h.n0, h.n1⟩
theorem pairs_put {H : Hp} {p : Addr} {L : PL} {l : List V} {o : HO} (h : H p = some (.lst l)) (a : PairsAt K H L) : PairsAt K (upd H p o) L := fun q hq => but_tup (l := l) h but_upd (a q hq)
theorem sc__law_house : FnScope ["draws", "first", "most", "house", "number", "k", "text"] ["draws", "first"] (defScope s__law_house) := ⟨rfl, rfl, rfl, by decide +kernel, rfl, by decide +kernel, by decide +kernel⟩
theorem ok__law_house (T : Txt K mg ea) (c__law_at : Cl P w K mg base 1 "_law_at" (spDraw K)) (c__law_text : Cl P w K mg base 2 "_law_text" (spWord3 K)) : Cl P w K mg base 3 "_law_house" (spHouse K) := by
  have nd := sc__law_house.nd
  refine cl_of T.d__law_house sc__law_house (fun vs H Q E h => ?_) (fun f cdv A outer s H vs Q E hr h => ?_)
  · obtain ⟨a, ns, k, rfl, _⟩ := h
    rfl
  · obtain ⟨a, ns, k, rfl, hS, hD, h0, h1, q⟩ := h
    refine ⟨_, (pss_cons (ps_set (i := 2) nd rfl (.inl rfl) (pe_ix (ixl (K := K)) (pe_lst (pa_cons pe_int (pa_cons pe_int (pa_cons pe_int (pa_cons pe_int pa_nil))))) (C8.pe_c c__law_at hr (by decide) (by rfl) (pa_cons (pv 0) (pa_cons (pv 1) (pa_cons pe_int pa_nil)))) (fun _ _ => rfl)))
      (pss_cons (ps_set (i := 3) nd rfl (.inl rfl) (pe_lst pa_nil))
      (pss_cons (ps_set (i := 4) nd rfl (.inl rfl) (pe_op op_sub (C8.pe_c c__law_at hr (by decide) (by rfl) (pa_cons (pv 0) (pa_cons (pe_op op_add (pv 1) pe_int) (pa_cons pe_int pa_nil)))) pe_int))
      (pss_cons (ps_for PassesOwn.never rfl (pi_range1 rfl T.b_range (pa_cons (C8.pe_c c__law_at hr (by decide) (by rfl) (pa_cons (pv 0) (pa_cons (pe_op op_add (pv 1) pe_int) (pa_cons pe_int pa_nil)))) pa_nil)) (pg_name (i := 5) nd rfl (.inl rfl))
        (pss_cons (ps_set (i := 4) nd rfl (.inl rfl) (pe_op op_add (pe_op op_add (pv 4) pe_int) (C8.pe_c c__law_at hr (by decide) (by rfl) (pa_cons (pv 0) (pa_cons (pe_op op_add (pe_op op_add (pv 1) pe_int) (pv 5)) (pa_cons pe_int pa_nil))))))
          (pss_cons (ps_set (i := 6) nd rfl (.inl rfl) (C8.pe_c c__law_text hr (by decide) (by rfl) (pa_cons (pv 0) (pa_cons (pe_op op_add (pe_op op_add (pv 1) pe_int) (pe_op op_mul pe_int (pv 5))) (pa_cons (pv 2) pa_nil)))))
          (C8.pss_cut (ps_if (PW.pt (pw_and (pt_cmpR (op_neDK (K := K) hr.units) (pv 3) (pe_lst pa_nil) (nomark _)) (pw_and1 (pt_cmpR op_eq (C8.pe_c c__law_at hr (by decide) (by rfl) (pa_cons (pv 0) (pa_cons (pe_op op_add (pe_op op_add (pv 1) pe_int) (pv 5)) (pa_cons pe_int pa_nil)))) pe_int (nomark _)))))
            (pss_one (ps_set (i := 6) nd rfl (.inl rfl) (pe_slice sl_str (pe_op op_add_str (pe_slice sl_str (pe_ix (ixt (K := K)) (pe_ix (ixl (K := K)) (pv 3) pe_int (fun _ _ => rfl)) pe_int (fun _ _ => rfl)) (po_some (C8.pe_c c__law_at hr (by decide) (by rfl) (pa_cons (pv 0) (pa_cons (pe_op op_add (pe_op op_add (pv 1) pe_int) (pv 5)) (pa_cons pe_int pa_nil))))) po_none) (pv 6)) po_none (po_some (pv 2)))))
            pss_nil)
          (pss_one (ps_expr (pe_bm PySem.F.plainAttrs_list PySem.F.slot_list_append PySem.F.type_list_append mt_append (pv 3) (pa_cons (pe_tup (pa_cons (pv 4) (pa_cons (pv 6) pa_nil))) pa_nil))))))))
      (pss_one (ps_ret (pv 3))))))), ?_⟩
    refine ⟨(by show 4 ≤ sizeLine; decide), fun l nl => ?_⟩
    have s1 : Same H (upd H l (.lst (([8, 8, 8, 14] : List Int).map V.int))) := same_new nl
    repeat (first | refine ⟨_, rfl, ?_⟩ | refine ⟨rfl, ?_⟩ | refine ⟨_, _, rfl, rfl, ?_⟩ | refine ⟨_, _, _, rfl, rfl, ?_⟩)
    refine ⟨a, ns, _, 4, rfl, s1.seq hS, hD, by omega, by omega, by omega, fun r r0 r1 => ?_⟩
    obtain ⟨m, hm, hmm⟩ := at_map V.int (xs := [8, 8, 8, 14]) (i := r) r0 (by show r < 4; exact r1)
    obtain ⟨most, rfl, hmost⟩ : ∃ n : Nat, m = n ∧ n ≤ 14 := by
      simp only [List.mem_cons, List.not_mem_nil, or_false] at hmm
      rcases hmm with e | e | e | e <;> rw [e] <;> first | exact ⟨8, rfl, by decide⟩ | exact ⟨14, rfl, by decide⟩
    refine ⟨l, _, _, _, rfl, rfl, .inl (.inl upd_same), hm, ?_⟩
    replace s1 : Same H (upd H l (.lst [.int 8, .int 8, .int 8, .int 14])) := s1
    generalize upd H l (.lst [.int 8, .int 8, .int 8, .int 14]) = H1 at s1 ⊢
    refine ⟨Nat.zero_le _, fun p hp => ?_⟩
    have s2 := s1.trans (same_new (o := .lst []) hp)
    have hp0 := s1.free hp
    have hpp : (upd H1 p (.lst [])) p = some (.lst []) := upd_same
    generalize upd H1 p (.lst []) = H2 at s2 hpp ⊢
    repeat (first | refine ⟨_, rfl, ?_⟩ | refine ⟨rfl, ?_⟩ | refine ⟨_, _, rfl, rfl, ?_⟩ | refine ⟨_, _, _, rfl, rfl, ?_⟩)
    refine ⟨a, ns, _, 9, rfl, s2.seq hS, hD, by omega, by omega, by omega, fun b b0 b1 => ?_⟩
    repeat (first | refine ⟨_, rfl, ?_⟩ | refine ⟨rfl, ?_⟩ | refine ⟨_, _, rfl, rfl, ?_⟩ | refine ⟨_, _, _, rfl, rfl, ?_⟩)
    refine ⟨a, ns, _, 5, rfl, s2.seq hS, hD, by omega, by omega, by omega, fun c c0 c1 => ?_⟩
    refine ⟨c, rfl, by omega, by omega, ?_⟩
    refine for_range (lo := 0) (n := c.toNat) (fun i σ H' => ∃ (L : PL) (num : Int) (y5 y6 : Option V), σ = [some (.ref a), some (.int k), some (.int most), some (.ref p), some (.int num), y5, y6] ∧ HsSo K H H' p i num L)
      ⟨[], b - 1, none, none, rfl, s2, hpp, (fun q hq => by cases hq), rfl, ⟨List.Pairwise.nil, (fun q hq => by cases hq), (fun q hq => by cases hq)⟩, (fun q hq => by cases hq), by omega, by omega⟩ (fun i σ H' hi hW => ?_) (fun σ H' hW => ?_)
    · obtain ⟨L, num, y5, y6, rfl, hA⟩ := hW
      have n0 := hA.n0
      have n1 := hA.n1
      repeat (first | refine ⟨_, rfl, ?_⟩ | refine ⟨rfl, ?_⟩ | refine ⟨_, _, rfl, rfl, ?_⟩ | refine ⟨_, _, _, rfl, rfl, ?_⟩)
      refine ⟨a, ns, _, 20, rfl, hA.sm.seq hS, hD, by omega, by omega, by omega, fun g g0 g1 => ?_⟩
      repeat (first | refine ⟨_, rfl, ?_⟩ | refine ⟨rfl, ?_⟩ | refine ⟨_, _, rfl, rfl, ?_⟩ | refine ⟨_, _, _, rfl, rfl, ?_⟩)
      refine ⟨.inl (by decide), ?_⟩
      repeat (first | refine ⟨_, rfl, ?_⟩ | refine ⟨rfl, ?_⟩ | refine ⟨_, _, rfl, rfl, ?_⟩ | refine ⟨_, _, _, rfl, rfl, ?_⟩)
      refine ⟨a, ns, _, most, rfl, hA.sm.seq hS, hD, by omega, by omega, by omega, fun z H3 sm3 hz hl => ?_⟩
      have hA2 := hA.same sm3
      refine ⟨fun σ H4 => Same H3 H4 ∧ ∃ x : Str, IsLet x ∧ x.length ≤ 14 ∧ σ = [some (.ref a), some (.int k), some (.int most), some (.ref p), some (.int (num + 1 + g)), some (.int (0 + (i : Int))), some (.str x)], ?_, ?_⟩
      · have hp3 := hA2.at_
        have lets := hA2.hs.letAll
        refine ⟨_, rfl, Nat.zero_le _, fun e1 ne1 => ?_⟩
        have f1 := same_new (o := .lst []) ne1
        have hE : HsAt K (upd H3 e1 (.lst [])) e1 [] := ⟨SqL.of upd_same, (fun q hq => nomatch hq)⟩
        generalize upd H3 e1 (.lst []) = H5 at f1 hE ⊢
        have hA5 := hA2.same f1
        have ok1 := okd_sh (okd_H lets)
        have ok0 := okd_sh (okd_H (h := []) (fun q hq => nomatch hq))
        refine ⟨dH (L.map (·.2)), dH [], dp_house ⟨SqL.of hA5.at_, hA5.ps⟩, dp_house hE, ok1.1, ok0.1, ?_⟩
        have keep : Same H3 H5 ∧ ∃ x : Str, IsLet x ∧ x.length ≤ 14 ∧ [some (V.ref a), some (.int k), some (.int most), some (.ref p), some (.int (num + 1 + g)), some (.int (0 + (i : Int))), some (.str z)] = [some (.ref a), some (.int k), some (.int most), some (.ref p), some (.int (num + 1 + g)), some (.int (0 + (i : Int))), some (.str x)] := ⟨f1, z, hz, by omega, rfl⟩
        by_cases cL : L = []
        · subst cL
          exact ⟨_, rfl, iteF keep⟩
        · obtain ⟨t0, L0, rfl⟩ : ∃ t L0, L = t :: L0 := by
            cases L with
            | nil => exact absurd rfl cL
            | cons t L0 => exact ⟨t, L0, rfl⟩
          refine ⟨_, rfl, iteT ?_⟩
          repeat (first | refine ⟨_, rfl, ?_⟩ | refine ⟨rfl, ?_⟩ | refine ⟨_, _, rfl, rfl, ?_⟩ | refine ⟨_, _, _, rfl, rfl, ?_⟩)
          refine ⟨a, ns, _, 3, rfl, hA5.sm.seq hS, hD, by omega, by omega, by omega, fun r5 _ _ => ?_⟩
          refine ⟨rfl, _, rfl, ite2 (fun e2 => ?_) (fun e2 => keep)⟩
          have htx := hA5.hs.txt t0.2 (List.mem_map_of_mem (List.mem_cons_self ..))
          refine ⟨_, rfl, p, _, _, _, rfl, rfl, SqL.of hA5.at_, atI_nat (j := 0) rfl, _, _, _, _, rfl, rfl, hA5.ps t0 (List.mem_cons_self ..), (show atI [V.int t0.2.1, V.str t0.2.2] 1 = some (.str t0.2.2) from rfl), ?_⟩
          repeat (first | refine ⟨_, rfl, ?_⟩ | refine ⟨rfl, ?_⟩ | refine ⟨_, _, rfl, rfl, ?_⟩ | refine ⟨_, _, _, rfl, rfl, ?_⟩)
          refine ⟨a, ns, _, 4, rfl, hA5.sm.seq hS, hD, by omega, by omega, by omega, fun r6 r60 _ => ?_⟩
          obtain ⟨r6, rfl⟩ : ∃ n : Nat, r6 = n := ⟨r6.toNat, by omega⟩
          have l6 : (cutS t0.2.2 (some (r6 : Int)) none).length ≤ 14 := by
            have := suf_len t0.2.2 r6
            have e : (suf t0.2.2 r6).length = (cutS t0.2.2 (some (r6 : Int)) none).length := rfl
            have := htx.2
            omega
          have l7 : (cutS t0.2.2 (some (r6 : Int)) none ++ z).length ≤ 28 := by rw [len_app]; omega
          refine ⟨r6, rfl, t0.2.2, rfl, Nat.le_trans htx.2 (by decide), _, rfl, _, _, rfl, rfl, Nat.le_trans (by rw [← len_app]; exact l7) (by decide), _, rfl, most, rfl, _, rfl, Nat.le_trans l7 (by decide), ?_⟩
          refine ⟨f1, _, cut_let (let_app (cut_let htx.1 _ _) hz) _ _, ?_, rfl⟩
          have := congrArg List.length (cuts_take (cutS t0.2.2 (some (r6 : Int)) none ++ z) most)
          rw [List.length_take] at this
          have e : (TL.tl (cutS (cutS t0.2.2 (some (r6 : Int)) none ++ z) none (some (most : Int)))).length = (cutS (cutS t0.2.2 (some (r6 : Int)) none ++ z) none (some (most : Int))).length := rfl
          omega
      rintro σ' H4 ⟨s4, x, xl, xn, rfl⟩
      have hA4 := hA2.same s4
      refine ⟨_, rfl, .inl ⟨rfl, _, SqL.of hA4.at_⟩, _, rfl, _, rfl, (by show 2 ≤ sizeLine; decide), fun t ht => ?_⟩
      have pt : p ≠ t := ne_of_none hA4.at_ ht
      have at2 : (upd H4 t (.tup [.int (num + 1 + g), .str x])) p = some (.lst (refs L)) := by rw [upd_ne pt]; exact hA4.at_
      refine ⟨p, _, _, rfl, rfl, at2, ?_, ?_⟩
      · show (L.map _).length < sizeLine
        rw [List.length_map, hA4.len]; exact Nat.lt_of_le_of_lt (by omega : i ≤ 1000) (by decide)
      have sm3 : Same H4 (upd H4 t (.tup [.int (num + 1 + g), .str x])) := same_new ht
      have smp : ∀ o, Same H (upd (upd H4 t (.tup [.int (num + 1 + g), .str x])) p o) := fun o => same_mut (hA4.sm.trans sm3) hp0
      have ltn : ∀ q ∈ L, q.2.1 < num + 1 + g := fun q hq => by
        have h := hA4.le q hq
        omega
      refine ⟨L ++ [(t, num + 1 + g, x)], num + 1 + g, _, _, rfl, smp _, ?_, ?_, ?_, ?_, ?_, by omega, by omega⟩
      · rw [upd_same]; show _ = some (HO.lst (List.map _ _)); rw [List.map_append]; rfl
      · refine pairs_put at2 fun q hq => ?_
        rcases List.mem_append.mp hq with m1 | m1
        · exact same_tup sm3 (hA4.ps q m1)
        · rw [List.mem_singleton.mp m1]; exact .inl (.inl upd_same)
      · rw [List.length_append, hA4.len]; rfl
      · rw [List.map_append]
        exact hs_snoc hA4.hs (fun q hq => by obtain ⟨y, hy, rfl⟩ := List.mem_map.mp hq; exact ltn y hy) (by omega) (by omega) xl xn
      · intro q hq
        rcases List.mem_append.mp hq with m1 | m1
        · have := ltn q m1; omega
        · rw [List.mem_singleton.mp m1]; exact Int.le_refl _
    · obtain ⟨L, num, y5, y6, rfl, hA⟩ := hW
      exact ⟨_, rfl, q p L _ hA.sm hp0 hA.at_ hA.ps (by have := hA.len; omega) hA.hs⟩
end

end SH
set_option Elab.async false
set_option linter.all false
set_option maxRecDepth 100000
set_option maxHeartbeats 4000000
namespace SH
open PySem PySem.Spec PyProof.Rows L2
section
variable {P : Program} {w : World} {K : PySem.W.Frag} {mg : Str → Option Value} {base : Heap} {ea : Ea}
theorem sc_order_of : FnScope ["house", "rows", "number", "text", "start", "_"] ["house"] (defScope s_order_of) := ⟨rfl, rfl, rfl, by decide +kernel, rfl, by decide +kernel, by decide +kernel⟩
theorem ok_order_of (T : Txt K mg ea) : Cl P w K mg base 1 "order_of" (spOrder K) := by
  have nd := sc_order_of.nd
  refine cl_of T.d_order_of sc_order_of (fun vs H Q E h => ?_) (fun f cdv A outer s H vs Q E hr h => ?_)
  · obtain ⟨a, L, rfl, _⟩ := h
    rfl
  · obtain ⟨a, L, rfl, hA, hl, hz, q⟩ := h
    refine ⟨_, (pss_cons (ps_setLc2 (i := 1) (own := [("number", 2), ("text", 3), ("start", 4)]) (vs1 := [4]) (g := (gTup K 2 (gCons (gName 2) (gCons (gName 3) gNil)))) (g1 := (gName 4)) rfl nd rfl rfl (sw_true rfl rfl rfl (by decide +kernel)) (pi_listK (K := K) (pv 0)) (blkOk_by (own := [("number", 2), ("text", 3), ("start", 4)]) (N := ["house", "rows", "number", "text", "start", "_"]) (sc := defScope s_order_of) (by decide +kernel)) (by decide) (fun _ _ _ _ _ => (pg_tup rfl (pgs_cons (pg_name (i := 2) nd rfl (.inl rfl)) (pgs_cons (pg_name (i := 3) nd rfl (.inl rfl)) pgs_nil)))) (fun _ _ _ _ _ => pts_nil) (fun _ _ _ _ _ => (pi_range1 rfl T.b_range (pa_cons (pe_op op_add (pe_callB call_len_str (by rfl) T.b_len PySem.boot_len (pa_cons (pv 3) pa_nil)) pe_int) pa_nil))) (fun _ _ _ _ _ => (pg_name (i := 4) nd rfl (.inl rfl))) (fun _ _ _ _ _ => pts_nil) (fun _ _ _ _ _ => (pe_tup (pa_cons (pe_slice sl_str (pv 3) (po_some (pv 4)) po_none) (pa_cons (pv 2) (pa_cons (pv 4) pa_nil))))))
      (pss_one (ps_ret (pe_lc (own := [("_", 5), ("number", 2), ("start", 4)]) (g := (gTup K 3 (gCons (gName 5) (gCons (gName 2) (gCons (gName 4) gNil))))) rfl nd (pi_listK (K := K) (pe_callB (cr_sortDK (K := K) hr.units) (by rfl) T.b_sorted (by decide +kernel) (pa_cons (pv 1) pa_nil))) (blkOk_by (own := [("_", 5), ("number", 2), ("start", 4)]) (N := ["house", "rows", "number", "text", "start", "_"]) (sc := defScope s_order_of) (by decide +kernel)) (fun _ _ _ _ _ => (pg_tup rfl (pgs_cons (pg_name (i := 5) nd rfl (.inl rfl)) (pgs_cons (pg_name (i := 2) nd rfl (.inl rfl)) (pgs_cons (pg_name (i := 4) nd rfl (.inl rfl)) pgs_nil))))) (fun _ _ _ _ _ => pts_nil) (fun _ _ _ _ _ => (pe_tup (pa_cons (pv 2) (pa_cons (pv 4) pa_nil)))))))), ?_⟩
    have rl : (refs L).length = L.length := List.length_map ..
    have ml : (L.map (·.2)).length = L.length := List.length_map ..
    have big : ∀ h : List (Int × Str), h.length ≤ 500 → (∀ q ∈ h, q.2.length ≤ 100) → (ends3 h).length ≤ 50500 := fun h h1 h2 => Nat.le_trans (ends3_len h2) (by omega)
    refine ⟨_, rfl, a, rfl, ⟨_, hA.1⟩, fun D nD => ?_⟩
    refine walk_gen (walk_list (xs := refs L)) (fun i H' => ∃ Z : FT, Same H H' ∧ H' D = some (.lst (frefs Z)) ∧ FAt H' Z ∧ Z.map (·.2) = ends3 ((L.map (·.2)).take i))
      ⟨[], same_new nD, upd_same, (fun z m => nomatch m), rfl⟩ (fun i H' _ hW => ?_) (fun i x H1 H2 hi hW y => ?_) (fun H1 hW => ?_)
    · obtain ⟨Z, sm, _⟩ := hW
      exact sm.seq hA.1
    · obtain ⟨Z, sm, at_, za, ze⟩ := hW
      obtain ⟨rfl, hx⟩ := y
      obtain ⟨t, ht, tm, rfl⟩ := refs_get hx
      have tl := hz t tm
      have ht2 : (L.map (·.2))[i]? = some t.2 := by rw [List.getElem?_map, ht]; rfl
      have tk := take_snoc ht2
      refine ⟨_, _, rfl, same_tup sm (hA.2 t tm), rfl, _, _, rfl, _, _, rfl, rfl, rfl, ?_⟩
      refine ⟨_, rfl, t.2.2, rfl, Nat.le_trans tl (by decide), _, _, rfl, rfl, _, rfl, by omega, by omega, ?_⟩
      refine walk_gen (walk_range (lo := 0) (n := ((t.2.2.length : Int) + 1).toNat)) (fun j H' => ∃ Z : FT, Same H H' ∧ H' D = some (.lst (frefs Z)) ∧ FAt H' Z ∧ Z.map (·.2) = ends3 ((L.map (·.2)).take i) ++ (endsOf t.2).take j)
        ⟨Z, sm, at_, za, by rw [ze]; simp⟩ (fun _ _ _ _ => trivial) (fun j x H1 H2 hj hW y => ?_) (fun H1 hW => ?_)
      · obtain ⟨Z, sm, at_, za, ze⟩ := hW
        obtain ⟨rfl, ex⟩ := y
        obtain rfl : x = V.int (j : Int) := ex.trans (congrArg V.int (Int.zero_add _))
        refine ⟨rfl, _, rfl, _, rfl, _, rfl, t.2.2, rfl, Nat.le_trans tl (by decide), _, rfl, _, rfl, (by show 3 ≤ sizeLine; decide), fun u nu => ?_⟩
        have s2 := same_new (o := .tup [.str (suf t.2.2 j), .int t.2.1, .int (j : Int)]) nu
        have at2 := s2 _ _ at_
        have zl : Z.length ≤ 50500 := by
          have e := congrArg List.length ze
          rw [List.length_map, List.length_append] at e
          have b1 := List.length_take_le' j (endsOf t.2)
          rw [endsOf_len] at b1
          have b2 : (ends3 ((L.map (·.2)).take (i + 1))).length ≤ 50500 := big _ (by have := List.length_take_le' (i + 1) (L.map (·.2)); omega) fun q hq => by
            obtain ⟨z, hz2, rfl⟩ := List.mem_map.mp (List.mem_of_mem_take hq)
            exact hz z hz2
          rw [tk, ends3_snoc, List.length_append, endsOf_len] at b2
          omega
        refine ⟨_, at2, ?_, Z ++ [(u, suf t.2.2 j, t.2.1, (j : Int))], same_mut (sm.trans s2) nD, ?_, ?_, ?_⟩
        · show (List.map _ Z).length < _
          rw [List.length_map]
          exact Nat.lt_of_le_of_lt zl (by decide)
        · rw [upd_same]
          show _ = some (HO.lst (List.map _ _))
          rw [List.map_append]
          rfl
        · refine FAt.put (l := frefs Z) ?_ at2
          exact (za.same s2).snoc upd_same
        · rw [List.map_append, ze, take_snoc (endsOf_at (q := t.2) (s := j) (by omega)), List.append_assoc]
          rfl
      · obtain ⟨Z, sm, at_, za, ze⟩ := hW
        refine ⟨Z, sm, at_, za, ?_⟩
        rw [ze, tk, ends3_snoc, List.take_of_length_le (l := endsOf t.2) (by rw [endsOf_len]; omega)]
    · obtain ⟨Z, sm', at_, za, ze⟩ := hW
      rw [List.take_of_length_le (by omega)] at ze
      have zl : Z.length ≤ 50500 := by
        have e := congrArg List.length ze
        rw [List.length_map] at e
        rw [e]
        exact big _ (by omega) fun q hq => by
          obtain ⟨z, hz2, rfl⟩ := List.mem_map.mp hq
          exact hz z hz2
      refine ⟨_, rfl, E3, eFlat, D, Z.map fun z => (V.ref z.1, z.2), rfl, ?_, ?_, ?_, ?_, fun z _ => flat_deep z.2, fun p np => ?_⟩
      · rw [List.map_map]
        exact SqL.of at_
      · intro z hz2
        obtain ⟨y, hy, rfl⟩ := List.mem_map.mp hz2
        exact .tup (.inl (.inl (za y hy))) (.cons (.str _) (.cons (.int _) (.cons (.int _) .nil)))
      · rw [List.map_map]
        exact flat_alike (fun z : Addr × E3 => z.2) Z
      · rw [List.map_map]
        exact flat_able (fun z : Addr × E3 => z.2) Z
      · rw [sort_flat]
        have s2 := same_new (o := .lst (frefs (Z.mergeSort fun p q => le3 p.2 q.2))) np
        have za2 : FAt (upd H1 p (.lst (frefs (Z.mergeSort fun p q => le3 p.2 q.2)))) (Z.mergeSort fun p q => le3 p.2 q.2) := fun z m => s2 _ _ (za z (List.mem_mergeSort.mp m))
        have ee : (Z.mergeSort fun p q => le3 p.2 q.2).map (·.2) = ordE (L.map (·.2)) := by
          rw [sort3_map (fun z : Addr × E3 => z.2), ze]
          rfl
        have zl2 : (Z.mergeSort fun p q => le3 p.2 q.2).length ≤ 50500 := by rw [List.length_mergeSort]; exact zl
        generalize (Z.mergeSort fun p q => le3 p.2 q.2) = Y at s2 za2 ee zl2 ⊢
        refine ⟨p, rfl, ⟨_, SqL.of upd_same⟩, fun D2 nD2 => ?_⟩
        have yl : (frefs Y).length = Y.length := List.length_map ..
        refine lc_w (walk_list (xs := frefs Y)) nD2 (by omega) (fun H' e => SqL.of (e _ _ upd_same)) (fun i acc H' => ∃ R : QT, acc = qrefs R ∧ QAt K H' R ∧ R.map (·.2) = (Y.take i).map fun z => z.2.2) (fun _ _ => ⟨[], rfl, (fun q m => nomatch m), rfl⟩)
          (fun i acc Ha Hb l hD e r => by obtain ⟨R, r1, r2, r3⟩ := r; exact ⟨R, r1, fun z m => but_tup hD e (r2 z m), r3⟩) (fun i H x H' y => by rw [y.1]; exact Same.refl _) (fun i x acc Ha Hb Qn Qf hi sm y r at_ kn kf => ?_) (fun acc Hb sm at_ _ r => ?_)
        · obtain ⟨rfl, hx⟩ := y
          obtain ⟨R, rfl, r2, r3⟩ := r
          obtain ⟨z, hz1, hz2⟩ : ∃ z, Y[i]? = some z ∧ x = .ref z.1 := by
            unfold frefs at hx
            rw [List.getElem?_map] at hx
            cases e : Y[i]? with
            | none => rw [e] at hx; cases hx
            | some z => rw [e] at hx; cases hx; exact ⟨z, rfl, rfl⟩
          subst hz2
          have zz := sm _ _ (za2 z (List.mem_of_getElem? hz1))
          refine ⟨_, _, rfl, .inl (.inl zz), rfl, _, _, rfl, _, _, rfl, _, _, rfl, rfl, rfl, ?_⟩
          refine ⟨_, rfl, _, rfl, (by show 2 ≤ sizeLine; decide), fun u nu => kn _ _ (same_new nu) ⟨R ++ [(u, z.2.2.1, z.2.2.2)], ?_, fun y hy => ?_, ?_⟩⟩
          · unfold qrefs
            rw [List.map_append]
            rfl
          · rcases List.mem_append.mp hy with m | m
            · exact same_tup (same_new nu) (r2 y m)
            · rw [List.mem_singleton.mp m]
              exact .inl (.inl upd_same)
          · rw [List.map_append, r3, take_snoc hz1, List.map_append]
            rfl
        · obtain ⟨R, rfl, r2, r3⟩ := r
          rw [List.take_of_length_le (by omega)] at r3
          refine q D2 R Hb ((sm'.trans s2).trans sm) (sm'.free (s2.free nD2)) at_ r2 ?_
          rw [r3, ← ee, List.map_map]
          rfl
end

end SH
set_option Elab.async false
set_option linter.all false
set_option maxRecDepth 100000
set_option maxHeartbeats 4000000
namespace SH
open PySem PySem.Spec PyProof.Rows L2
section
variable {P : Program} {w : World} {K : PySem.W.Frag} {mg : Str → Option Value} {base : Heap} {ea : Ea}
/-- with how many letters two ends begin alike -/
def spCommon (K : PySem.W.Frag) : Sp := fun vs H Q _ => ∃ (d t1 t2 : Addr) (kvs : List (Key × V)) (n1 n2 : Int) (s1 s2 : Nat) (z1 z2 : Str), vs = [.ref d, .ref t1, .ref t2] ∧ SqT K H t1 [.int n1, .int (s1 : Int)] ∧ SqT K H t2 [.int n2, .int (s2 : Int)] ∧
  H d = some (.dK kvs) ∧ valV kvs (.inl n1) = some (.str z1) ∧ valV kvs (.inl n2) = some (.str z2) ∧ z1.length ≤ 1000 ∧ z2.length ≤ 1000 ∧ ∀ H', Same H H' → Q (.int (comm ((TL.tl z1).drop s1) ((TL.tl z2).drop s2) : Nat)) H'
theorem sc__common_size : FnScope ["texts", "one", "two", "number", "start", "other", "begin", "size", "letter", "mate"] ["texts", "one", "two"] (defScope s__common_size) := ⟨rfl, rfl, rfl, by decide +kernel, rfl, by decide +kernel, by decide +kernel⟩
theorem ok__common_size (T : Txt K mg ea) : Cl P w K mg base 1 "_common_size" (spCommon K) := by
  have nd := sc__common_size.nd
  refine cl_of T.d__common_size sc__common_size (fun vs H Q E h => ?_) (fun f cdv A outer s H vs Q E hr h => ?_)
  · obtain ⟨d, t1, t2, kvs, n1, n2, s1, s2, z1, z2, rfl, _⟩ := h
    rfl
  · obtain ⟨d, t1, t2, kvs, n1, n2, s1, s2, z1, z2, rfl, h1, h2, hd, g1, g2, l1, l2, q⟩ := h
    refine ⟨_, (pss_cons (ps_asg (pv 1) (pg_tup rfl (pgs_cons (pg_name (i := 3) nd rfl (.inl rfl)) (pgs_cons (pg_name (i := 4) nd rfl (.inl rfl)) pgs_nil))))
      (pss_cons (ps_asg (pv 2) (pg_tup rfl (pgs_cons (pg_name (i := 5) nd rfl (.inl rfl)) (pgs_cons (pg_name (i := 6) nd rfl (.inl rfl)) pgs_nil))))
      (pss_cons (ps_set (i := 7) nd rfl (.inl rfl) pe_int)
      (pss_cons (ps_for PassesOwn.never rfl (pi_zipS (by rfl) T.b_zip (pa_cons (pe_slice sl_str (pe_dget (hu_of hr) (pv 0) (pv 3) (fun _ _ => rfl)) (po_some (pv 4)) po_none) (pa_cons (pe_slice sl_str (pe_dget (hu_of hr) (pv 0) (pv 5) (fun _ _ => rfl)) (po_some (pv 6)) po_none) pa_nil))) (pg_tup rfl (pgs_cons (pg_name (i := 8) nd rfl (.inl rfl)) (pgs_cons (pg_name (i := 9) nd rfl (.inl rfl)) pgs_nil)))
        (pss_cons (ps_if (pt_cmpR op_ne (pv 8) (pv 9) (nomark _))
            (pss_one ps_break)
            pss_nil)
          (pss_one (ps_aug (i := 7) nd rfl (.inl rfl) pe_int ip_add))))
      (pss_one (ps_ret (pv 7))))))), ?_⟩
    have dg1 : DGet H d (.int n1) (some (.str z1)) := by
      have := DGet.k (k := .inl n1) hd
      rw [g1] at this
      exact this
    have dg2 : DGet H d (.int n2) (some (.str z2)) := by
      have := DGet.k (k := .inl n2) hd
      rw [g2] at this
      exact this
    refine ⟨_, rfl, _, _, rfl, h1, rfl, _, _, rfl, _, _, rfl, rfl, ?_⟩
    refine ⟨_, rfl, _, _, rfl, h2, rfl, _, _, rfl, _, _, rfl, rfl, ?_⟩
    have b1 : z1.length ≤ sizeLine := Nat.le_trans l1 (by decide)
    have b2 : z2.length ≤ sizeLine := Nat.le_trans l2 (by decide)
    refine ⟨_, rfl, _, rfl, d, _, rfl, dg1, _, rfl, s1, rfl, z1, rfl, b1, _, rfl, _, rfl, d, _, rfl, dg2, _, rfl, s2, rfl, z2, rfl, b2, _, _, rfl, ?_⟩
    have e1 := suf_tl z1 s1
    have e2 := suf_tl z2 s2
    rw [← e1, ← e2] at q
    show ∃ W, _
    have sz : ∀ u : Str, u.cps.size = (TL.tl u).length := fun u => rfl
    have gt : ∀ (u : Str) (i : Nat), (TL.tl u)[i]? = u.cps[i]? := fun u i => by show u.cps.toList[i]? = _; rw [Array.getElem?_toList]
    refine for_it (walk_zips (x := suf z1 s1) (y := suf z2 s2)) (fun i σ H' => ∃ y8 y9 : Option V, σ = [some (.ref d), some (.ref t1), some (.ref t2), some (.int n1), some (.int (s1 : Int)), some (.int n2), some (.int (s2 : Int)), some (.int (i : Int)), y8, y9] ∧ Same H H' ∧ ∀ j, j < i → (TL.tl (suf z1 s1))[j]? = (TL.tl (suf z2 s2))[j]?)
      ⟨none, none, rfl, Same.refl H, fun j h => absurd h (by omega)⟩ (fun _ _ _ _ _ => trivial) (fun i x σ H1 H2 hi hW y => ?_) (fun σ H1 hW => ?_)
    · obtain ⟨y8, y9, rfl, sm, al⟩ := hW
      obtain ⟨t, c, c', rfl, nt, rfl, hc, hc'⟩ := y
      have sx := sm.trans (same_new (o := .tup [.str ⟨#[c]⟩, .str ⟨#[c']⟩]) nt)
      rw [sz, sz] at hi
      refine ⟨_, _, rfl, .inl (.inl upd_same), rfl, _, _, rfl, _, _, rfl, rfl, ?_⟩
      refine ⟨_, rfl, _, rfl, rfl, _, rfl, ite2 (fun e => ?_) (fun e => ?_)⟩
      · -- the first ones that differ
        have ne : c ≠ c' := fun z => by
          subst z
          simp at e
        have := comm_of (x := TL.tl (suf z1 s1)) (y := TL.tl (suf z2 s2)) (n := i) (by omega) (by omega) al (.inr (.inr (by rw [gt, gt, hc, hc']; exact fun z => ne (Option.some.inj z))))
        have q2 := q _ sx
        rw [this] at q2
        exact ⟨_, rfl, q2⟩
      · have eq : c = c' := Decidable.byContradiction fun z => e (by
          have : ¬ V.str ⟨#[c]⟩ = V.str ⟨#[c']⟩ := fun h => z (by
            have h := V.str.inj h
            have h := Str.mk.inj h
            simpa using h)
          rw [decide_eq_false this]
          rfl)
        refine ⟨_, rfl, _, _, rfl, rfl, _, _, rfl, sx, fun j hj => ?_⟩
        rcases Nat.lt_or_ge j i with h | h
        · exact al j h
        · have : j = i := by omega
          subst this
          rw [gt, gt, hc, hc', eq]
    · obtain ⟨y8, y9, rfl, sm, al⟩ := hW
      rw [sz, sz] at al ⊢
      have := comm_of (x := TL.tl (suf z1 s1)) (y := TL.tl (suf z2 s2)) (n := min (TL.tl (suf z1 s1)).length (TL.tl (suf z2 s2)).length) (by omega) (by omega) al (by omega)
      have q2 := q _ sm
      rw [this] at q2
      exact ⟨_, rfl, q2⟩
end

section
variable {P : Program} {w : World} {K : PySem.W.Frag} {mg : Str → Option Value} {base : Heap} {ea : Ea}
/-- the commons of an order (of ends of the house): a new list -/
def spCommons (K : PySem.W.Frag) : Sp := fun vs H Q _ => ∃ (a o : Addr) (L : PL) (R : QT) (E : List E3), vs = [.ref a, .ref o] ∧ HsAt K H a L ∧ ((L.map (·.2)).map (·.1)).Pairwise (· < ·) ∧ (∀ q ∈ L, q.2.2.length ≤ 1000) ∧
  SqL K H o (qrefs R) ∧ QAt K H R ∧ R.map (·.2) = E.map (·.2) ∧ (∀ e ∈ E, e ∈ ends3 (L.map (·.2))) ∧ R.length ≤ 60000 ∧
  ∀ (l : Addr) (H' : Hp), Same H H' → H l = none → H' l = some (.lst ((cmsE E).map V.int)) → Q (.ref l) H'
theorem sc_commons_of : FnScope ["house", "order", "texts", "commons", "one", "two"] ["house", "order"] (defScope s_commons_of) := ⟨rfl, rfl, rfl, by decide +kernel, rfl, by decide +kernel, by decide +kernel⟩
theorem ok_commons_of (T : Txt K mg ea) (c__common_size : Cl P w K mg base 1 "_common_size" (spCommon K)) : Cl P w K mg base 2 "commons_of" (spCommons K) := by
  have nd := sc_commons_of.nd
  refine cl_of T.d_commons_of sc_commons_of (fun vs H Q E h => ?_) (fun f cdv A outer s H vs Q E0 hr h => ?_)
  · obtain ⟨a, o, L, R, E, rfl, _⟩ := h
    rfl
  · obtain ⟨a, o, L, R, E, rfl, hA, asc, hz, hO, hR, re, hE, rl, q⟩ := h
    refine ⟨_, (pss_cons (ps_set (i := 2) nd rfl (.inr rfl) (pe_callTy (call_dictP rfl) (by rfl) T.b_dict (by decide +kernel) (pa_cons (pv 0) pa_nil)))
      (pss_cons (ps_setLc (i := 3) (own := [("one", 4), ("two", 5)]) (g := (gTup K 2 (gCons (gName 4) (gCons (gName 5) gNil)))) rfl nd rfl rfl (sw_true rfl rfl rfl (by decide +kernel)) (pi_zip (by rfl) T.b_zip (pa_cons (pv 1) (pa_cons (pe_slice sl_list (pv 1) (po_some pe_int) po_none) pa_nil))) (blkOk_by (own := [("one", 4), ("two", 5)]) (N := ["house", "order", "texts", "commons", "one", "two"]) (sc := defScope s_commons_of) (by decide +kernel)) (fun _ _ _ _ _ => (pg_tup rfl (pgs_cons (pg_name (i := 4) nd rfl (.inl rfl)) (pgs_cons (pg_name (i := 5) nd rfl (.inl rfl)) pgs_nil)))) (fun _ _ _ _ _ => pts_nil) (fun _ _ _ _ _ => (C8.pe_c c__common_size hr (by decide) (by rfl) (pa_cons (pv 2) (pa_cons (pv 4) (pa_cons (pv 5) pa_nil))))))
      (pss_cons (ps_if (pt_cmpR op_gt (pe_callB call_len_seq (by rfl) T.b_len PySem.boot_len (pa_cons (pv 1) pa_nil)) pe_int (nomark _))
        (pss_one (ps_expr (pe_bm PySem.F.plainAttrs_list PySem.F.slot_list_insert PySem.F.type_list_insert mt_insert (pv 3) (pa_cons pe_int (pa_cons pe_int pa_nil)))))
        pss_nil)
      (pss_one (ps_ret (pv 3)))))), ?_⟩
    have eps : refs L = (L.map (·.1)).map V.ref := by rw [List.map_map]; rfl
    refine ⟨_, rfl, a, L.map (fun q : Addr × Int × Str => q.1), L.map fun q : Addr × Int × Str => ((Sum.inl q.2.1 : Key), V.str q.2.2), rfl, by rw [← eps]; exact hA.1, Dct.paired_house hA.2, fun dT ndT => ?_⟩
    have s1 := same_new (o := .dK (mergeK [] (L.map fun q => ((Sum.inl q.2.1 : Key), V.str q.2.2)))) ndT
    have hdT : (upd H dT (.dK (mergeK [] (L.map fun q => ((Sum.inl q.2.1 : Key), V.str q.2.2))))) dT = some (.dK (mergeK [] (L.map fun q => ((Sum.inl q.2.1 : Key), V.str q.2.2)))) := upd_same
    have tget : ∀ {n : Int} {z : Str}, (n, z) ∈ L.map (·.2) → valV (mergeK [] (L.map fun q => ((Sum.inl q.2.1 : Key), V.str q.2.2))) (.inl n) = some (.str z) := fun h => Dct.house_get asc h
    generalize mergeK [] (L.map fun q => ((Sum.inl q.2.1 : Key), V.str q.2.2)) = kvs at s1 hdT tget ⊢
    generalize upd H dT (.dK kvs) = H1 at s1 hdT ⊢
    have ql := qrefs_len R
    have el : R.length = E.length := by have := congrArg List.length re; simpa using this
    refine ⟨_, rfl, _, rfl, 1, rfl, o, _, rfl, s1.seq hO, fun o2 no2 => ?_⟩
    have ec : cutV (qrefs R) (some 1) none = (qrefs R).drop 1 := Dct.cut_from _ 1
    rw [ec]
    have s2 := s1.trans (same_new (o := .lst ((qrefs R).drop 1)) no2)
    have hdT2 := (same_new (o := .lst ((qrefs R).drop 1)) no2) _ _ hdT
    have ho2 : (upd H1 o2 (.lst ((qrefs R).drop 1))) o2 = some (.lst ((qrefs R).drop 1)) := upd_same
    generalize upd H1 o2 (.lst ((qrefs R).drop 1)) = H2 at s2 hdT2 ho2 ⊢
    refine ⟨o, o2, qrefs R, (qrefs R).drop 1, rfl, s2.seq hO, SqL.of ho2, fun D nD => ?_⟩
    have nD0 := s2.free nD
    have dl : ((qrefs R).drop 1).length = R.length - 1 := by rw [List.length_drop, ql]
    refine lc_w (walk_zip (K := K) (a := o) (b := o2) (xs := qrefs R) (ys := (qrefs R).drop 1) (n := R.length - 1) (by rw [ql, dl]; omega)) nD (by omega) (fun H' e => ⟨e.seq (s2.seq hO), SqL.of (e _ _ ho2)⟩)
      (fun i acc _ => acc = ((List.range i).map (cmAt E)).map V.int) (fun _ _ => rfl) (fun _ _ _ _ _ _ _ r => r) (fun i H x H' y => by obtain ⟨T, x1, x2, rfl, nt, rfl, _⟩ := y; exact same_new nt) (fun i x acc Ha Hb Qn Qf hi sm y r at_ kn kf => ?_) (fun acc Hb sm at_ _ r => ?_)
    · obtain ⟨t, x1, x2, rfl, nt, rfl, hx1, hx2⟩ := y
      subst r
      obtain ⟨r1, hr1, rm1, rfl⟩ := qrefs_at hx1
      have hx2 : ((qrefs R).drop 1)[i]? = some x2 := hx2
      rw [List.getElem?_drop] at hx2
      obtain ⟨r2, hr2, rm2, rfl⟩ := qrefs_at hx2
      have ends : ∀ {k : Nat} {r : Addr × Int × Int}, R[k]? = some r → ∃ (z : Str) (s : Nat), (r.2.1, z) ∈ L.map (·.2) ∧ r.2.2 = (s : Int) ∧ letsAt E k = (TL.tl z).drop s := fun {k r} h => by
        have h2 : (R.map (·.2))[k]? = some r.2 := by rw [List.getElem?_map, h]; rfl
        rw [re, List.getElem?_map] at h2
        cases e : E[k]? with
        | none => rw [e] at h2; cases h2
        | some x =>
          rw [e] at h2
          have h3 : x.2 = r.2 := Option.some.inj h2
          obtain ⟨q, hq, s, hs, rfl⟩ := mem_ends3.mp (hE x (List.mem_of_getElem? e))
          have h4 : q.1 = r.2.1 := congrArg Prod.fst h3
          have h5 : (s : Int) = r.2.2 := congrArg Prod.snd h3
          refine ⟨q.2, s, by rw [← h4]; exact hq, h5.symm, ?_⟩
          rw [letsAt_eq e]
          exact suf_tl _ _
      obtain ⟨z1, p1, m1, k1, w1⟩ := ends hr1
      obtain ⟨z2, p2, m2, k2, w2⟩ := ends hr2
      have lz : ∀ {n : Int} {z : Str}, (n, z) ∈ L.map (·.2) → z.length ≤ 1000 := fun h => by
        obtain ⟨y, hy, e⟩ := List.mem_map.mp h
        have := hz y hy
        rw [e] at this
        exact this
      have sT := s2.trans sm
      have q1 := same_tup sT (hR r1 rm1)
      have q2 := same_tup sT (hR r2 rm2)
      rw [k1] at q1
      rw [k2] at q2
      refine ⟨_, _, rfl, .inl (.inl upd_same), rfl, _, _, rfl, _, _, rfl, rfl, rfl, ?_⟩
      refine ⟨_, rfl, _, rfl, _, rfl, dT, r1.1, r2.1, kvs, r1.2.1, r2.2.1, p1, p2, z1, z2, rfl, q1, q2, sm _ _ hdT2, tget m1, tget m2, lz m1, lz m2, fun H' e => kn _ _ e ?_⟩
      rw [List.range_succ, List.map_append, List.map_append, ← w1, ← w2]
      have : letsAt E (1 + i) = letsAt E (i + 1) := by rw [Nat.add_comm]
      rw [this]
      rfl
    · subst r
      have sT := s2.trans sm
      refine ⟨_, rfl, o, _, rfl, .inl (sT.seq hO), _, _, rfl, rfl, _, rfl, ite2 (fun e => ?_) (fun e => ?_)⟩
      · have e' := of_decide_eq_true e
        rw [ql] at e'
        refine ⟨_, rfl, .inl ⟨rfl, _, SqL.of at_⟩, D, _, 0, _, rfl, rfl, at_, ?_, by omega, by decide, ?_⟩
        · rw [List.length_map, List.length_map, List.length_range]
          exact Nat.lt_of_le_of_lt (by omega : _ ≤ 60000) (by decide)
        · refine ⟨_, rfl, q D _ (same_mut sT nD0) nD0 ?_⟩
          rw [upd_same, cmsE_cons (n := R.length - 1) (by omega)]
          rfl
      · have e0 : R.length = 0 := by
          rcases Nat.eq_zero_or_pos R.length with h | h
          · exact h
          · exact absurd (decide_eq_true (by rw [ql]; omega)) e
        refine ⟨_, rfl, q D _ sT nD0 ?_⟩
        rw [at_]
        have : E = [] := List.eq_nil_of_length_eq_zero (by omega)
        rw [this, e0]
        rfl
end

end SH
set_option Elab.async false
set_option linter.all false
set_option maxRecDepth 100000
set_option maxHeartbeats 4000000
namespace SH
open PySem PySem.Spec PyProof.Rows L2
section
variable {P : Program} {w : World} {K : PySem.W.Frag} {mg : Str → Option Value} {base : Heap} {ea : Ea}
/-- the letters of all ends less the commons -/
def spStrCount (K : PySem.W.Frag) : Sp := fun vs H Q _ => ∃ (a o c : Addr) (L : PL) (R : QT) (E : List E3) (ns : List Int), vs = [.ref a, .ref o, .ref c] ∧ HsAt K H a L ∧ ((L.map (·.2)).map (·.1)).Pairwise (· < ·) ∧ (∀ q ∈ L, q.2.2.length ≤ 1000) ∧
  SqL K H o (qrefs R) ∧ QAt K H R ∧ R.map (·.2) = E.map (·.2) ∧ (∀ e ∈ E, e ∈ ends3 (L.map (·.2))) ∧ R.length ≤ 60000 ∧ SqL K H c (ns.map V.int) ∧
  ∀ H', Same H H' → Q (.int ((E.map fun e => (e.1.length : Int)).sum - ns.sum)) H'
theorem sc_stretch_count : FnScope ["house", "order", "commons", "texts", "number", "start"] ["house", "order", "commons"] (defScope s_stretch_count) := ⟨rfl, rfl, rfl, by decide +kernel, rfl, by decide +kernel, by decide +kernel⟩
theorem ok_stretch_count (T : Txt K mg ea) : Cl P w K mg base 1 "stretch_count" (spStrCount K) := by
  have nd := sc_stretch_count.nd
  refine cl_of T.d_stretch_count sc_stretch_count (fun vs H Q E h => ?_) (fun f cdv A outer s H vs Q E0 hr h => ?_)
  · obtain ⟨a, o, c, L, R, E, ns, rfl, _⟩ := h
    rfl
  · obtain ⟨a, o, c, L, R, E, ns, rfl, hA, asc, hz, hO, hR, re, hE, rl, hC, q⟩ := h
    refine ⟨_, (pss_cons (ps_set (i := 3) nd rfl (.inr rfl) (pe_callTy (call_dictP rfl) (by rfl) T.b_dict (by decide +kernel) (pa_cons (pv 0) pa_nil)))
      (pss_one (ps_ret (pe_op op_sub (pe_callB (cr_sum rfl) (by rfl) T.b_sum (by decide +kernel) (pa_cons (pe_lc (own := [("number", 4), ("start", 5)]) (g := (gTup K 2 (gCons (gName 4) (gCons (gName 5) gNil)))) rfl nd (pi_listK (K := K) (pv 1)) (blkOk_by (own := [("number", 4), ("start", 5)]) (N := ["house", "order", "commons", "texts", "number", "start"]) (sc := defScope s_stretch_count) (by decide +kernel)) (fun _ _ _ _ _ => (pg_tup rfl (pgs_cons (pg_name (i := 4) nd rfl (.inl rfl)) (pgs_cons (pg_name (i := 5) nd rfl (.inl rfl)) pgs_nil)))) (fun _ _ _ _ _ => pts_nil) (fun _ _ _ _ _ => (pe_op op_sub (pe_callB call_len_str (by rfl) T.b_len PySem.boot_len (pa_cons (pe_dget (hu_of hr) (pv 3) (pv 4) (fun _ _ => rfl)) pa_nil)) (pv 5)))) pa_nil)) (pe_callB (cr_sum rfl) (by rfl) T.b_sum (by decide +kernel) (pa_cons (pv 2) pa_nil)))))), ?_⟩
    have eps : refs L = (L.map (·.1)).map V.ref := by rw [List.map_map]; rfl
    refine ⟨_, rfl, a, L.map (fun q : Addr × Int × Str => q.1), L.map fun q : Addr × Int × Str => ((Sum.inl q.2.1 : Key), V.str q.2.2), rfl, by rw [← eps]; exact hA.1, Dct.paired_house hA.2, fun d nd1 => ?_⟩
    have sm1 := same_new (o := .dK (mergeK [] (L.map fun q => ((Sum.inl q.2.1 : Key), V.str q.2.2)))) nd1
    have hd : (upd H d (.dK (mergeK [] (L.map fun q => ((Sum.inl q.2.1 : Key), V.str q.2.2))))) d = some (.dK (mergeK [] (L.map fun q => ((Sum.inl q.2.1 : Key), V.str q.2.2)))) := upd_same
    have tv : ∀ n, valV (mergeK [] (L.map fun q => ((Sum.inl q.2.1 : Key), V.str q.2.2))) (.inl n) = (lk n (L.map (·.2))).map V.str := lk_val asc
    generalize mergeK [] (L.map fun q => ((Sum.inl q.2.1 : Key), V.str q.2.2)) = kvs at sm1 hd tv ⊢
    generalize upd H d (.dK kvs) = H1 at sm1 hd ⊢
    have ql := qrefs_len R
    have el : R.length = E.length := by have := congrArg List.length re; simpa using this
    refine ⟨_, rfl, o, rfl, ⟨_, sm1.seq hO⟩, fun D nD => ?_⟩
    refine lc_w (walk_list (xs := qrefs R)) nD (by omega) (fun H' e => e.seq (sm1.seq hO)) (fun i acc _ => acc = ((E.take i).map fun e => (e.1.length : Int)).map V.int) (fun _ _ => rfl) (fun _ _ _ _ _ _ _ r => r) (fun i H x H' y => by rw [y.1]; exact Same.refl _) (fun i x acc Ha Hb Qn Qf hi sm y r at_ kn kf => ?_) (fun acc Hb sm at_ _ r => ?_)
    · obtain ⟨rfl, hx⟩ := y
      subst r
      obtain ⟨r1, hr1, rm1, rfl⟩ := qrefs_at hx
      obtain ⟨e, he⟩ : ∃ e, E[i]? = some e := ⟨E[i]'(by omega), List.getElem?_eq_getElem (by omega)⟩
      have h3 : e.2 = r1.2 := by
        have h2 : (R.map (·.2))[i]? = some r1.2 := by rw [List.getElem?_map, hr1]; rfl
        rw [re, List.getElem?_map, he] at h2
        exact Option.some.inj h2
      obtain ⟨t, ht, st, hst, rfl⟩ := mem_ends3.mp (hE e (List.mem_of_getElem? he))
      have h4 : t.1 = r1.2.1 := congrArg Prod.fst h3
      have h5 : (st : Int) = r1.2.2 := congrArg Prod.snd h3
      have q1 := same_tup (sm1.trans sm) (hR r1 rm1)
      rw [← h4, ← h5] at q1
      obtain ⟨y, hy, rfl⟩ := List.mem_map.mp ht
      have dg : DGet Hb d (.int y.2.1) (some (.str y.2.2)) := by
        have := DGet.k (k := .inl y.2.1) (sm _ _ hd)
        rw [tv, lk_of asc ht] at this
        exact this
      refine ⟨_, _, rfl, q1, rfl, _, _, rfl, _, _, rfl, rfl, rfl, ?_⟩
      refine ⟨_, rfl, _, rfl, d, _, rfl, dg, y.2.2, rfl, Nat.le_trans (hz y hy) (by decide), _, rfl, _, _, rfl, rfl, ?_⟩
      refine kn _ _ (Same.refl _) ?_
      rw [take_snoc he, List.map_append, List.map_append]
      have : ((y.2.2.length : Int) - (st : Int)) = (((suf y.2.2 st).length : Nat) : Int) := by
        rw [suf_len]
        have : st ≤ y.2.2.length := hst
        omega
      show _ ++ [V.int ((y.2.2.length : Int) - (st : Int))] = _
      rw [this]
      rfl
    · subst r
      have sT := sm1.trans sm
      rw [List.take_of_length_le (by omega)] at at_
      refine ⟨D, _, rfl, SqL.of at_, ?_⟩
      refine ⟨_, rfl, c, ns, rfl, sT.seq hC, ?_⟩
      exact ⟨_, _, rfl, rfl, q _ sT⟩
end

section
variable {P : Program} {w : World} {K : PySem.W.Frag} {mg : Str → Option Value} {base : Heap} {ea : Ea}
def spIsInt : Sp := fun vs H Q _ => ∃ n : Int, vs = [.int n] ∧ Q (.bl true) H
theorem sc__law_is_integer : FnScope ["actual"] ["actual"] (defScope s__law_is_integer) := ⟨rfl, rfl, rfl, by decide +kernel, rfl, by decide +kernel, by decide +kernel⟩
theorem ok__law_is_integer (T : Txt K mg ea) : Cl P w K mg base 1 "_law_is_integer" spIsInt := by
  have nd := sc__law_is_integer.nd
  refine cl_of T.d__law_is_integer sc__law_is_integer (fun vs H Q E h => ?_) (fun f cdv A outer s H vs Q E hr h => ?_)
  · obtain ⟨n, rfl, _⟩ := h
    rfl
  · obtain ⟨n, rfl, q⟩ := h
    refine ⟨_, (pss_one (ps_ret (pe_and (pe_callB call_isi (by rfl) T.b_isinstance (by decide +kernel) (pa_cons (pv 0) (pa_cons (pe_bltn (v := .ty "int") (by rfl) T.b_int (by decide +kernel) rfl) pa_nil))) (pe_one (pe_not (pe_callB call_isi (by rfl) T.b_isinstance (by decide +kernel) (pa_cons (pv 0) (pa_cons (pe_bltn (v := .ty "bool") (by rfl) T.b_bool (by decide +kernel) rfl) pa_nil)))))))), ?_⟩
    refine ⟨_, rfl, _, _, _, _, true, rfl, .ty "int", .base (.int n), kit_ty (by decide +kernel), _, rfl, iteT ?_⟩
    exact ⟨_, rfl, _, _, _, _, false, rfl, .ty "bool", .base (.int n), kit_ty (by decide +kernel), _, rfl, q⟩
end

end SH
set_option Elab.async false
set_option linter.all false
set_option maxRecDepth 100000
set_option maxHeartbeats 4000000
namespace SH
open PySem PySem.Spec PyProof.Rows L2
section
variable {P : Program} {w : World} {K : PySem.W.Frag} {mg : Str → Option Value} {base : Heap} {ea : Ea}
/-- the words of a house, each with the numbers of the texts where it stands: a new dict of new lists -/
def spWords (K : PySem.W.Frag) : Sp := fun vs H Q _ => ∃ (a : Addr) (L : PL), vs = [.ref a] ∧ HsAt K H a L ∧ L.length ≤ 8 ∧ (∀ q ∈ L, q.2.2.length ≤ 40) ∧ ∀ (D : Addr) (T : WT) (H' : Hp), Wd H H' D T → WdOf T (occ (L.map (·.2))) → Q (.ref D) H'
theorem occA_len (z : Str) (n : Int) (a m : Nat) : (occA z n a m).length = m := by unfold occA; rw [List.length_map, List.length_range]
theorem occQ_len (q : Int × Str) : ∀ m : Nat, q.2.length ≤ 40 → (occQ q m).length ≤ m * 40
  | 0, _ => by simp [occQ]
  | m + 1, h => by
    have := occQ_len q m h
    rw [occQ_succ, List.length_append, occA_len]
    omega
theorem occ_len : ∀ h : List (Int × Str), (∀ q ∈ h, q.2.length ≤ 40) → (occ h).length ≤ h.length * 1600
  | [], _ => by simp [occ]
  | q :: r, h => by
    have h1 := occ_len r fun x m => h x (List.mem_cons_of_mem _ m)
    have h2 := h q (List.mem_cons_self ..)
    have h3 := occQ_len q q.2.length h2
    have e : occ (q :: r) = occQ q q.2.length ++ occ r := rfl
    rw [e, List.length_append, List.length_cons]
    have : q.2.length * 40 ≤ 1600 := by omega
    omega
theorem WdOf.len {H0 H : Hp} {D : Addr} {T : WT} {O : Occ} (h : Wd H0 H D T) (o : WdOf T O) : T.length ≤ O.length := by
  have := List.Nodup.length_le_of_subset h.kd (fun z hz => (o.mem z).mp hz)
  rw [List.length_map, List.length_map] at this
  exact this
theorem sc__law_words : FnScope ["house", "found", "number", "text", "start", "stop", "word"] ["house"] (defScope s__law_words) := ⟨rfl, rfl, rfl, by decide +kernel, rfl, by decide +kernel, by decide +kernel⟩
theorem ok__law_words (T : Txt K mg ea) : Cl P w K mg base 1 "_law_words" (spWords K) := by
  have nd := sc__law_words.nd
  refine cl_of T.d__law_words sc__law_words (fun vs H Q E h => ?_) (fun f cdv A outer s H vs Q E hr h => ?_)
  · obtain ⟨a, L, rfl, _⟩ := h
    rfl
  · obtain ⟨a, L, rfl, hA, hl, hz, q⟩ := h
    refine ⟨_, (pss_cons (ps_set (i := 1) nd rfl (.inl rfl) pe_dnewK)
      (pss_cons (ps_for PassesOwn.never rfl (pi_listK (K := K) (pv 0)) (pg_tup rfl (pgs_cons (pg_name (i := 2) nd rfl (.inl rfl)) (pgs_cons (pg_name (i := 3) nd rfl (.inl rfl)) pgs_nil)))
        (pss_one (ps_for PassesOwn.never rfl (pi_range1 rfl T.b_range (pa_cons (pe_callB call_len_str (by rfl) T.b_len PySem.boot_len (pa_cons (pv 3) pa_nil)) pa_nil)) (pg_name (i := 4) nd rfl (.inl rfl))
            (pss_one (ps_for PassesOwn.never rfl (pi_range2 rfl T.b_range (pa_cons (pe_op op_add (pv 4) pe_int) (pa_cons (pe_op op_add (pe_callB call_len_str (by rfl) T.b_len PySem.boot_len (pa_cons (pv 3) pa_nil)) pe_int) pa_nil))) (pg_name (i := 5) nd rfl (.inl rfl))
                (pss_cons (ps_set (i := 6) nd rfl (.inl rfl) (pe_slice sl_str (pv 3) (po_some (pv 4)) (po_some (pv 5))))
                  (C8.pss_cut (ps_if (pt_cmp (pc_dnotin (hu_of hr) (pv 6) (pv 1)))
                    (pss_one (ps_dput (hu_of hr) (pv 1) (pv 6) (pe_lst pa_nil) rfl))
                    pss_nil)
                  (pss_one (ps_expr (pe_bm PySem.F.plainAttrs_list PySem.F.slot_list_append PySem.F.type_list_append mt_append (pe_dget (hu_of hr) (pv 1) (pv 6) (fun _ _ => rfl)) (pa_cons (pv 2) pa_nil)))))))))))
      (pss_one (ps_ret (pv 1))))), ?_⟩
    have rl := refs_len L
    intro D nD
    have w0 : Wd H (upd H D (.dK (wkvs []))) D [] := ⟨upd_same, same_new nD, nD, List.nodup_nil, List.nodup_nil, (fun e m => nomatch m)⟩
    have o0 : WdOf [] (occ ((L.map (·.2)).take 0)) := ⟨fun z => Iff.rfl, (fun e m => nomatch m)⟩
    have ol : ∀ O : Occ, O.Sublist (occ (L.map (·.2))) → O.length ≤ 12800 := fun O s => by
      have h1 := occ_len (L.map (·.2)) fun q hq => by
        obtain ⟨y, hy, rfl⟩ := List.mem_map.mp hq
        exact hz y hy
      rw [List.length_map] at h1
      have := s.length_le
      omega
    refine ⟨_, rfl, a, rfl, ⟨_, w0.sm.seq hA.1⟩, ?_⟩
    refine for_it (walk_list (K := K) (a := a) (xs := refs L)) (fun i σ H' => ∃ T : WT, Wd H H' D T ∧ WdOf T (occ ((L.map (·.2)).take i)) ∧ ∃ y2 y3 y4 y5 y6 : Option V, σ = [some (.ref a), some (.ref D), y2, y3, y4, y5, y6])
      ⟨[], w0, o0, none, none, none, none, none, rfl⟩ (fun i σ H' _ hW => ?_) (fun i x σ H1 H2 hi hW y => ?_) (fun σ H1 hW => ?_)
    · obtain ⟨T, hT, _⟩ := hW
      exact hT.sm.seq hA.1
    · obtain ⟨T, hT, hO, y2, y3, y4, y5, y6, rfl⟩ := hW
      obtain ⟨rfl, hx⟩ := y
      obtain ⟨t, ht, tm, rfl⟩ := refs_get hx
      have tl := hz t tm
      have ht2 : (L.map (·.2))[i]? = some t.2 := by rw [List.getElem?_map, ht]; rfl
      have tk := take_snoc ht2
      have zs : t.2.2.length ≤ sizeLine := Nat.le_trans tl (by decide)
      have sub : (occ ((L.map (·.2)).take (i + 1))).Sublist (occ (L.map (·.2))) := by
        unfold occ
        have e := List.take_append_drop (i + 1) (L.map (·.2))
        conv => rhs; rw [← e, List.flatMap_append]
        exact List.sublist_append_left _ _
      rw [tk, occ_snoc] at sub
      refine ⟨_, _, rfl, same_tup hT.sm (hA.2 t tm), rfl, _, _, rfl, _, _, rfl, rfl, ?_⟩
      refine ⟨_, rfl, t.2.2, rfl, zs, _, rfl, by omega, by omega, ?_⟩
      refine for_range (lo := 0) (n := (t.2.2.length : Int).toNat) (fun s σ H' => ∃ T : WT, Wd H H' D T ∧ WdOf T (occ ((L.map (·.2)).take i) ++ occQ t.2 s) ∧ ∃ y4 y5 y6 : Option V, σ = [some (.ref a), some (.ref D), some (.int t.2.1), some (.str t.2.2), y4, y5, y6])
        ⟨T, hT, by rw [show occQ t.2 0 = [] from rfl, List.append_nil]; exact hO, _, _, _, rfl⟩ (fun s σ H3 hs hW => ?_) (fun σ H3 hW => ?_)
      · obtain ⟨T, hT, hO, y4, y5, y6, rfl⟩ := hW
        have ez : (0 : Int) + (s : Int) = (s : Int) := Int.zero_add _
        rw [ez]
        have en : ((t.2.2.length : Int) + 1 - ((s : Int) + 1)).toNat = t.2.2.length - s := by omega
        refine ⟨_, rfl, _, _, rfl, rfl, _, rfl, t.2.2, rfl, zs, _, _, rfl, rfl, _, _, rfl, ⟨by omega, by omega, by omega, by omega⟩, ?_⟩
        refine for_range (lo := (s : Int) + 1) (n := ((t.2.2.length : Int) + 1 - ((s : Int) + 1)).toNat) (fun j σ H' => ∃ T : WT, Wd H H' D T ∧ WdOf T (occ ((L.map (·.2)).take i) ++ occQ t.2 s ++ occA t.2.2 t.2.1 s j) ∧ ∃ y5 y6 : Option V, σ = [some (.ref a), some (.ref D), some (.int t.2.1), some (.str t.2.2), some (.int (s : Int)), y5, y6])
          ⟨T, hT, by rw [show occA t.2.2 t.2.1 s 0 = [] from rfl, List.append_nil]; exact hO, _, _, rfl⟩ (fun j σ H4 hj hW => ?_) (fun σ H4 hW => ?_)
        · obtain ⟨T, hT, hO, y5, y6, rfl⟩ := hW
          have ej : (s : Int) + 1 + (j : Int) = ((s + 1 + j : Nat) : Int) := by omega
          rw [ej]
          refine ⟨_, rfl, _, rfl, _, rfl, _, rfl, _, rfl, t.2.2, rfl, zs, ?_⟩
          have ew : cutS t.2.2 (some (s : Int)) (some ((s + 1 + j : Nat) : Int)) = cutN t.2.2 s (s + 1 + j) := rfl
          rw [ew]
          generalize ewd : cutN t.2.2 s (s + 1 + j) = wd
          have tlen : T.length ≤ 20000 := by
            have h1 := WdOf.len hT hO
            have h2 : (occ ((L.map (·.2)).take i) ++ occQ t.2 s ++ occA t.2.2 t.2.1 s j).length ≤ 12800 + 1600 + 40 := by
              rw [List.length_append, List.length_append, occA_len]
              have h3 := ol _ ((List.sublist_append_left _ _).trans sub)
              have h4 := occQ_len t.2 s tl
              omega
            omega
          refine ⟨fun σ H' => ∃ T1 : WT, Wd H H' D T1 ∧ (∀ y, y ∈ T1.map (·.1) ↔ y ∈ (occ ((L.map (·.2)).take i) ++ occQ t.2 s ++ occA t.2.2 t.2.1 s j).map (·.1) ∨ y = wd) ∧ (∀ e ∈ T1, e.2.2 = ((occ ((L.map (·.2)).take i) ++ occQ t.2 s ++ occA t.2.2 t.2.1 s j).filter fun o => decide (o.1 = e.1)).map (·.2)) ∧
            σ = [some (.ref a), some (.ref D), some (.int t.2.1), some (.str t.2.2), some (.int (s : Int)), some (.int ((s + 1 + j : Nat) : Int)), some (.str wd)], ?_, ?_⟩
          · by_cases c : wd ∈ T.map (·.1)
            · obtain ⟨e, he, ee⟩ := List.mem_map.mp c
              have dg := DGet.k (k := .inr e.1) hT.at_
              rw [hT.val_of he, ee] at dg
              refine ⟨_, rfl, _, rfl, D, _, rfl, dg, _, rfl, iteF ?_⟩
              exact ⟨T, hT, fun y => ⟨fun z => .inl ((hO.mem y).mp z), fun z => z.elim (hO.mem y).mpr fun z => z ▸ c⟩, hO.val, rfl⟩
            · have dg := DGet.k (k := .inr wd) hT.at_
              rw [wkvs_none c] at dg
              refine ⟨_, rfl, _, rfl, D, _, rfl, dg, _, rfl, iteT ?_⟩
              refine ⟨Nat.zero_le _, fun r nr => ?_⟩
              have hn := hT.new c nr
              have atD : (upd H4 r (.lst [])) D = some (.dK (wkvs T)) := same_new nr _ _ hT.at_
              have kl : (wkvs T).length < sizeLine := by
                unfold wkvs
                rw [List.length_map]
                exact Nat.lt_of_le_of_lt tlen (by decide)
              have dp := DPut.k (k := .inr wd) (v := .ref r) atD kl
              rw [wkvs_put c] at dp
              refine ⟨_, rfl, _, rfl, D, _, rfl, dp, ?_⟩
              have nn : wd ∉ (occ ((L.map (·.2)).take i) ++ occQ t.2 s ++ occA t.2.2 t.2.1 s j).map (·.1) := fun z => c ((hO.mem wd).mpr z)
              refine ⟨T ++ [(wd, r, [])], hn, fun y => ?_, fun e he => ?_, rfl⟩
              · rw [List.map_append, List.mem_append, hO.mem y]
                exact or_congr Iff.rfl List.mem_singleton
              · rcases List.mem_append.mp he with m | m
                · exact hO.val e m
                · rw [List.mem_singleton.mp m]
                  show [] = _
                  rw [List.filter_eq_nil_iff.mpr fun o ho hd => nn (by rw [← show o.1 = wd from of_decide_eq_true hd]; exact List.mem_map_of_mem (f := fun o : Str × Int => o.1) ho)]
                  rfl
          rintro σ' H5 ⟨T1, h1, hs1, hv1, rfl⟩
          obtain ⟨e, he, ee⟩ := List.mem_map.mp ((hs1 wd).mpr (.inr rfl))
          have dg := DGet.k (k := .inr e.1) h1.at_
          rw [h1.val_of he, ee] at dg
          have hr := (h1.row e he).1
          refine ⟨_, rfl, _, rfl, D, _, rfl, dg, .inl ⟨rfl, _, SqL.of hr⟩, _, rfl, e.2.1, _, _, rfl, rfl, hr, ?_, ?_⟩
          · have h2 : (occ ((L.map (·.2)).take i) ++ occQ t.2 s ++ occA t.2.2 t.2.1 s j).length ≤ 12800 + 1600 + 40 := by
              rw [List.length_append, List.length_append, occA_len]
              have h3 := ol _ ((List.sublist_append_left _ _).trans sub)
              have h4 := occQ_len t.2 s tl
              omega
            have h3 := congrArg List.length (hv1 e he)
            rw [List.length_map] at h3
            have h4 := List.length_filter_le (fun o : Str × Int => decide (o.1 = e.1)) (occ ((L.map (·.2)).take i) ++ occQ t.2 s ++ occA t.2.2 t.2.1 s j)
            rw [List.length_map]
            exact Nat.lt_of_le_of_lt (by omega : _ ≤ 20000) (by decide)
          · refine ⟨bump T1 e.1 t.2.1, h1.app he t.2.1, ?_, _, _, rfl⟩
            rw [occA_succ, ewd, ← List.append_assoc, ee]
            exact WdOf.bump hs1 hv1
        · obtain ⟨T, hT, hO, y5, y6, rfl⟩ := hW
          refine ⟨T, hT, ?_, _, _, _, rfl⟩
          rw [occQ_succ, ← List.append_assoc]
          rw [en] at hO
          exact hO
      · obtain ⟨T, hT, hO, y4, y5, y6, rfl⟩ := hW
        refine ⟨T, hT, ?_, _, _, _, _, _, rfl⟩
        rw [tk, occ_snoc]
        exact hO
    · obtain ⟨T, hT, hO, y2, y3, y4, y5, y6, rfl⟩ := hW
      rw [List.take_of_length_le (by rw [List.length_map, rl]; exact Nat.le_refl _)] at hO
      exact ⟨_, rfl, q D T _ hT hO⟩
end

section
variable {P : Program} {w : World} {K : PySem.W.Frag} {mg : Str → Option Value} {base : Heap} {ea : Ea}
/-- the stretches of a house, in order: a new list -/
def spStrs (K : PySem.W.Frag) : Sp := fun vs H Q _ => ∃ (a : Addr) (L : PL), vs = [.ref a] ∧ HsAt K H a L ∧ L.length ≤ 8 ∧ (∀ q ∈ L, q.2.2.length ≤ 20) ∧
  ∀ (p : Addr) (H' : Hp) (l : List Str), Same H H' → H p = none → H' p = some (.lst (l.map V.str)) → StrL ((occ (L.map (·.2))).map (·.1)) l → Q (.ref p) H'
theorem occS_len : ∀ h : List (Int × Str), (∀ q ∈ h, q.2.length ≤ 20) → (occ h).length ≤ h.length * 400
  | [], _ => by simp [occ]
  | q :: r, h => by
    have h1 := occS_len r fun x m => h x (List.mem_cons_of_mem _ m)
    have h2 := h q (List.mem_cons_self ..)
    have e : occ (q :: r) = occQ q q.2.length ++ occ r := rfl
    have h3 : ∀ m : Nat, (occQ q m).length ≤ m * 20 := by
      intro m
      induction m with
      | zero => simp [occQ]
      | succ m ih =>
        rw [occQ_succ, List.length_append]
        have : (occA q.2 q.1 m (q.2.length - m)).length = q.2.length - m := by unfold occA; rw [List.length_map, List.length_range]
        omega
    have h4 := h3 q.2.length
    rw [e, List.length_append, List.length_cons]
    have : q.2.length * 20 ≤ 400 := by omega
    omega
theorem occ_text {h : List (Int × Str)} {m : Nat} (hz : ∀ q ∈ h, q.2.length ≤ m) {z : Str} (hm : z ∈ (occ h).map (·.1)) : z.length ≤ m := by
  obtain ⟨o, ho, rfl⟩ := List.mem_map.mp hm
  obtain ⟨q, hq, ho⟩ := List.mem_flatMap.mp ho
  obtain ⟨s, hs, ho⟩ := List.mem_flatMap.mp ho
  obtain ⟨k, hk, rfl⟩ := List.mem_map.mp ho
  have := hz q hq
  have hs := List.mem_range.mp hs
  have hk := List.mem_range.mp hk
  show (cutN q.2 s (s + 1 + k)).length ≤ m
  have e := cutN_len (z := q.2) (a := s) (b := s + 1 + k) (by omega) (by omega)
  omega
theorem sc_stretches : FnScope ["house", "found", "_", "text", "start", "stop"] ["house"] (defScope s_stretches) := ⟨rfl, rfl, rfl, by decide +kernel, rfl, by decide +kernel, by decide +kernel⟩
theorem ok_stretches (T : Txt K mg ea) : Cl P w K mg base 1 "stretches" (spStrs K) := by
  have nd := sc_stretches.nd
  refine cl_of T.d_stretches sc_stretches (fun vs H Q E h => ?_) (fun f cdv A outer s H vs Q E hr h => ?_)
  · obtain ⟨a, L, rfl, _⟩ := h
    rfl
  · obtain ⟨a, L, rfl, hA, hl, hz, q⟩ := h
    refine ⟨_, (pss_cons (ps_setSc3 (i := 1) (w := w) (own := [("_", 2), ("text", 3), ("start", 4), ("stop", 5)]) (vs1 := [4, 5]) (vs2 := [5]) (g := (gTup K 2 (gCons (gName 2) (gCons (gName 3) gNil)))) (g1 := (gName 4)) (g2 := (gName 5)) rfl nd rfl rfl (sw_trueS rfl rfl rfl (by decide +kernel)) (pi_listK (K := K) (pv 0)) (blkOk_by (own := [("_", 2), ("text", 3), ("start", 4), ("stop", 5)]) (N := ["house", "found", "_", "text", "start", "stop"]) (sc := defScope s_stretches) (by decide +kernel)) (by decide) (fun _ _ _ _ _ => (pg_tup rfl (pgs_cons (pg_name (i := 2) nd rfl (.inl rfl)) (pgs_cons (pg_name (i := 3) nd rfl (.inl rfl)) pgs_nil)))) (fun _ _ _ _ _ => pts_nil) (fun _ _ _ _ _ => (pi_range1 rfl T.b_range (pa_cons (pe_callB call_len_str (by rfl) T.b_len PySem.boot_len (pa_cons (pv 3) pa_nil)) pa_nil))) (fun _ _ _ _ _ => (pg_name (i := 4) nd rfl (.inl rfl))) (fun _ _ _ _ _ => pts_nil) (fun _ _ _ _ _ => (pi_range2 rfl T.b_range (pa_cons (pe_op op_add (pv 4) pe_int) (pa_cons (pe_op op_add (pe_callB call_len_str (by rfl) T.b_len PySem.boot_len (pa_cons (pv 3) pa_nil)) pe_int) pa_nil)))) (fun _ _ _ _ _ => (pg_name (i := 5) nd rfl (.inl rfl))) (fun _ _ _ _ _ => pts_nil) (fun _ _ _ _ _ => (pe_slice sl_str (pv 3) (po_some (pv 4)) (po_some (pv 5)))))
      (pss_one (ps_ret (pe_sortLenK (K := K) hr.units (by rfl) T.b_sorted (by rfl) T.b_len (pa_cons (pe_callB (cr_sortMS rfl hr.units) (by rfl) T.b_sorted (by decide +kernel) (pa_cons (pv 1) pa_nil)) pa_nil))))), ?_⟩
    have rl := refs_len L
    have ol : ∀ O : Occ, O.Sublist (occ (L.map (·.2))) → O.length ≤ 3200 := fun O s => by
      have h1 := occS_len (L.map (·.2)) fun q hq => by
        obtain ⟨y, hy, rfl⟩ := List.mem_map.mp hq
        exact hz y hy
      rw [List.length_map] at h1
      have := s.length_le
      omega
    refine ⟨_, rfl, a, rfl, ⟨_, hA.1⟩, fun D nD => ?_⟩
    refine turns_w (walk_list (K := K) (a := a) (xs := refs L)) (fun i H' => SetS w H H' D ((occ ((L.map (·.2)).take i)).map (·.1))) (SetS.nil nD) (fun i H' _ h => by obtain ⟨_, _, _, _, _, sm⟩ := h; exact sm.seq hA.1) (fun i x H1 H2 hi hW y => ?_) (fun H1 hW => ?_)
    · obtain ⟨rfl, hx⟩ := y
      obtain ⟨t, ht, tm, rfl⟩ := refs_get hx
      have tl := hz t tm
      have ht2 : (L.map (·.2))[i]? = some t.2 := by rw [List.getElem?_map, ht]; rfl
      have tk := take_snoc ht2
      have zs : t.2.2.length ≤ sizeLine := Nat.le_trans tl (by decide)
      have sub : (occ ((L.map (·.2)).take (i + 1))).Sublist (occ (L.map (·.2))) := by
        unfold occ
        have e := List.take_append_drop (i + 1) (L.map (·.2))
        conv => rhs; rw [← e, List.flatMap_append]
        exact List.sublist_append_left _ _
      rw [tk, occ_snoc] at sub
      have sm : Same H H2 := by obtain ⟨_, _, _, _, _, sm⟩ := hW; exact sm
      refine ⟨_, _, rfl, same_tup sm (hA.2 t tm), rfl, _, _, rfl, _, _, rfl, rfl, rfl, ?_⟩
      refine ⟨_, rfl, t.2.2, rfl, zs, _, rfl, by omega, by omega, ?_⟩
      refine turns_w (walk_range (lo := 0) (n := (t.2.2.length : Int).toNat)) (fun s H' => SetS w H H' D ((occ ((L.map (·.2)).take i) ++ occQ t.2 s).map (·.1))) (by rw [show occQ t.2 0 = [] from rfl, List.append_nil]; exact hW) (fun _ _ _ _ => trivial) (fun s x H3 H4 hs hW y => ?_) (fun H3 hW => ?_)
      · obtain ⟨rfl, rfl⟩ := y
        have ez : (0 : Int) + (s : Int) = (s : Int) := Int.zero_add _
        simp only [ez]
        have en : ((t.2.2.length : Int) + 1 - ((s : Int) + 1)).toNat = t.2.2.length - s := by omega
        refine ⟨rfl, ?_⟩
        refine ⟨_, rfl, _, _, rfl, rfl, _, rfl, t.2.2, rfl, zs, _, _, rfl, rfl, _, _, rfl, ⟨by omega, by omega, by omega, by omega⟩, ?_⟩
        refine turns_w (walk_range (lo := (s : Int) + 1) (n := ((t.2.2.length : Int) + 1 - ((s : Int) + 1)).toNat)) (fun j H' => SetS w H H' D ((occ ((L.map (·.2)).take i) ++ occQ t.2 s ++ occA t.2.2 t.2.1 s j).map (·.1))) (by rw [show occA t.2.2 t.2.1 s 0 = [] from rfl, List.append_nil]; exact hW) (fun _ _ _ _ => trivial) (fun j x H4 H5 hj hW y => ?_) (fun H4 hW => ?_)
        · obtain ⟨rfl, rfl⟩ := y
          have ej : (s : Int) + 1 + (j : Int) = ((s + 1 + j : Nat) : Int) := by omega
          simp only [ej]
          refine ⟨rfl, ?_⟩
          refine ⟨_, rfl, _, rfl, _, rfl, _, rfl, _, rfl, t.2.2, rfl, zs, ?_⟩
          have ew : cutS t.2.2 (some (s : Int)) (some ((s + 1 + j : Nat) : Int)) = cutN t.2.2 s (s + 1 + j) := rfl
          rw [ew]
          refine SetS.put (Q := fun H1 => SetS w H H1 D ((occ ((L.map (·.2)).take i) ++ occQ t.2 s ++ occA t.2.2 t.2.1 s (j + 1)).map (·.1))) nD hW _ ?_ fun H' h' => ?_
          · have h3 := ol _ ((List.sublist_append_left _ _).trans sub)
            have h4 := occQ_len t.2 s (Nat.le_trans tl (by decide))
            rw [List.length_map, List.length_append, List.length_append, occA_len]
            omega
          · rw [occA_succ, ← List.append_assoc, List.map_append]
            exact h'
        · rw [en] at hW
          rw [occQ_succ, ← List.append_assoc]
          exact hW
      · rw [tk, occ_snoc]
        exact hW
    · rw [List.take_of_length_le (by rw [List.length_map, rl]; exact Nat.le_refl _)] at hW
      obtain ⟨S, n, hD, hS, hn, sm⟩ := hW
      refine ⟨_, rfl, D, S, n, rfl, hD, fun k hk => by obtain ⟨z, e, _⟩ := (hS k).mp hk; exact ⟨z, e⟩, fun l p1 nl pw hm ln np => ?_⟩
      have s1 := same_new (o := .lst (l.map V.str)) np
      have mem : ∀ z, z ∈ l ↔ z ∈ (occ (L.map (·.2))).map (·.1) := fun z => (hm z).trans ((hS (.inr z)).trans ⟨fun ⟨y, e, m⟩ => Sum.inr.inj e ▸ m, fun m => ⟨z, rfl, m⟩⟩)
      refine ⟨p1, l, rfl, SqL.of upd_same, fun z hz2 => ?_, fun p2 np2 => ?_⟩
      · have := occ_text (m := 20) (fun q hq => by obtain ⟨y, hy, rfl⟩ := List.mem_map.mp hq; exact hz y hy) ((mem z).mp hz2)
        exact Nat.le_trans this (by decide)
      · exact q p2 _ _ (sm.trans (s1.trans (same_new np2))) ((sm.trans s1).free np2) upd_same ((lenSort nl pw).cong mem)
end

end SH
set_option Elab.async false
set_option linter.all false
set_option maxRecDepth 100000
set_option maxHeartbeats 4000000
namespace SH
open PySem PySem.Spec PyProof.Rows L2
section
variable {P : Program} {w : World} {K : PySem.W.Frag} {mg : Str → Option Value} {base : Heap} {ea : Ea}
/-- how many stretches have one, two and more letters: a new list -/
def spCnts (K : PySem.W.Frag) : Sp := fun vs H Q _ => ∃ (a : Addr) (L : PL), vs = [.ref a] ∧ HsAt K H a L ∧ L.length ≤ 8 ∧ (∀ q ∈ L, q.2.2.length ≤ 20) ∧
  ∀ (p : Addr) (H' : Hp) (l : List Str) (m : Nat), Same H H' → H p = none → H' p = some (.lst ((cntsTo m l).map V.int)) → StrL ((occ (L.map (·.2))).map (·.1)) l → MaxL m l → m ≤ 20 → Q (.ref p) H'
theorem sc_stretch_counts : FnScope ["house", "counts", "word"] ["house"] (defScope s_stretch_counts) := ⟨rfl, rfl, rfl, by decide +kernel, rfl, by decide +kernel, by decide +kernel⟩
theorem ok_stretch_counts (T : Txt K mg ea) (c_stretches : Cl P w K mg base 1 "stretches" (spStrs K)) : Cl P w K mg base 2 "stretch_counts" (spCnts K) := by
  have nd := sc_stretch_counts.nd
  refine cl_of T.d_stretch_counts sc_stretch_counts (fun vs H Q E h => ?_) (fun f cdv A outer s H vs Q E hr h => ?_)
  · obtain ⟨a, L, rfl, _⟩ := h
    rfl
  · obtain ⟨a, L, rfl, hA, hl, hz, q⟩ := h
    refine ⟨_, (pss_cons (ps_set (i := 1) nd rfl (.inl rfl) (pe_lst pa_nil))
      (pss_cons (ps_for PassesOwn.never rfl (pi_listK (K := K) (C8.pe_c c_stretches hr (by decide) (by rfl) (pa_cons (pv 0) pa_nil))) (pg_name (i := 2) nd rfl (.inl rfl))
        (C8.pss_cut (ps_if (pt_cmpR op_gt (pe_callB call_len_str (by rfl) T.b_len PySem.boot_len (pa_cons (pv 2) pa_nil)) (pe_callB call_len_seq (by rfl) T.b_len PySem.boot_len (pa_cons (pv 1) pa_nil)) (nomark _))
            (pss_one (ps_expr (pe_bm PySem.F.plainAttrs_list PySem.F.slot_list_append PySem.F.type_list_append mt_append (pv 1) (pa_cons pe_int pa_nil))))
            pss_nil)
          (pss_one (ps_augS (pv 1) (pe_un un_neg pe_int) (pgetK (K := K)) pe_int ip_add set_list))))
      (pss_one (ps_ret (pv 1))))), ?_⟩
    refine ⟨Nat.zero_le _, fun c nc => ?_⟩
    have s0 := same_new (o := .lst []) nc
    have at0 : (upd H c (.lst [])) c = some (.lst []) := upd_same
    generalize upd H c (.lst []) = H0 at s0 at0 ⊢
    refine ⟨_, rfl, a, L, rfl, hA.same s0, hl, hz, fun p H1 l s1 np at1 hS => ?_⟩
    have txt : ∀ z ∈ l, z.length ≤ 20 := fun z hm => occ_text (fun q hq => by obtain ⟨y, hy, rfl⟩ := List.mem_map.mp hq; exact hz y hy) ((hS.mem z).mp hm)
    have pc : p ≠ c := fun e => by rw [e, at0] at np; cases np
    refine ⟨p, rfl, ⟨_, SqL.of at1⟩, ?_⟩
    refine for_it (walk_list (K := K) (a := p) (xs := l.map V.str)) (fun i σ H' => ∃ (m : Nat) (y2 : Option V), MaxL m (l.take i) ∧ H' p = some (.lst (l.map V.str)) ∧ H' c = some (.lst ((cntsTo m (l.take i)).map V.int)) ∧ Same H H' ∧ σ = [some (.ref a), some (.ref c), y2])
      ⟨0, none, ⟨(fun z m => nomatch m), .inl rfl⟩, at1, s1 _ _ at0, s0.trans s1, rfl⟩ (fun i σ H' _ hW => ?_) (fun i x σ H2 H3 hi hW y => ?_) (fun σ H2 hW => ?_)
    · obtain ⟨m, y2, _, at2, _⟩ := hW
      exact SqL.of at2
    · obtain ⟨m, y2, hm, at2, ac, sm, rfl⟩ := hW
      obtain ⟨rfl, hx⟩ := y
      rw [List.getElem?_map] at hx
      obtain ⟨wd, hw, rfl⟩ : ∃ wd, l[i]? = some wd ∧ x = .str wd := by
        cases e : l[i]? with
        | none => rw [e] at hx; cases hx
        | some wd => rw [e] at hx; exact ⟨wd, rfl, (Option.some.inj hx).symm⟩
      have wl := txt wd (List.mem_of_getElem? hw)
      obtain ⟨n1, n2, n3⟩ := maxL_next hS hw hm
      obtain ⟨n, en⟩ : ∃ n, wd.length = n + 1 := ⟨wd.length - 1, by omega⟩
      refine ⟨fun σ H' => H' p = some (.lst (l.map V.str)) ∧ H' c = some (.lst ((cntsTo (n + 1) (l.take i)).map V.int)) ∧ Same H H' ∧ σ = [some (.ref a), some (.ref c), some (.str wd)], ?_, ?_⟩
      · refine ⟨_, rfl, wd, rfl, Nat.le_trans wl (by decide), _, rfl, c, _, rfl, .inl (SqL.of ac), _, _, rfl, rfl, _, rfl, ?_⟩
        rw [List.length_map, cntsTo_len]
        rcases n1 with e | e
        · rw [decide_eq_false (by omega)]
          exact iteF ⟨at2, by rw [show n + 1 = m by omega]; exact ac, sm, rfl⟩
        · rw [decide_eq_true (by omega)]
          refine iteT ⟨_, rfl, .inl ⟨rfl, _, SqL.of ac⟩, c, _, _, rfl, rfl, ac, ?_, ?_⟩
          · rw [List.length_map, cntsTo_len]
            exact Nat.lt_of_le_of_lt (by omega : m ≤ 20) (by decide)
          · refine ⟨by rw [upd_ne pc]; exact at2, ?_, same_mut sm nc, rfl⟩
            rw [upd_same]
            have e2 : n = m := by omega
            subst e2
            rw [← cntsTo_grow hm.le, List.map_append]
            rfl
      · rintro σ' H4 ⟨at4, ac4, sm4, rfl⟩
        refine ⟨_, rfl, _, rfl, c, _, _, _, rfl, rfl, SqL.of ac4, cntsTo_at n _, _, _, rfl, rfl, c, _, _, n, rfl, rfl, ac4, cntsTo_ix n _, ?_⟩
        refine ⟨n + 1, _, ?_, by rw [upd_ne pc]; exact at4, ?_, same_mut sm4 nc, rfl⟩
        · rw [take_snoc hw, ← en]
          exact n3
        · rw [upd_same, take_snoc hw, cntsTo_set en]
    · obtain ⟨m, y2, hm, at2, ac, sm, rfl⟩ := hW
      rw [List.take_of_length_le (by rw [List.length_map]; exact Nat.le_refl _)] at hm ac
      refine ⟨_, rfl, q c _ l m sm nc ac hS hm ?_⟩
      rcases hm.has with e | ⟨z, hz2, e⟩
      · omega
      · have := txt z hz2
        omega
end

end SH
set_option Elab.async false
set_option linter.all false
set_option maxRecDepth 100000
set_option maxHeartbeats 4000000
namespace SH
open PySem PySem.Spec PyProof.Rows L2
section
variable {P : Program} {w : World} {K : PySem.W.Frag} {mg : Str → Option Value} {base : Heap} {ea : Ea}
def spLaw (K : PySem.W.Frag) : Sp := fun vs H Q _ => ∃ (a : Addr) (ns : List Int), vs = [.ref a] ∧ SqL K H a (ns.map V.int) ∧ ns.length ≤ 63 ∧ ∀ H', Q (.bl true) H'
theorem wkeys (W : WT) : ((wkvs W).map fun kv => kV kv.1) = (W.map (·.1)).map V.str := by
  unfold wkvs
  rw [List.map_map, List.map_map]
  rfl
theorem sc_law : FnScope ["script", "draws", "house", "kept", "found", "most", "due", "told", "number", "order", "word", "k"] ["script"] (defScope s_law) := ⟨rfl, rfl, rfl, by decide +kernel, rfl, by decide +kernel, by decide +kernel⟩
theorem ok_law (T : Txt K mg ea) {f : Addr} {fd : FuncData} (F0 : Fun K "law" "law" s_law f fd) (c__law_draws : Cl P w K mg base 1 "_law_draws" (spDraws K)) (c__law_house : Cl P w K mg base 3 "_law_house" (spHouse K)) (c__law_words : Cl P w K mg base 1 "_law_words" (spWords K))
    (c_stretch_counts : Cl P w K mg base 2 "stretch_counts" (spCnts K)) (c_stretches : Cl P w K mg base 1 "stretches" (spStrs K)) (c_order_of : Cl P w K mg base 1 "order_of" (spOrder K)) (c_commons_of : Cl P w K mg base 2 "commons_of" (spCommons K))
    (c_stretch_count : Cl P w K mg base 1 "stretch_count" (spStrCount K)) (c__law_is_integer : Cl P w K mg base 1 "_law_is_integer" spIsInt) :
    FnOk P w K mg base CX0 8 f fd ["script"] (spLaw K) := by
  have nd := sc_law.nd
  refine F0.ok sc_law (fun vs H Q E h => ?_) (fun cdv A outer s H vs Q E hr h => ?_)
  · obtain ⟨a, ns, rfl, _⟩ := h
    rfl
  · obtain ⟨a, ns, rfl, hS, hl, q⟩ := h
    refine ⟨_, (pss_cons (ps_set (i := 1) nd rfl (.inl rfl) (C8.pe_c c__law_draws hr (by decide) (by rfl) (pa_cons (pv 0) pa_nil)))
      (pss_cons (ps_set (i := 2) nd rfl (.inl rfl) (C8.pe_c c__law_house hr (by decide) (by rfl) (pa_cons (pv 1) (pa_cons pe_int pa_nil))))
      (pss_cons (ps_set (i := 3) nd rfl (.inl rfl) (pe_callTy call_list_of (by rfl) T.b_list (by decide +kernel) (pa_cons (pv 2) pa_nil)))
      (pss_cons (ps_set (i := 4) nd rfl (.inr rfl) (C8.pe_c c__law_words hr (by decide) (by rfl) (pa_cons (pv 2) pa_nil)))
      (pss_cons (ps_set (i := 5) nd rfl (.inl rfl) (pe_callB (cr_max rfl) (by rfl) T.b_max (by decide +kernel) (pa_cons (pe_op op_cat (pe_lc (own := [("word", 10)]) (g := (gName 10)) rfl nd (pi_listK (K := K) (pe_callTy (call_list_dK rfl) (by rfl) T.b_list (by decide +kernel) (pa_cons (pv 4) pa_nil))) (blkOk_by (own := [("word", 10)]) (N := ["script", "draws", "house", "kept", "found", "most", "due", "told", "number", "order", "word", "k"]) (sc := defScope s_law) (by decide +kernel)) (fun _ _ _ _ _ => (pg_name (i := 10) nd rfl (.inl rfl))) (fun _ _ _ _ _ => pts_nil) (fun _ _ _ _ _ => (pe_callB call_len_str (by rfl) T.b_len PySem.boot_len (pa_cons (pv 10) pa_nil)))) (pe_lst (pa_cons pe_int pa_nil))) pa_nil)))
      (pss_cons (ps_setLc (i := 6) (own := [("k", 11)]) (g := (gName 11)) rfl nd rfl rfl (sw_true rfl rfl rfl (by decide +kernel)) (pi_range1 rfl T.b_range (pa_cons (pv 5) pa_nil)) (blkOk_by (own := [("k", 11)]) (N := ["script", "draws", "house", "kept", "found", "most", "due", "told", "number", "order", "word", "k"]) (sc := defScope s_law) (by decide +kernel)) (fun _ _ _ _ _ => (pg_name (i := 11) nd rfl (.inr rfl))) (fun _ _ _ _ _ => pts_nil) (fun _ _ _ _ _ => (pe_callB (call_len_seqK (K := K)) (by rfl) T.b_len PySem.boot_len (pa_cons (pe_lc (own := [("word", 10)]) (g := (gName 10)) rfl nd (pi_listK (K := K) (pe_callTy (call_list_dK rfl) (by rfl) T.b_list (by decide +kernel) (pa_cons (pv 4) pa_nil))) (blkOk_by (own := [("word", 10)]) (N := ["script", "draws", "house", "kept", "found", "most", "due", "told", "number", "order", "word", "k"]) (sc := _) (by rfl)) (fun _ _ _ _ _ => (pg_name (i := 10) nd rfl (.inl rfl))) (fun _ _ _ _ _ => pts_one (pt_cmpR op_eq (pe_callB call_len_str (by rfl) T.b_len PySem.boot_len (pa_cons (pv 10) pa_nil)) (pe_op op_add (pv 11) pe_int) (nomark _))) (fun _ _ _ _ _ => (pv 10))) pa_nil))))
      (pss_cons (ps_set (i := 7) nd rfl (.inl rfl) (C8.pe_c c_stretch_counts hr (by decide) (by rfl) (pa_cons (pv 2) pa_nil)))
      (pss_cons (ps_if (PW.pt (pw_or (pt_not (pt_val (pe_callB call_isi (by rfl) T.b_isinstance (by decide +kernel) (pa_cons (pv 7) (pa_cons (pe_bltn (v := .ty "list") (by rfl) T.b_list (by decide +kernel) rfl) pa_nil))))) (pw_or (pt_cmpR (op_neDK (K := K) hr.units) (pv 7) (pv 6) (nomark _)) (pw_or1 (pt_cmpR (op_neDK (K := K) hr.units) (pv 2) (pv 3) (nomark _))))))
        (pss_one (ps_ret pe_bl))
        pss_nil)
      (pss_cons (ps_for PassesOwn.never rfl (pi_listK (K := K) (pv 7)) (pg_name (i := 8) nd rfl (.inl rfl))
        (pss_one (ps_if (pt_not (pt_val (C8.pe_c c__law_is_integer hr (by decide) (by rfl) (pa_cons (pv 8) pa_nil))))
            (pss_one (ps_ret pe_bl))
            pss_nil)))
      (pss_cons (ps_expr (pe_bm PySem.F.plainAttrs_list PySem.F.slot_list_append PySem.F.type_list_append mt_append (pv 7) (pa_cons pe_int pa_nil)))
      (pss_cons (ps_if (PW.pt (pw_or (pt_cmpR (op_neDK (K := K) hr.units) (C8.pe_c c_stretch_counts hr (by decide) (by rfl) (pa_cons (pv 2) pa_nil)) (pv 6) (nomark _)) (pw_or1 (pt_cmpR op_ne (pe_callB call_len_seq (by rfl) T.b_len PySem.boot_len (pa_cons (C8.pe_c c_stretches hr (by decide) (by rfl) (pa_cons (pv 2) pa_nil)) pa_nil)) (pe_callB (cr_sum rfl) (by rfl) T.b_sum (by decide +kernel) (pa_cons (pv 6) pa_nil)) (nomark _)))))
        (pss_one (ps_ret pe_bl))
        pss_nil)
      (pss_cons (ps_set (i := 9) nd rfl (.inl rfl) (C8.pe_c c_order_of hr (by decide) (by rfl) (pa_cons (pv 2) pa_nil)))
      (pss_one (ps_ret (pe_and (pe_cmpR op_eq (C8.pe_c c_stretch_count hr (by decide) (by rfl) (pa_cons (pv 2) (pa_cons (pv 9) (pa_cons (C8.pe_c c_commons_of hr (by decide) (by rfl) (pa_cons (pv 2) (pa_cons (pv 9) pa_nil))) pa_nil)))) (pe_callB (cr_sum rfl) (by rfl) T.b_sum (by decide +kernel) (pa_cons (pv 6) pa_nil)) (nomark _)) (pe_one (pe_cmpR (op_eqDK (K := K) hr.units) (pv 2) (pv 3) (nomark _)))))))))))))))))), ?_⟩
    refine ⟨_, rfl, a, ns, rfl, hS, hl, fun dr ds H1 s1 nd1 at1 hD => ?_⟩
    refine ⟨_, rfl, dr, ds, 0, rfl, SqL.of at1, hD, by omega, by omega, fun hp L H2 s2 nh at2 hpr hlen hh => ?_⟩
    have lets := hh.letAll
    have tx : ∀ q ∈ L, q.2.2.length ≤ 14 := fun q hq => (hh.txt q.2 (List.mem_map_of_mem hq)).2
    have asc := hh.asc
    have hA2 : HsAt K H2 hp L := ⟨SqL.of at2, hpr⟩
    refine ⟨_, rfl, hp, _, rfl, .inl hA2.1, fun kp nkp => ?_⟩
    have s3 := same_new (o := .lst (refs L)) nkp
    have hK3 : HsAt K (upd H2 kp (.lst (refs L))) kp L := ⟨SqL.of upd_same, (hA2.same s3).2⟩
    generalize upd H2 kp (.lst (refs L)) = H3 at s3 hK3 ⊢
    have hA3 := hA2.same s3
    refine ⟨_, rfl, hp, L, rfl, hA3, by omega, fun q hq => Nat.le_trans (tx q hq) (by decide), fun D W H4 hW hO => ?_⟩
    have hA4 := hA3.same hW.sm
    have hK4 := hK3.same hW.sm
    have wl : W.length ≤ 12800 := by
      have h1 := WdOf.len hW hO
      have h2 := occ_len (L.map (·.2)) fun q hq => by
        obtain ⟨y, hy, rfl⟩ := List.mem_map.mp hq
        exact Nat.le_trans (tx y hy) (by decide)
      rw [List.length_map] at h2
      omega
    have wm := hO.mem
    have wnd := hW.kd
    have wat := hW.at_
    have kz : ∀ z ∈ W.map (·.1), z.length ≤ 14 := fun z hz => occ_text (m := 14) (fun q hq => by obtain ⟨y, hy, rfl⟩ := List.mem_map.mp hq; exact tx y hy) ((wm z).mp hz)
    have kpos : ∀ z ∈ W.map (·.1), 0 < z.length := fun z hz => occ_pos ((wm z).mp hz)
    -- the longest
    refine ⟨_, rfl, D, _, rfl, wat, fun lk nlk => ?_⟩
    rw [wkeys]
    generalize eKS : W.map (·.1) = KS at wm wnd kz kpos
    have klen : KS.length ≤ 12800 := by rw [← eKS, List.length_map]; exact wl
    have s5 := same_new (o := .lst (KS.map V.str)) nlk
    refine ⟨lk, rfl, ⟨_, SqL.of upd_same⟩, fun D3 nD3 => ?_⟩
    have atk : (upd H4 lk (.lst (KS.map V.str))) lk = some (.lst (KS.map V.str)) := upd_same
    generalize upd H4 lk (.lst (KS.map V.str)) = H5 at s5 atk nD3 ⊢
    have get : ∀ {i : Nat} {x : V}, (KS.map V.str)[i]? = some x → ∃ z, KS[i]? = some z ∧ z ∈ KS ∧ x = .str z := fun {i x} hx => by
      rw [List.getElem?_map] at hx
      cases e : KS[i]? with
      | none => rw [e] at hx; cases hx
      | some z => rw [e] at hx; exact ⟨z, rfl, List.mem_of_getElem? e, (Option.some.inj hx).symm⟩
    refine lc_w (walk_list (xs := KS.map V.str)) nD3 (by rw [List.length_map]; omega) (fun H' e => SqL.of (e _ _ atk)) (fun i acc _ => acc = ((KS.take i).map fun z => (z.length : Int)).map V.int) (fun _ _ => rfl) (fun _ _ _ _ _ _ _ r => r) (fun i H x H' y => by rw [y.1]; exact Same.refl _) (fun i x acc Ha Hb Qn Qf hi sm y r at_ kn kf => ?_) (fun acc H6 s6 at6 _ r => ?_)
    · obtain ⟨rfl, hx⟩ := y
      obtain ⟨z, hz, zm, rfl⟩ := get hx
      refine ⟨rfl, _, rfl, z, rfl, Nat.le_trans (kz z zm) (by decide), kn _ _ (Same.refl _) ?_⟩
      rw [r, take_snoc hz, List.map_append, List.map_append]
      rfl
    rw [List.take_of_length_le (by rw [List.length_map]; exact Nat.le_refl _)] at r
    subst r
    refine ⟨by decide, fun l0 nl0 => ?_⟩
    have s7 := same_new (o := .lst [.int 0]) nl0
    refine ⟨D3, l0, _, _, rfl, rfl, s7 _ _ at6, upd_same, ?_, fun p7 np7 => ?_⟩
    · rw [List.length_map, List.length_map]
      exact Nat.le_trans (by show KS.length + 1 ≤ 20000; omega) (by decide)
    have s8 := same_new (o := .lst ((KS.map fun z => (z.length : Int)).map V.int ++ [.int 0])) np7
    refine ⟨p7, (KS.map fun z => (z.length : Int)) ++ [0], rfl, SqL.of (by rw [upd_same, List.map_append]; rfl), by simp, fun m hm hmax => ?_⟩
    have s48 : Same H4 (upd (upd H6 l0 (.lst [.int 0])) p7 (.lst ((KS.map fun z => (z.length : Int)).map V.int ++ [.int 0]))) := s5.trans (s6.trans (s7.trans s8))
    generalize upd (upd H6 l0 (.lst [.int 0])) p7 (.lst ((KS.map fun z => (z.length : Int)).map V.int ++ [.int 0])) = H8 at s48 ⊢
    obtain ⟨mx, rfl, mL⟩ : ∃ mx : Nat, m = (mx : Int) ∧ MaxL mx KS := by
      rcases List.mem_append.mp hm with h | h
      · obtain ⟨z, hz, rfl⟩ := List.mem_map.mp h
        refine ⟨z.length, rfl, fun y hy => ?_, .inr ⟨z, hz, rfl⟩⟩
        have := hmax _ (List.mem_append_left _ (List.mem_map_of_mem (f := fun z : Str => (z.length : Int)) hy))
        omega
      · refine ⟨0, List.mem_singleton.mp h, fun y hy => ?_, .inl rfl⟩
        have := hmax _ (List.mem_append_left _ (List.mem_map_of_mem (f := fun z : Str => (z.length : Int)) hy))
        have := List.mem_singleton.mp h
        omega
    have mx14 : mx ≤ 14 := by
      rcases mL.has with e | ⟨z, hz, e⟩
      · omega
      · have := kz z hz
        omega
    -- what is due
    refine ⟨_, rfl, _, rfl, by omega, by omega, fun D4 nD4 => ?_⟩
    have wat8 := s48 _ _ wat
    refine lc_w (walk_range (lo := 0) (n := (mx : Int).toNat)) nD4 (by omega) (fun _ _ => trivial) (fun i acc _ => acc = (cntsTo i KS).map V.int) (fun _ _ => rfl) (fun _ _ _ _ _ _ _ r => r) (fun i H x H1 y => by rw [y.1]; exact Same.refl _) (fun i x acc Ha Hb Qn Qf hi sm y r at_ kn kf => ?_) (fun acc H9 s9 at9 _ r => ?_)
    · obtain ⟨rfl, rfl⟩ := y
      have ez : (0 : Int) + (i : Int) = (i : Int) := Int.zero_add _
      simp only [ez]
      refine ⟨rfl, _, rfl, D, _, rfl, sm _ _ wat8, fun lk2 nlk2 => ?_⟩
      rw [wkeys, eKS]
      have t1 := same_new (o := .lst (KS.map V.str)) nlk2
      refine ⟨lk2, rfl, ⟨_, SqL.of upd_same⟩, fun D5 nD5 => ?_⟩
      refine lc_w (walk_list (xs := KS.map V.str)) nD5 (by rw [List.length_map]; omega) (fun H' e => SqL.of (e _ _ upd_same)) (fun j acc _ => acc = ((KS.take j).filter fun z => decide (z.length = i + 1)).map V.str) (fun _ _ => rfl) (fun _ _ _ _ _ _ _ r => r) (fun i H x H' y => by rw [y.1]; exact Same.refl _) (fun j x acc Hc Hd Qn2 Qf2 hj sm2 y r2 at_2 kn2 kf2 => ?_) (fun acc H6 s6 at6 _ r2 => ?_)
      · obtain ⟨rfl, hx⟩ := y
        obtain ⟨z, hz, zm, rfl⟩ := get hx
        refine ⟨rfl, _, rfl, z, rfl, Nat.le_trans (kz z zm) (by decide), _, rfl, _, _, rfl, rfl, rfl, _, rfl, ?_⟩
        by_cases c : z.length = i + 1
        · have e1 : V.int (z.length : Int) = V.int ((i : Int) + 1) := by rw [c]; rfl
          rw [decide_eq_true e1]
          refine iteT ⟨_, rfl, kn2 _ _ (Same.refl _) ?_⟩
          rw [r2, take_snoc hz, List.filter_append, List.filter_cons_of_pos (p := fun z : Str => decide (z.length = i + 1)) (decide_eq_true c), List.filter_nil, List.map_append]
          rfl
        · have e1 : ¬ V.int (z.length : Int) = V.int ((i : Int) + 1) := fun e => c (by have := V.int.inj e; omega)
          rw [decide_eq_false e1]
          refine iteF (kf2 _ (Same.refl _) ?_)
          rw [r2, take_snoc hz, List.filter_append, List.filter_cons_of_neg (p := fun z : Str => decide (z.length = i + 1)) (by rw [decide_eq_false c]; decide), List.filter_nil, List.append_nil]
      · rw [List.take_of_length_le (by rw [List.length_map]; exact Nat.le_refl _)] at r2
        subst r2
        refine ⟨D5, _, rfl, .inl (SqL.of at6), kn _ _ (t1.trans s6) ?_⟩
        rw [r, List.length_map]
        unfold cntsTo
        rw [List.range_succ, List.map_append, List.map_append]
        rfl
    rw [Int.toNat_natCast] at r
    subst r
    have okh := okd_sh (okd_H lets)
    have oki := okd_sh (okd_I (cntsTo mx KS))
    have s49 := s48.trans s9
    have hA9 := hA4.same s49
    have hK9 := hK4.same s49
    have tx20 : ∀ q ∈ L, q.2.2.length ≤ 20 := fun q hq => Nat.le_trans (tx q hq) (by decide)
    have same_cnt : ∀ {l : List Str} {m : Nat}, StrL ((occ (L.map (·.2))).map (·.1)) l → MaxL m l → cntsTo m l = cntsTo mx KS := fun {l m} h1 h2 => by
      have e := h2.perm (fun z => (h1.mem z).trans (wm z).symm)
      rw [e.uniq mL]
      exact cntsTo_perm ((List.perm_ext_iff_of_nodup h1.nd wnd).mpr fun z => (h1.mem z).trans (wm z).symm)
    have tot : (cntsTo mx KS).sum = (KS.length : Int) := cnts_sum fun z hz => ⟨kpos z hz, mL.le z hz⟩
    -- told
    refine ⟨_, rfl, hp, L, rfl, hA9, by omega, tx20, fun ct H10 l1 m1 s10 nct at10 st1 ml1 _ => ?_⟩
    rw [same_cnt st1 ml1] at at10
    have at9' := s10 _ _ at9
    refine ⟨_, rfl, _, _, _, _, true, rfl, .ty "list", .base (.lst at10), kit_ty (by decide +kernel), _, rfl, iteF ?_⟩
    refine ⟨_, rfl, _, rfl, _, _, dp_i (SqL.of at10), dp_i (SqL.of at9'), oki.1, oki.1, ?_⟩
    rw [oki.2]
    refine ⟨_, rfl, iteF ?_⟩
    have hA10 := hA9.same s10
    have hK10 := hK9.same s10
    refine ⟨_, rfl, _, rfl, _, _, dp_house hA10, dp_house hK10, okh.1, okh.1, ?_⟩
    rw [okh.2]
    refine ⟨_, rfl, iteF ?_⟩
    refine ⟨_, rfl, ct, rfl, ⟨_, SqL.of at10⟩, ?_⟩
    refine for_it (walk_list (K := K) (a := ct) (xs := (cntsTo mx KS).map V.int)) (fun i σ H' => Same H10 H' ∧ ∃ y8 : Option V, σ = [some (.ref a), some (.ref dr), some (.ref hp), some (.ref kp), some (.ref D), some (.int (mx : Int)), some (.ref D4), some (.ref ct), y8, none, none, none])
      ⟨Same.refl _, none, rfl⟩ (fun i σ H' _ hW => SqL.of (hW.1 _ _ at10)) (fun i x σ H11 H12 hi hW y => ?_) (fun σ H11 hW => ?_)
    · obtain ⟨sm, y8, rfl⟩ := hW
      obtain ⟨rfl, hx⟩ := y
      rw [List.getElem?_map] at hx
      obtain ⟨n, rfl⟩ : ∃ n : Int, x = .int n := by
        cases e : (cntsTo mx KS)[i]? with
        | none => rw [e] at hx; cases hx
        | some n => rw [e] at hx; exact ⟨n, (Option.some.inj hx).symm⟩
      exact ⟨_, rfl, n, rfl, _, rfl, iteF ⟨sm, _, rfl⟩⟩
    · obtain ⟨sm, y8, rfl⟩ := hW
      have at11 := sm _ _ at10
      refine ⟨_, rfl, .inl ⟨rfl, _, SqL.of at11⟩, ct, _, _, rfl, rfl, at11, ?_, ?_⟩
      · rw [List.length_map, cntsTo_len]
        exact Nat.lt_of_le_of_lt (by omega : mx ≤ 20) (by decide)
      have s12 : Same H9 (upd H11 ct (.lst ((cntsTo mx KS).map V.int ++ [.int 1]))) := same_mut (s10.trans sm) nct
      generalize upd H11 ct (.lst ((cntsTo mx KS).map V.int ++ [.int 1])) = H12 at s12 ⊢
      have hA12 := hA9.same s12
      have hK12 := hK9.same s12
      refine ⟨_, rfl, hp, L, rfl, hA12, by omega, tx20, fun ct2 H13 l2 m2 s13 nct2 at13 st2 ml2 _ => ?_⟩
      rw [same_cnt st2 ml2] at at13
      have d13 := s13 _ _ (s12 _ _ at9)
      refine ⟨_, rfl, _, _, dp_i (SqL.of at13), dp_i (SqL.of d13), oki.1, oki.1, ?_⟩
      rw [oki.2]
      refine ⟨_, rfl, iteF ?_⟩
      have hA13 := hA12.same s13
      refine ⟨_, rfl, hp, L, rfl, hA13, by omega, tx20, fun sp H14 l3 s14 nsp at14 st3 => ?_⟩
      have d14 := s14 _ _ d13
      have ll3 : l3.length = KS.length := ((List.perm_ext_iff_of_nodup st3.nd wnd).mpr fun z => (st3.mem z).trans (wm z).symm).length_eq
      refine ⟨sp, _, rfl, .inl (SqL.of at14), _, rfl, D4, _, rfl, SqL.of d14, rfl, _, rfl, ?_⟩
      rw [tot, List.length_map, ll3, decide_eq_true rfl]
      refine iteF ?_
      have hA14 := hA13.same s14
      have hK14 := hK12.same (s13.trans s14)
      refine ⟨_, rfl, hp, L, rfl, hA14, by omega, fun q hq => Nat.le_trans (tx q hq) (by decide), fun lo R H15 s15 nlo at15 q15 r15 => ?_⟩
      have hA15 := hA14.same s15
      have oin : ∀ e ∈ ordE (L.map (·.2)), e ∈ ends3 (L.map (·.2)) := fun e he => mem_ordE.mp he
      have cnt := strN_eq (L.map (·.2))
      have kn := strN_occ wnd wm
      have el : (ordE (L.map (·.2))).length ≤ 50500 := by
        refine Nat.le_trans (ordE_len (m := 100) fun q hq => ?_) (by rw [List.length_map]; omega)
        obtain ⟨z, hz2, rfl⟩ := List.mem_map.mp hq
        exact Nat.le_trans (tx z hz2) (by decide)
      have rlen : R.length = (ordE (L.map (·.2))).length := by
        have e := congrArg List.length r15
        rwa [List.length_map, List.length_map] at e
      have tx1000 : ∀ q ∈ L, q.2.2.length ≤ 1000 := fun q hq => Nat.le_trans (tx q hq) (by decide)
      refine ⟨_, rfl, _, rfl, _, rfl, _, rfl, hp, lo, L, R, ordE (L.map (·.2)), rfl, hA15, asc, tx1000, SqL.of at15, q15, r15, oin, by omega, fun lc H16 s16 nlc at16 => ?_⟩
      refine ⟨hp, lo, lc, L, R, ordE (L.map (·.2)), cmsE (ordE (L.map (·.2))), rfl, hA15.same s16, asc, tx1000, SqL.of (s16 _ _ at15), q15.same s16, r15, oin, by omega, SqL.of at16, fun H17 s17 => ?_⟩
      have sZ := s15.trans (s16.trans s17)
      refine ⟨_, rfl, D4, _, rfl, SqL.of (sZ _ _ d14), rfl, _, rfl, ?_⟩
      rw [← cnt, ← kn, tot, decide_eq_true rfl]
      refine ⟨_, rfl, _, rfl, _, _, dp_house (hA14.same sZ), dp_house (hK14.same sZ), okh.1, okh.1, ?_⟩
      rw [okh.2]
      exact q _
end

end SH
set_option Elab.async false
set_option linter.all false
set_option maxRecDepth 100000
set_option maxHeartbeats 4000000
namespace SH
open PySem PySem.Spec PyProof.Rows L2
theorem law_all {P : Program} {w : World} {K : PySem.W.Frag} {mg : Str → Option Value} {base : Heap} {ea : Ea} {f : Addr} {fd : FuncData} (T : Txt K mg ea) (F : Fun K "law" "law" s_law f fd) : FnOk P w K mg base CX0 8 f fd ["script"] (spLaw K) :=
  have at_ := ok__law_at (P := P) (w := w) (base := base) T
  have st := ok_stretches (P := P) (w := w) (base := base) T
  ok_law T F (ok__law_draws T) (ok__law_house T at_ (ok__law_text T at_)) (ok__law_words T) (ok_stretch_counts T st) st (ok_order_of T) (ok_commons_of T (ok__common_size T)) (ok_stretch_count T) (ok__law_is_integer T)
theorem all_mk {P : Program} {w : World} {K : PySem.W.Frag} {h : Heap} {mg : Str → Option Value} {fa : Addr} (X : K.In h) (G : h.Ns mainGlobals mg) (hfa : mg "law" = some (.ref fa))
    {f_stretches f_stretch_counts f_stretch_count f_order_of f_commons_of f__common_size f__law_draws f__law_at f__law_is_integer f__law_text f__law_house f__law_words f_law : Addr}
    {od_stretches an_stretches od_stretch_counts an_stretch_counts od_stretch_count an_stretch_count od_order_of an_order_of od_commons_of an_commons_of od__common_size an__common_size od__law_draws an__law_draws od__law_at an__law_at od__law_is_integer an__law_is_integer od__law_text an__law_text od__law_house an__law_house od__law_words an__law_words od_law an_law : Option Addr}
    {sl_stretches sl_stretch_counts sl_stretch_count sl_order_of sl_commons_of sl__common_size sl__law_draws sl__law_at sl__law_is_integer sl__law_text sl__law_house sl__law_words sl_law : Array (Option Value)}
    {oc_stretches kV_stretches dc_stretches pm_stretches cd_stretches ct_stretches oc_stretch_counts kV_stretch_counts dc_stretch_counts pm_stretch_counts cd_stretch_counts ct_stretch_counts oc_stretch_count kV_stretch_count dc_stretch_count pm_stretch_count cd_stretch_count ct_stretch_count oc_order_of kV_order_of dc_order_of pm_order_of cd_order_of ct_order_of oc_commons_of kV_commons_of dc_commons_of pm_commons_of cd_commons_of ct_commons_of oc__common_size kV__common_size dc__common_size pm__common_size cd__common_size ct__common_size oc__law_draws kV__law_draws dc__law_draws pm__law_draws cd__law_draws ct__law_draws oc__law_at kV__law_at dc__law_at pm__law_at cd__law_at ct__law_at oc__law_is_integer kV__law_is_integer dc__law_is_integer pm__law_is_integer cd__law_is_integer ct__law_is_integer oc__law_text kV__law_text dc__law_text pm__law_text cd__law_text ct__law_text oc__law_house kV__law_house dc__law_house pm__law_house cd__law_house ct__law_house oc__law_words kV__law_words dc__law_words pm__law_words cd__law_words ct__law_words oc_law kV_law dc_law pm_law cd_law ct_law : Value}
    (z_abs : PySem.W.nsIn K mainGlobals "abs" = some none)
    (z_bool : PySem.W.nsIn K mainGlobals "bool" = some none)
    (z_dict : PySem.W.nsIn K mainGlobals "dict" = some none)
    (z_int : PySem.W.nsIn K mainGlobals "int" = some none)
    (z_isinstance : PySem.W.nsIn K mainGlobals "isinstance" = some none)
    (z_len : PySem.W.nsIn K mainGlobals "len" = some none)
    (z_list : PySem.W.nsIn K mainGlobals "list" = some none)
    (z_max : PySem.W.nsIn K mainGlobals "max" = some none)
    (z_min : PySem.W.nsIn K mainGlobals "min" = some none)
    (z_range : PySem.W.nsIn K mainGlobals "range" = some none)
    (z_sorted : PySem.W.nsIn K mainGlobals "sorted" = some none)
    (z_sum : PySem.W.nsIn K mainGlobals "sum" = some none)
    (z_zip : PySem.W.nsIn K mainGlobals "zip" = some none)
    (a_stretches : PySem.W.nsIn K mainGlobals "stretches" = some (some (.ref f_stretches)))
    (l_stretches : K.lookup f_stretches = some ⟨oc_stretches, od_stretches, .func (PySem.W.fnOf "stretches" "stretches" (defArgs s_stretches) (defBody s_stretches) (defScope s_stretches) .none kV_stretches dc_stretches pm_stretches an_stretches cd_stretches ct_stretches), sl_stretches⟩)
    (c_stretches : PySem.W.codeIn K cd_stretches "stretches" = true)
    (k_stretches : PySem.W.keepIn K (.ref f_stretches) = true)
    (a_stretch_counts : PySem.W.nsIn K mainGlobals "stretch_counts" = some (some (.ref f_stretch_counts)))
    (l_stretch_counts : K.lookup f_stretch_counts = some ⟨oc_stretch_counts, od_stretch_counts, .func (PySem.W.fnOf "stretch_counts" "stretch_counts" (defArgs s_stretch_counts) (defBody s_stretch_counts) (defScope s_stretch_counts) .none kV_stretch_counts dc_stretch_counts pm_stretch_counts an_stretch_counts cd_stretch_counts ct_stretch_counts), sl_stretch_counts⟩)
    (c_stretch_counts : PySem.W.codeIn K cd_stretch_counts "stretch_counts" = true)
    (k_stretch_counts : PySem.W.keepIn K (.ref f_stretch_counts) = true)
    (a_stretch_count : PySem.W.nsIn K mainGlobals "stretch_count" = some (some (.ref f_stretch_count)))
    (l_stretch_count : K.lookup f_stretch_count = some ⟨oc_stretch_count, od_stretch_count, .func (PySem.W.fnOf "stretch_count" "stretch_count" (defArgs s_stretch_count) (defBody s_stretch_count) (defScope s_stretch_count) .none kV_stretch_count dc_stretch_count pm_stretch_count an_stretch_count cd_stretch_count ct_stretch_count), sl_stretch_count⟩)
    (c_stretch_count : PySem.W.codeIn K cd_stretch_count "stretch_count" = true)
    (k_stretch_count : PySem.W.keepIn K (.ref f_stretch_count) = true)
    (a_order_of : PySem.W.nsIn K mainGlobals "order_of" = some (some (.ref f_order_of)))
    (l_order_of : K.lookup f_order_of = some ⟨oc_order_of, od_order_of, .func (PySem.W.fnOf "order_of" "order_of" (defArgs s_order_of) (defBody s_order_of) (defScope s_order_of) .none kV_order_of dc_order_of pm_order_of an_order_of cd_order_of ct_order_of), sl_order_of⟩)
    (c_order_of : PySem.W.codeIn K cd_order_of "order_of" = true)
    (k_order_of : PySem.W.keepIn K (.ref f_order_of) = true)
    (a_commons_of : PySem.W.nsIn K mainGlobals "commons_of" = some (some (.ref f_commons_of)))
    (l_commons_of : K.lookup f_commons_of = some ⟨oc_commons_of, od_commons_of, .func (PySem.W.fnOf "commons_of" "commons_of" (defArgs s_commons_of) (defBody s_commons_of) (defScope s_commons_of) .none kV_commons_of dc_commons_of pm_commons_of an_commons_of cd_commons_of ct_commons_of), sl_commons_of⟩)
    (c_commons_of : PySem.W.codeIn K cd_commons_of "commons_of" = true)
    (k_commons_of : PySem.W.keepIn K (.ref f_commons_of) = true)
    (a__common_size : PySem.W.nsIn K mainGlobals "_common_size" = some (some (.ref f__common_size)))
    (l__common_size : K.lookup f__common_size = some ⟨oc__common_size, od__common_size, .func (PySem.W.fnOf "_common_size" "_common_size" (defArgs s__common_size) (defBody s__common_size) (defScope s__common_size) .none kV__common_size dc__common_size pm__common_size an__common_size cd__common_size ct__common_size), sl__common_size⟩)
    (c__common_size : PySem.W.codeIn K cd__common_size "_common_size" = true)
    (k__common_size : PySem.W.keepIn K (.ref f__common_size) = true)
    (a__law_draws : PySem.W.nsIn K mainGlobals "_law_draws" = some (some (.ref f__law_draws)))
    (l__law_draws : K.lookup f__law_draws = some ⟨oc__law_draws, od__law_draws, .func (PySem.W.fnOf "_law_draws" "_law_draws" (defArgs s__law_draws) (defBody s__law_draws) (defScope s__law_draws) .none kV__law_draws dc__law_draws pm__law_draws an__law_draws cd__law_draws ct__law_draws), sl__law_draws⟩)
    (c__law_draws : PySem.W.codeIn K cd__law_draws "_law_draws" = true)
    (k__law_draws : PySem.W.keepIn K (.ref f__law_draws) = true)
    (a__law_at : PySem.W.nsIn K mainGlobals "_law_at" = some (some (.ref f__law_at)))
    (l__law_at : K.lookup f__law_at = some ⟨oc__law_at, od__law_at, .func (PySem.W.fnOf "_law_at" "_law_at" (defArgs s__law_at) (defBody s__law_at) (defScope s__law_at) .none kV__law_at dc__law_at pm__law_at an__law_at cd__law_at ct__law_at), sl__law_at⟩)
    (c__law_at : PySem.W.codeIn K cd__law_at "_law_at" = true)
    (k__law_at : PySem.W.keepIn K (.ref f__law_at) = true)
    (a__law_is_integer : PySem.W.nsIn K mainGlobals "_law_is_integer" = some (some (.ref f__law_is_integer)))
    (l__law_is_integer : K.lookup f__law_is_integer = some ⟨oc__law_is_integer, od__law_is_integer, .func (PySem.W.fnOf "_law_is_integer" "_law_is_integer" (defArgs s__law_is_integer) (defBody s__law_is_integer) (defScope s__law_is_integer) .none kV__law_is_integer dc__law_is_integer pm__law_is_integer an__law_is_integer cd__law_is_integer ct__law_is_integer), sl__law_is_integer⟩)
    (c__law_is_integer : PySem.W.codeIn K cd__law_is_integer "_law_is_integer" = true)
    (k__law_is_integer : PySem.W.keepIn K (.ref f__law_is_integer) = true)
    (a__law_text : PySem.W.nsIn K mainGlobals "_law_text" = some (some (.ref f__law_text)))
    (l__law_text : K.lookup f__law_text = some ⟨oc__law_text, od__law_text, .func (PySem.W.fnOf "_law_text" "_law_text" (defArgs s__law_text) (defBody s__law_text) (defScope s__law_text) .none kV__law_text dc__law_text pm__law_text an__law_text cd__law_text ct__law_text), sl__law_text⟩)
    (c__law_text : PySem.W.codeIn K cd__law_text "_law_text" = true)
    (k__law_text : PySem.W.keepIn K (.ref f__law_text) = true)
    (a__law_house : PySem.W.nsIn K mainGlobals "_law_house" = some (some (.ref f__law_house)))
    (l__law_house : K.lookup f__law_house = some ⟨oc__law_house, od__law_house, .func (PySem.W.fnOf "_law_house" "_law_house" (defArgs s__law_house) (defBody s__law_house) (defScope s__law_house) .none kV__law_house dc__law_house pm__law_house an__law_house cd__law_house ct__law_house), sl__law_house⟩)
    (c__law_house : PySem.W.codeIn K cd__law_house "_law_house" = true)
    (k__law_house : PySem.W.keepIn K (.ref f__law_house) = true)
    (a__law_words : PySem.W.nsIn K mainGlobals "_law_words" = some (some (.ref f__law_words)))
    (l__law_words : K.lookup f__law_words = some ⟨oc__law_words, od__law_words, .func (PySem.W.fnOf "_law_words" "_law_words" (defArgs s__law_words) (defBody s__law_words) (defScope s__law_words) .none kV__law_words dc__law_words pm__law_words an__law_words cd__law_words ct__law_words), sl__law_words⟩)
    (c__law_words : PySem.W.codeIn K cd__law_words "_law_words" = true)
    (k__law_words : PySem.W.keepIn K (.ref f__law_words) = true)
    (a_law : PySem.W.nsIn K mainGlobals "law" = some (some (.ref f_law)))
    (l_law : K.lookup f_law = some ⟨oc_law, od_law, .func (PySem.W.fnOf "law" "law" (defArgs s_law) (defBody s_law) (defScope s_law) .none kV_law dc_law pm_law an_law cd_law ct_law), sl_law⟩)
    (c_law : PySem.W.codeIn K cd_law "law" = true)
    (k_law : PySem.W.keepIn K (.ref f_law) = true)
    : ∃ fd : FuncData, (∀ (s : Shared) (v : Value), BindsTo s fd ⟨[v], []⟩ [("script", v)]) ∧ ∀ base : Heap, K.In base → base.Ns mainGlobals mg → FnOk P w K mg base CX0 8 fa fd ["script"] (spLaw K) := by
  have e := hfa.symm.trans (PySem.W.mg_of X G a_law)
  cases e
  have T : Txt K mg ⟨fa⟩ := ⟨PySem.W.mg_none_of X G z_abs, PySem.W.mg_none_of X G z_bool, PySem.W.mg_none_of X G z_dict, PySem.W.mg_none_of X G z_int, PySem.W.mg_none_of X G z_isinstance, PySem.W.mg_none_of X G z_len, PySem.W.mg_none_of X G z_list, PySem.W.mg_none_of X G z_max, PySem.W.mg_none_of X G z_min, PySem.W.mg_none_of X G z_range, PySem.W.mg_none_of X G z_sorted, PySem.W.mg_none_of X G z_sum, PySem.W.mg_none_of X G z_zip, ⟨_, _, fun_mk (st := s_stretches) l_stretches c_stretches k_stretches, PySem.W.mg_of X G a_stretches, (fun_mk (st := s_stretches) l_stretches c_stretches k_stretches).binds (ps := ["house"]) fun _ _ _ _ _ _ us hl => match us, hl with | [_], _ => rfl⟩, ⟨_, _, fun_mk (st := s_stretch_counts) l_stretch_counts c_stretch_counts k_stretch_counts, PySem.W.mg_of X G a_stretch_counts, (fun_mk (st := s_stretch_counts) l_stretch_counts c_stretch_counts k_stretch_counts).binds (ps := ["house"]) fun _ _ _ _ _ _ us hl => match us, hl with | [_], _ => rfl⟩, ⟨_, _, fun_mk (st := s_stretch_count) l_stretch_count c_stretch_count k_stretch_count, PySem.W.mg_of X G a_stretch_count, (fun_mk (st := s_stretch_count) l_stretch_count c_stretch_count k_stretch_count).binds (ps := ["house", "order", "commons"]) fun _ _ _ _ _ _ us hl => match us, hl with | [_, _, _], _ => rfl⟩, ⟨_, _, fun_mk (st := s_order_of) l_order_of c_order_of k_order_of, PySem.W.mg_of X G a_order_of, (fun_mk (st := s_order_of) l_order_of c_order_of k_order_of).binds (ps := ["house"]) fun _ _ _ _ _ _ us hl => match us, hl with | [_], _ => rfl⟩, ⟨_, _, fun_mk (st := s_commons_of) l_commons_of c_commons_of k_commons_of, PySem.W.mg_of X G a_commons_of, (fun_mk (st := s_commons_of) l_commons_of c_commons_of k_commons_of).binds (ps := ["house", "order"]) fun _ _ _ _ _ _ us hl => match us, hl with | [_, _], _ => rfl⟩, ⟨_, _, fun_mk (st := s__common_size) l__common_size c__common_size k__common_size, PySem.W.mg_of X G a__common_size, (fun_mk (st := s__common_size) l__common_size c__common_size k__common_size).binds (ps := ["texts", "one", "two"]) fun _ _ _ _ _ _ us hl => match us, hl with | [_, _, _], _ => rfl⟩, ⟨_, _, fun_mk (st := s__law_draws) l__law_draws c__law_draws k__law_draws, PySem.W.mg_of X G a__law_draws, (fun_mk (st := s__law_draws) l__law_draws c__law_draws k__law_draws).binds (ps := ["script"]) fun _ _ _ _ _ _ us hl => match us, hl with | [_], _ => rfl⟩, ⟨_, _, fun_mk (st := s__law_at) l__law_at c__law_at k__law_at, PySem.W.mg_of X G a__law_at, (fun_mk (st := s__law_at) l__law_at c__law_at k__law_at).binds (ps := ["draws", "k", "many"]) fun _ _ _ _ _ _ us hl => match us, hl with | [_, _, _], _ => rfl⟩, ⟨_, _, fun_mk (st := s__law_is_integer) l__law_is_integer c__law_is_integer k__law_is_integer, PySem.W.mg_of X G a__law_is_integer, (fun_mk (st := s__law_is_integer) l__law_is_integer c__law_is_integer k__law_is_integer).binds (ps := ["actual"]) fun _ _ _ _ _ _ us hl => match us, hl with | [_], _ => rfl⟩, ⟨_, _, fun_mk (st := s__law_text) l__law_text c__law_text k__law_text, PySem.W.mg_of X G a__law_text, (fun_mk (st := s__law_text) l__law_text c__law_text k__law_text).binds (ps := ["draws", "first", "most"]) fun _ _ _ _ _ _ us hl => match us, hl with | [_, _, _], _ => rfl⟩, ⟨_, _, fun_mk (st := s__law_house) l__law_house c__law_house k__law_house, PySem.W.mg_of X G a__law_house, (fun_mk (st := s__law_house) l__law_house c__law_house k__law_house).binds (ps := ["draws", "first"]) fun _ _ _ _ _ _ us hl => match us, hl with | [_, _], _ => rfl⟩, ⟨_, _, fun_mk (st := s__law_words) l__law_words c__law_words k__law_words, PySem.W.mg_of X G a__law_words, (fun_mk (st := s__law_words) l__law_words c__law_words k__law_words).binds (ps := ["house"]) fun _ _ _ _ _ _ us hl => match us, hl with | [_], _ => rfl⟩, ⟨_, _, fun_mk (st := s_law) l_law c_law k_law, PySem.W.mg_of X G a_law, (fun_mk (st := s_law) l_law c_law k_law).binds (ps := ["script"]) fun _ _ _ _ _ _ us hl => match us, hl with | [_], _ => rfl⟩⟩
  exact ⟨PySem.W.fnOf "law" "law" (defArgs s_law) (defBody s_law) (defScope s_law) .none kV_law dc_law pm_law an_law cd_law ct_law, fun s v => .of_eq rfl, fun base _ _ => law_all T (fun_mk (st := s_law) l_law c_law k_law)⟩
end SH
open PySem PySem.W PyProof.Rows
set_option maxHeartbeats 0 in
theorem PySem.Challenge.cw_suffixhouse_k28_numbers_of_stretches_holds : PySem.Challenge.rw_suffixhouse_k28_numbers_of_stretches.Holds := by
  w_on; o_law; k_head; (case hw => w_witness2)
  k_fill
  refine L2.walk_of (l := PySem.Challenge.rw_suffixhouse_k28_numbers_of_stretches) (n := 63) (k := 8) (x := "script") (CX := fun _ => L2.CX0) (sp := fun w => SH.spLaw _) rfl (by decide) rfl ⟨rfl, by decide, by decide⟩ (fun w h Y => PySem.W.kIn_of Y) ?F (fun _ _ a ns hl _ hS => ⟨a, ns, rfl, hS, hl, fun _ => rfl⟩) (fun _ _ _ _ _ h => h)
  case F =>
    intro w mg fa h KX G hmg
    refine' SH.all_mk KX G hmg ?z_abs ?z_bool ?z_dict ?z_int ?z_isinstance ?z_len ?z_list ?z_max ?z_min ?z_range ?z_sorted ?z_sum ?z_zip ?a_stretches ?l_stretches ?c_stretches ?k_stretches ?a_stretch_counts ?l_stretch_counts ?c_stretch_counts ?k_stretch_counts ?a_stretch_count ?l_stretch_count ?c_stretch_count ?k_stretch_count ?a_order_of ?l_order_of ?c_order_of ?k_order_of ?a_commons_of ?l_commons_of ?c_commons_of ?k_commons_of ?a__common_size ?l__common_size ?c__common_size ?k__common_size ?a__law_draws ?l__law_draws ?c__law_draws ?k__law_draws ?a__law_at ?l__law_at ?c__law_at ?k__law_at ?a__law_is_integer ?l__law_is_integer ?c__law_is_integer ?k__law_is_integer ?a__law_text ?l__law_text ?c__law_text ?k__law_text ?a__law_house ?l__law_house ?c__law_house ?k__law_house ?a__law_words ?l__law_words ?c__law_words ?k__law_words ?a_law ?l_law ?c_law ?k_law
    (case z_abs => first | k_is | rfl)
    (case z_bool => first | k_is | rfl)
    (case z_dict => first | k_is | rfl)
    (case z_int => first | k_is | rfl)
    (case z_isinstance => first | k_is | rfl)
    (case z_len => first | k_is | rfl)
    (case z_list => first | k_is | rfl)
    (case z_max => first | k_is | rfl)
    (case z_min => first | k_is | rfl)
    (case z_range => first | k_is | rfl)
    (case z_sorted => first | k_is | rfl)
    (case z_sum => first | k_is | rfl)
    (case z_zip => first | k_is | rfl)
    (case a_stretches => first | k_is | rfl)
    (case l_stretches => first | k_is | rfl)
    (case c_stretches => first | k_is | rfl)
    (case k_stretches => first | k_is | rfl)
    (case a_stretch_counts => first | k_is | rfl)
    (case l_stretch_counts => first | k_is | rfl)
    (case c_stretch_counts => first | k_is | rfl)
    (case k_stretch_counts => first | k_is | rfl)
    (case a_stretch_count => first | k_is | rfl)
    (case l_stretch_count => first | k_is | rfl)
    (case c_stretch_count => first | k_is | rfl)
    (case k_stretch_count => first | k_is | rfl)
    (case a_order_of => first | k_is | rfl)
    (case l_order_of => first | k_is | rfl)
    (case c_order_of => first | k_is | rfl)
    (case k_order_of => first | k_is | rfl)
    (case a_commons_of => first | k_is | rfl)
    (case l_commons_of => first | k_is | rfl)
    (case c_commons_of => first | k_is | rfl)
    (case k_commons_of => first | k_is | rfl)
    (case a__common_size => first | k_is | rfl)
    (case l__common_size => first | k_is | rfl)
    (case c__common_size => first | k_is | rfl)
    (case k__common_size => first | k_is | rfl)
    (case a__law_draws => first | k_is | rfl)
    (case l__law_draws => first | k_is | rfl)
    (case c__law_draws => first | k_is | rfl)
    (case k__law_draws => first | k_is | rfl)
    (case a__law_at => first | k_is | rfl)
    (case l__law_at => first | k_is | rfl)
    (case c__law_at => first | k_is | rfl)
    (case k__law_at => first | k_is | rfl)
    (case a__law_is_integer => first | k_is | rfl)
    (case l__law_is_integer => first | k_is | rfl)
    (case c__law_is_integer => first | k_is | rfl)
    (case k__law_is_integer => first | k_is | rfl)
    (case a__law_text => first | k_is | rfl)
    (case l__law_text => first | k_is | rfl)
    (case c__law_text => first | k_is | rfl)
    (case k__law_text => first | k_is | rfl)
    (case a__law_house => first | k_is | rfl)
    (case l__law_house => first | k_is | rfl)
    (case c__law_house => first | k_is | rfl)
    (case k__law_house => first | k_is | rfl)
    (case a__law_words => first | k_is | rfl)
    (case l__law_words => first | k_is | rfl)
    (case c__law_words => first | k_is | rfl)
    (case k__law_words => first | k_is | rfl)
    (case a_law => first | k_is | rfl)
    (case l_law => first | k_is | rfl)
    (case c_law => first | k_is | rfl)
    (case k_law => first | k_is | rfl)
