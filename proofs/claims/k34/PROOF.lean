import PyProof.Rows.All
import Wide.All
import OpenK.AllK
import Wide.FinOn
import PyProof.EqAt
import PyProof.EqKinds
import PyProof.TupleCall
import HandS.ForMost
import HandS.Wide
import HandS.Codes
import HandS.TupLe
import HandS.Star
import HandS.StrMore
import HandS.FStr
import HandS.Evl
import HandS.Exc
import HandS.TryMany
import HandS.ExcInit
import HandS.ExcField
import HandS.WideBits
import HandS.WordsExc
import HandS.Walk
import HandS.SortRule
import KE.SortData
import HandS.Dict
import HandS.Style
import HandS.Conv
import HandS.Flt
import HandS.Ends
import PyProof.ReprRoads
import PyProof.ReprLen
import KE.DataCmp
import HandS.IsInst
import HandS.DictComp
import HandS.More
import PySem.Challenge.RW_suffixhouse_k34_checks_of_distances
set_option Elab.async false
set_option linter.all false
set_option maxRecDepth 100000
set_option maxHeartbeats 4000000
namespace SH
open PySem PySem.Spec PyProof.Rows L2
section
variable {P : Program} {w : World} {K : PySem.W.Frag} {mg : Str → Option Value} {base : Heap}
/-- a def of the top as it stands: its text, its name's value, how it binds -/
structure Dd (K : PySem.W.Frag) (mg : Str → Option Value) (x : Str) (st : Stmt) (ps : List Str) : Prop where
  ex : ∃ (f : Addr) (fd : FuncData), Fun K x x st f fd ∧ mg x = some (.ref f) ∧ Binds K fd ps []
/-- a def that lets nothing out, callable by its name -/
abbrev Cl (P : Program) (w : World) (K : PySem.W.Frag) (mg : Str → Option Value) (base : Heap) (k : Nat) (x : Str) (sp : Sp) : Prop := C8.Cal P w K mg base k x sp []
/-- a def that may raise -/
structure ClX (P : Program) (w : World) (K : PySem.W.Frag) (mg : Str → Option Value) (base : Heap) (k : Nat) (x : Str) (sp : Sp) : Prop where
  ex : ∃ (f : Addr) (fd : FuncData) (ps : List Str), FnOk P w K mg base (L2.CX P w) k f fd ps sp ∧ mg x = some (.ref f) ∧ PySem.W.keepIn K (.ref f) = true ∧ Binds K fd ps []
theorem cl_of {x : Str} {st : Stmt} {ps N : List Str} {k : Nat} {sp : Sp} (D : Dd K mg x st ps) (S : FnScope N ps (defScope st)) (len : ∀ vs H Q E, sp vs H Q E → vs.length = ps.length)
    (hbody : ∀ (f : Addr) (cdv : Value) (A : Around) (outer : List Env) (s : Shared) (H : Hp) (vs : List V) (Q : VK) (E : XK), Room k (A.deeper (envOfC x (defScope st) s.heap.objs.size f cdv)) → sp vs H Q E →
      ∃ t, PSs (cxOf CX0 P w K mg base N x (defScope st) f cdv A outer s H E).nox (defBody st) t ∧ t { nx := fun _ H' => Q .non H', rt := Q } (start N vs) H) : Cl P w K mg base (k + 1) x sp := by
  obtain ⟨f, fd, F, hm, b⟩ := D.ex
  exact ⟨f, fd, ps, [], F.ok S len (fun cdv A outer s H vs Q E hr h => hbody f cdv A outer s H vs Q E hr h), hm, F.kp, b, .nil⟩
theorem clx_of {x : Str} {st : Stmt} {ps N : List Str} {k : Nat} {sp : Sp} (D : Dd K mg x st ps) (S : FnScope N ps (defScope st)) (len : ∀ vs H Q E, sp vs H Q E → vs.length = ps.length)
    (hbody : ∀ (f : Addr) (cdv : Value) (A : Around) (outer : List Env) (s : Shared) (H : Hp) (vs : List V) (Q : VK) (E : XK), Room k (A.deeper (envOfC x (defScope st) s.heap.objs.size f cdv)) → sp vs H Q E →
      ∃ t, PSs (cxOf (L2.CX P w) P w K mg base N x (defScope st) f cdv A outer s H E) (defBody st) t ∧ t { nx := fun _ H' => Q .non H', rt := Q } (start N vs) H) : ClX P w K mg base (k + 1) x sp := by
  obtain ⟨f, fd, F, hm, b⟩ := D.ex
  exact ⟨f, fd, ps, F.okX S len (fun cdv A outer s H vs Q E hr h => hbody f cdv A outer s H vs Q E hr h), hm, F.kp, b⟩
end
section
variable {X : Cx} {k j : Nat} {x : Str} {sp : Sp} {p pos : Pos} {e : Expr} {es : List Expr} {t : TA}
/-- f(e, ..) of a def that may raise, in a try's body or where it passes on -/
theorem pe_cx (c : ClX X.prog X.w X.K X.mg X.base k x sp) {E : L2.St → XK} (hr : Room j X.A) (hk : k ≤ j) (hx : ∀ σ, PassesAt (L2.CX X.prog X.w) X σ (E σ)) (hg : Gl X x) (ha : PA X (e :: es) t)
    (hdb : (x == ("__debug__" : Str)) = false := by decide) (he : starEach (e :: es) X.env = (false, eval e X.env) :: starEach es X.env := by rfl) (hpl : (backTo pos (starEach es X.env)).any (·.1) = false := by rfl) :
    PE X (.Call (.Name x p) (e :: es) [] pos) (tCallS sp E t) := by
  obtain ⟨f, fd, ps, F, hm, kp, b⟩ := c.ex
  exact pe_callS F (hr.mono hk) hg hm kp b hx ha hdb he hpl
end
theorem ixt {X : Cx} {K : PySem.W.Frag} (h : X.K = K := by rfl) : IxR X (rIxT K) := h ▸ ix_tup
theorem ixl {X : Cx} {K : PySem.W.Frag} (h : X.K = K := by rfl) : IxR X (rIxL K) := h ▸ ix_list
/-- a module's number -/
theorem pe_k {X : Cx} {x : Str} {pos : Pos} {v : Int} (h : ∃ t, X.mg x = some (.int v t)) (hg : Gl X x := by rfl) (hdb : (x == ("__debug__" : Str)) = false := by decide) : PE X (.Name x pos) (tC (.int v)) := by
  obtain ⟨t, h⟩ := h
  exact pe_glob hg h ⟨t, rfl⟩ hdb
/-! ### numbers drawn: a list of small numbers -/
def Dr (ns : List Int) : Prop := ns.length ≤ 4000 ∧ ∀ n ∈ ns, 0 ≤ n ∧ n < 65536
/-- r(draws, k, many): a number from 0 below many -/
def spDraw (K : PySem.W.Frag) : Sp := fun vs H Q _ => ∃ (a : Addr) (ns : List Int) (k many : Int), vs = [.ref a, .int k, .int many] ∧ SqL K H a (ns.map V.int) ∧ Dr ns ∧ 0 ≤ k ∧ k < 100000 ∧ 0 < many ∧ ∀ r : Int, 0 ≤ r → r < many → Q (.int r) H
theorem at_ints {ns : List Int} {i : Int} (h0 : 0 ≤ i) (h1 : i < ns.length) : ∃ z, atI (ns.map V.int) i = some (.int z) ∧ z ∈ ns := by
  obtain ⟨j, rfl⟩ : ∃ j : Nat, i = j := ⟨i.toNat, by omega⟩
  have hj : j < ns.length := by omega
  refine ⟨ns[j], ?_, List.getElem_mem hj⟩
  refine atI_nat ?_
  rw [List.getElem?_map, List.getElem?_eq_getElem hj]
  rfl
/-! ### heaps -/
theorem same_new {H : Hp} {p : Addr} {o : HO} (h : H p = none) : Same H (upd H p o) := fun b x e => by
  rw [upd_ne (ne_of_none e h)]
  exact e
theorem same_mut {H H' : Hp} {p : Addr} {o : HO} (e : Same H H') (h : H p = none) : Same H (upd H' p o) := fun b x hb => by
  rw [upd_ne (ne_of_none hb h)]
  exact e b x hb
theorem same_tup {K : PySem.W.Frag} {H H' : Hp} {a : Addr} {xs : List V} (e : Same H H') (h : SqT K H a xs) : SqT K H' a xs := by
  rcases h with (h | ⟨o, h⟩) | h
  · exact .inl (.inl (e _ _ h))
  · exact .inl (.inr ⟨o, e _ _ h⟩)
  · exact .inr h
/-! ### texts of letters -/
def okc (c : Nat) : Bool := decide (32 ≤ c) && (decide (c ≤ 126) && decide (c ≠ 37))
def IsLet (z : Str) : Prop := z.cps.toList.all okc = true
instance (z : Str) : Decidable (IsLet z) := inferInstanceAs (Decidable (_ = true))
theorem str_at {z : Str} {i : Int} (h0 : 0 ≤ i) (h1 : i < (z.cps.toList.length : Int)) : ∃ c, atI z.cps.toList i = some c ∧ c ∈ z.cps.toList := by
  obtain ⟨j, rfl⟩ : ∃ j : Nat, i = j := ⟨i.toNat, by omega⟩
  have hj : j < z.cps.toList.length := by omega
  exact ⟨z.cps.toList[j], atI_nat (List.getElem?_eq_getElem hj), List.getElem_mem hj⟩
theorem let_at {z : Str} {c : Nat} (h : IsLet z) (hc : c ∈ z.cps.toList) : IsLet ⟨#[c]⟩ := by
  have := List.all_eq_true.mp h c hc
  show ([c].all okc) = true
  simp [this]
theorem let_app {a b : Str} (ha : IsLet a) (hb : IsLet b) : IsLet (a ++ b) := by
  have e : (a ++ b).cps.toList = a.cps.toList ++ b.cps.toList := TL.tl_append a b
  show (a ++ b).cps.toList.all okc = true
  rw [e, List.all_append, Bool.and_eq_true]
  exact ⟨ha, hb⟩
theorem len_app (a b : Str) : (a ++ b).length = a.length + b.length := by
  have e : (a ++ b).cps.toList = a.cps.toList ++ b.cps.toList := TL.tl_append a b
  have e2 := congrArg List.length e
  rw [List.length_append] at e2
  simpa [Str.length] using e2
theorem at_map {α : Type} (f : α → V) {xs : List α} {i : Int} (h0 : 0 ≤ i) (h1 : i < xs.length) : ∃ x, atI (xs.map f) i = some (f x) ∧ x ∈ xs := by
  obtain ⟨j, rfl⟩ : ∃ j : Nat, i = j := ⟨i.toNat, by omega⟩
  have hj : j < xs.length := by omega
  refine ⟨xs[j], ?_, List.getElem_mem hj⟩
  refine atI_nat ?_
  rw [List.getElem?_map, List.getElem?_eq_getElem hj]
  rfl
theorem ixs_let {z : Str} {j : Int} {H : Hp} {Q : VK} (hz : IsLet z) (hl : z.length ≤ sizeLine) (h0 : 0 ≤ j) (h1 : j < (z.cps.toList.length : Int)) (h : ∀ c, okc c = true → Q (.str ⟨#[c]⟩) H) : rIxS (.str z) (.int j) H Q := by
  obtain ⟨c, hc, hm⟩ := str_at h0 h1
  exact ⟨z, j, c, rfl, rfl, hl, hc, h c (List.all_eq_true.mp hz c hm)⟩
theorem let_one {c : Nat} (h : okc c = true) : IsLet ⟨#[c]⟩ := by
  show ([c].all okc) = true
  simp [h]
/-! ### houses: pairs of a number and a text, each at its address -/
abbrev PL := List (Addr × Int × Str)
def refs (L : PL) : List V := L.map fun q => V.ref q.1
def PairsAt (K : PySem.W.Frag) (H : Hp) (L : PL) : Prop := ∀ q ∈ L, SqT K H q.1 [.int q.2.1, .str q.2.2]
def HsAt (K : PySem.W.Frag) (H : Hp) (a : Addr) (L : PL) : Prop := SqL K H a (refs L) ∧ PairsAt K H L
theorem PairsAt.same {K : PySem.W.Frag} {H H' : Hp} {L : PL} (e : Same H H') (h : PairsAt K H L) : PairsAt K H' L := fun q hq => same_tup e (h q hq)
theorem HsAt.same {K : PySem.W.Frag} {H H' : Hp} {a : Addr} {L : PL} (e : Same H H') (h : HsAt K H a L) : HsAt K H' a L := ⟨e.seq h.1, h.2.same e⟩
/-- numbers ascending from 0 to 99, texts of at most m letters -/
structure IsHs (m : Nat) (h : List (Int × Str)) : Prop where
  asc : (h.map (·.1)).Pairwise (· < ·)
  num : ∀ q ∈ h, 0 ≤ q.1 ∧ q.1 ≤ 99
  txt : ∀ q ∈ h, IsLet q.2 ∧ q.2.length ≤ m
/-- == of data, the frame said -/
theorem op_eqDK {X : Cx} {K : PySem.W.Frag} (hu : X.A.units + 64 < cLine) (h : X.K = K := by rfl) : OpR X (compareOp .Eq) (rEqD K) := h ▸ op_eqD hu
theorem op_neDK {X : Cx} {K : PySem.W.Frag} (hu : X.A.units + 64 < cLine) (h : X.K = K := by rfl) : OpR X (compareOp .NotEq) (rNeD K) := h ▸ op_neD hu
end SH
set_option Elab.async false
set_option linter.all false
set_option maxRecDepth 100000
set_option maxHeartbeats 4000000
/-! except clauses, any number, with and without a name -/
namespace SH
open PySem PySem.Spec PyProof.Rows L2
abbrev Suite := Addr → Value → Option Addr → TS
/-- behind a suite whose name is forgotten -/
def gone (i : Nat) (D : Ends) : Ends :=
  ⟨fun τ G => D.nx (τ.set i none) G, D.rt, fun τ G => D.bk (τ.set i none) G, fun τ G => D.ct (τ.set i none) G⟩
/-- how a suite is entered: with its name in slot i, or without one -/
def enter (o : Option Nat) (ts : Suite) (a : Addr) (c : Value) (d : Option Addr) (D : Ends) (τ : L2.St) (G : Hp) : Prop :=
  match o with
  | none => ts a c d D τ G
  | some i => ts a c d (gone i D) (τ.set i (some (.ref a))) G
/-- the clauses' wishes: the first that matches -/
def wHds (K : PySem.W.Frag) (Wo : WX) (D : Ends) : List (Value × Option Nat × Suite) → WX
  | [] => Wo
  | q :: r => fun c d τ G => ∃ b, PySem.W.exmOne K c q.1 = some b ∧ (b = true → ∀ a, G a = none → enter q.2.1 q.2.2 a c d D τ G) ∧ (b = false → wHds K Wo D r c d τ G)
/-- a suite's text does what ts says -/
def SuiteOk (X : Cx) (sts : List Stmt) (ts : Suite) : Prop :=
  ∀ (a : Addr) (o : Obj) (c : Value) (d : Option Addr) (l : List (Addr × Obj)), Zc c d o → (∃ f, o.data = .fields f) → PSs (X.suite a ((a, o) :: l)) sts (ts a c d)
inductive HdsN (X : Cx) : List ExceptHandler → List (Value × Option Nat × Suite) → Prop
  | nil : HdsN X [] []
  | cons {x : Str} {c : Value} {ts : Suite} {u : Stmt} {us : List Stmt} {p p' : Pos} {hs : List ExceptHandler} {l : List (Value × Option Nat × Suite)} :
      Names X x c → SuiteOk X (u :: us) ts → HdsN X hs l → HdsN X (.ExceptHandler (some (.Name x p)) none (u :: us) p' :: hs) ((c, none, ts) :: l)
  | named {x n : Str} {i : Nat} {c : Value} {ts : Suite} {u : Stmt} {us : List Stmt} {p p' : Pos} {hs : List ExceptHandler} {l : List (Value × Option Nat × Suite)} :
      Names X x c → X.N.Nodup → X.N[i]? = some n → X.env.kindOf n = some .local → SuiteOk X (u :: us) ts → HdsN X hs l → HdsN X (.ExceptHandler (some (.Name x p)) (some n) (u :: us) p' :: hs) ((c, some i, ts) :: l)
/-- an exception that has come down to this frame: at a, of the class c, with its dict d, over the ground B -/
structure Down (X : Cx) (pins : List (Addr × Obj)) (B : Heap) (a : Addr) (c : Value) (d : Option Addr) (τ : L2.St) (G : Hp) (s : Shared) : Prop where
  st : X.stack = X.env :: X.outer
  fr : X.env.frame = some X.env.locals
  fl : HandSPX.FlyingZ B (X.env :: X.outer) a (Zc c d) s.heap
  on : ∀ h, B.StaysIn h → s.heap.UpToSlots h → Inv X pins τ G { s with heap := h }
  ok : Inv X pins τ G s
  no : G a = none
  out : ∀ (h : Heap) (W : WX), HandSPX.HeldZ B (X.env :: X.outer) a (Zc c d) X.env.locals h → s.heap.UpToSlots h → W c d τ G → XE X W (.ref a) { s with heap := h }
section
variable {X : Cx} {pins : List (Addr × Obj)} {B : Heap} {a : Addr} {c : Value} {d : Option Addr} {τ : L2.St} {G : Hp} {s : Shared}
theorem Down.inner (Y : Down X pins B a c d τ G s) : ∃ o, s.heap.get? a = some o ∧ Zc c d o ∧ (∃ f, o.data = .fields f) ∧ Inv (X.suite a ((a, o) :: (X.pn ++ pins))) [] τ G s := by
  obtain ⟨o, f, ga, za, da⟩ := Y.fl.there
  have away : a ∉ frs (X.env :: X.outer) := by
    intro m
    obtain ⟨-, o', g', nf⟩ := Y.fl.2.2.1.mem m
    cases ga.symm.trans g'
    exact nf _ da
  refine ⟨o, ga, za, ⟨f, da⟩, Y.ok.suite ga da Y.no ?_ ?_⟩
  · intro z
    refine away (List.mem_filterMap.mpr ⟨X.env, List.mem_cons_self, ?_⟩)
    rw [Y.fr, z]
  · intro m
    obtain ⟨e, me, q⟩ := List.mem_filterMap.mp m
    exact away (List.mem_filterMap.mpr ⟨e, List.mem_cons_of_mem _ me, q⟩)
/-- the clause's name is asked, and whether the exception is of it -/
theorem Down.asked (Y : Down X pins B a c d τ G s) {x : Str} {p : Pos} {cl : Value} {b : Bool} (nm : Names X x cl) (hb : PySem.W.exmOne X.K c cl = some b) {Q : Bool → Shared → Prop} {E : Value → Shared → Prop} (q : Q b s) :
    wpAny (model X.prog X.w) (X.A.mark (some (.ref a))) (eval (.Name x p) X.env) (fun u s1 => wpAny (model X.prog X.w) (X.A.mark (some (.ref a))) (excMatches (.ref a) u) Q E s1) E s := by
  obtain ⟨o, ga, za, -, S⟩ := Y.inner
  have ty : PySem.W.Looks (model X.prog X.w) s.heap (typeOf (.ref a)) c := fun _ _ _ _ k z => wpAny_typeOf_ref (k _ _ ga) (by rw [za.1]; exact z)
  have mt := (PySem.W.exm_one (M := model X.prog X.w) Y.ok.kIn ty hb).here (A := X.A.mark (some (.ref a))) (Q := Q) (E := E) q
  obtain ⟨g, nd, hm | ⟨hm, hv, nn⟩⟩ := nm
  · exact ld_glob (X := X.suite a ((a, o) :: (X.pn ++ pins))) S g hm mt nd
  · exact ld_blt (X := X.suite a ((a, o) :: (X.pn ++ pins))) S g hm hv mt nn nd
/-- once more at the suite's beginning -/
theorem Down.again (Y : Down X pins B a c d τ G s) {h : Heap} (f : HandSPX.FlyingZ B (X.env :: X.outer) a (Zc c d) h) (u : s.heap.UpToSlots h) : Down X pins B a c d τ G { s with heap := h } :=
  ⟨Y.st, Y.fr, f, fun g k v => Y.on g k (u.trans v), Y.on h f.1 u, Y.no, fun g W k v w => Y.out g W k (u.trans v) w⟩
theorem Down.handle (Y : Down X pins B a c d τ G s) {D : Ends} {Wo : WX} (tk : Takes X Wo) {hs : List ExceptHandler} {l : List (Value × Option Nat × Suite)} (hk : HdsN X hs l) :
    wHds X.K Wo D l c d τ G → wpAny (model X.prog X.w) X.A (handleBy (.ref a) X.env hs) (SP X pins D) X.xe s := by
  induction hk with
  | nil =>
    intro wish
    refine wpAny_handleBy_nil ?_
    obtain ⟨-, -, -, o, f, T, -, -, go, -, dat, f1, -⟩ := id Y.fl
    unfold PySem.passOn
    refine wpAny_bind (wpAny_field go dat f1 ?_)
    rw [if_neg (by simp : ¬ ((Value.ref T == Value.none) = true))]
    have up : wpAny (model X.prog X.w) X.A (setFlight (.ref a) X.env.frame) (fun _ s4 => wpAny (model X.prog X.w) X.A (throw (.ref a) : Sem Flow) (SP X pins D) X.xe s4) X.xe s := by
      rw [Y.fr]
      exact HandSPX.setFlight_upZ Y.fl fun h held u => wpAny_throw (tk _ _ (Y.out h _ held u wish))
    first
      | exact wpAny_bind (wpAny_pure (wpAny_bind up))
      | exact wpAny_bind up
  | @cons x cl ts u us p p' hs l nm so r ih =>
    rintro ⟨b, hb, yes, no⟩
    refine wpAny_handleBy_cons (codeAny_handlers_test (Y.asked nm hb ?_)) (fun z => nomatch z)
    match b, yes, no with
    | false, _, no => exact ih (no rfl)
    | true, yes, _ =>
      refine codeAny_handlers_suite (HandSPX.lands_againZ Y.fl fun h f v => ?_)
      obtain ⟨o, -, zo, fo, S⟩ := (Y.again f v).inner
      refine wpAny_mono ((so a o c d (X.pn ++ pins) zo fo).run [] _ _ G _ S (yes rfl a Y.no)) ?_ (fun _ _ z => z.elim)
      intro g s6 hsp
      match g, hsp with
      | .next, ⟨τ6, G6, S6, z⟩ => exact ⟨τ6, G6, S6.unsuite Y.ok.ok, z⟩
      | .brk, ⟨τ6, G6, S6, z⟩ => exact ⟨τ6, G6, S6.unsuite Y.ok.ok, z⟩
      | .cont, ⟨τ6, G6, S6, z⟩ => exact ⟨τ6, G6, S6.unsuite Y.ok.ok, z⟩
      | .ret u, ⟨v6, τ6, G6, S6, r6, z⟩ => exact ⟨v6, τ6, G6, S6.unsuite Y.ok.ok, r6, z⟩
  | @named x n i cl ts u us p p' hs l nm hN hi ho so r ih =>
    rintro ⟨b, hb, yes, no⟩
    refine wpAny_handleBy_cons (codeAny_handlers_test (Y.asked nm hb ?_)) (fun z => nomatch z)
    match b, yes, no with
    | false, _, no => exact ih (no rfl)
    | true, yes, _ =>
      refine codeAny_handlers_suite_as (HandSPX.lands_againZ Y.fl fun h f v => ?_)
      obtain ⟨o, -, zo, fo, S⟩ := (Y.again f v).inner
      refine store_ok (X := X.suite a ((a, o) :: (X.pn ++ pins))) (v := .ref a) S hN hi (.inl ho) rfl (fun s5 S5 => ?_) (.inr ho)
      refine wpAny_mono ((so a o c d (X.pn ++ pins) zo fo).run [] s5 _ G _ S5 (yes rfl a Y.no)) ?_ (fun _ _ z => z.elim)
      intro g s6 hsp
      match g, hsp with
      | .next, ⟨τ6, G6, S6, z⟩ => exact gone_ok (S6.unsuite Y.ok.ok) hN hi ho fun s7 J => ⟨τ6.set i none, G6, J, z⟩
      | .brk, ⟨τ6, G6, S6, z⟩ => exact gone_ok (S6.unsuite Y.ok.ok) hN hi ho fun s7 J => ⟨τ6.set i none, G6, J, z⟩
      | .cont, ⟨τ6, G6, S6, z⟩ => exact gone_ok (S6.unsuite Y.ok.ok) hN hi ho fun s7 J => ⟨τ6.set i none, G6, J, z⟩
      | .ret u, ⟨v6, τ6, G6, S6, r6, z⟩ => exact gone_ok (S6.unsuite Y.ok.ok) hN hi ho fun s7 J => ⟨v6, τ6.set i none, G6, J, r6, z⟩
end
/-- try: body, any clauses -/
theorem ps_try_hds {X : Cx} {body : List Stmt} {h₀ : ExceptHandler} {hs : List ExceptHandler} {l : List (Value × Option Nat × Suite)} {pos : Pos} {tb : WX → TS} {Wo : WX}
    (st : X.stack = X.env :: X.outer) (fr : X.env.frame = some X.env.locals) (tk : Takes X Wo)
    (bo : ∀ (W : WX) (pn : List (Addr × Obj)) (xe : Value → Shared → Prop), Takes (X.tr pn xe) W → PassesOwn (model X.prog X.w) X.A X.env xe → PSs (X.tr pn xe) body (tb W))
    (hk : HdsN X (h₀ :: hs) l) : PS X (.Try body (h₀ :: hs) [] [] pos) (fun D τ G => tb (wHds X.K Wo D l) D τ G) := by
  constructor
  intro pins s τ G D I q
  have ok := I.ok
  refine wpAny_Try_except (wpAny_mono ((bo (wHds X.K Wo D l) (X.pn ++ pins) _ ?_ PassesOwn.looking).run [] s τ G D (I.toTry _) q) (fun f s1 r => ?_) (fun e s1 r => r))
  · rintro u s2 ⟨a, B, sI, pins', τ2, G2, c, d, rfl, J', nb, up, sky, na, os, ag, wish⟩
    have J := J'.ofTry ok
    have sky2 : Sky B (X.env :: X.outer) a (Zc c d) X.env.locals s2.heap := st ▸ sky
    refine Sky.land Zc.steady (by rw [ok.frames, st]) fr sky2 (fun h f v => ?_)
    refine Down.handle (B := B) (a := a) (c := c) (d := d) (τ := τ2) (G := G2) (s := { s2 with heap := h }) ⟨st, fr, f, fun g k z => J.landed nb k ((up.trans v).trans z) os ag, J.landed nb f.1 (up.trans v) os ag, na, fun g W k z w => ?_⟩ tk hk wish
    exact ⟨a, B, sI, pins, τ2, G2, c, d, rfl, J, nb, (up.trans v).trans z, .inr (.inr (by rw [st]; exact k)), na, os, ag, w⟩
  · match f, r with
    | .next, ⟨τ2, G2, J, z⟩ => exact wpAny_execs_nil ⟨τ2, G2, J.ofTry ok, z⟩
    | .brk, ⟨τ2, G2, J, z⟩ => exact ⟨τ2, G2, J.ofTry ok, z⟩
    | .cont, ⟨τ2, G2, J, z⟩ => exact ⟨τ2, G2, J.ofTry ok, z⟩
    | .ret u, ⟨v, τ2, G2, J, r2, z⟩ => exact ⟨v, τ2, G2, J.ofTry ok, r2, z⟩
end SH
set_option Elab.async false
set_option linter.all false
set_option maxRecDepth 100000
set_option maxHeartbeats 4000000
/-! errors with a number: made by the base's __init__, raised, caught, asked for their number -/
namespace SH
open PySem PySem.Spec PyProof.Rows L2
/-- numbers that an error is made with here -/
def Small (n : Int) : Prop := n.natAbs < 2 ^ 200
theorem small_bits {n : Int} (h : Small n) : decide ((1000 : Int) < ((Builtin.Int.intBits n : Nat) : Int)) = false := by
  have a := PySem.Flt.log2_lt_of (by decide : 0 < 200) h
  have b : Builtin.Int.intBits n ≤ n.natAbs.log2 + 1 := by
    unfold Builtin.Int.intBits
    split <;> omega
  refine decide_eq_false ?_
  omega
theorem small_of {n : Int} (h0 : -1000000 ≤ n) (h1 : n ≤ 1000000) : Small n := Nat.lt_of_le_of_lt (by omega : n.natAbs ≤ 1000000) (by decide)
/-- __init__(self, at) at a new exception: its dict gets the number -/
def spInitAt (K : PySem.W.Frag) : Sp := fun vs H Q _ => ∃ (a C : Addr) (n : Int), vs = [.ref a, .int n] ∧ OexC K C ∧ PySem.W.findIn K (.ref C) "at" = some none ∧ Small n ∧ H a = some (exo a C none) ∧
  ∀ dx : Addr, H dx = none → dx ≠ a → Q .non (upd (upd H dx (exd dx [(("at" : Str), .int n)])) a (exo a C (some dx)))
/-- what the top says of an error's class -/
structure ErrC (K : PySem.W.Frag) (mg : Str → Option Value) (x : Str) (C fI : Addr) : Prop where
  g : mg x = some (.ref C)
  o : OexC K C
  i : PySem.W.findIn K (.ref C) "__init__" = some (some (.ref fI))
  no : PySem.W.findIn K (.ref C) "at" = some none
  f : XfC K C
/-- .. and of the __init__ -/
structure InitOk (P : Program) (w : World) (K : PySem.W.Frag) (mg : Str → Option Value) (base : Heap) (fI : Addr) : Prop where
  ex : ∃ fd : FuncData, FnOk P w K mg base CX0 1 fI fd ["self", "at"] (spInitAt K) ∧ Binds K fd ["self", "at"] [] ∧ PySem.W.typeIn K (.ref fI) = some (.type "function")
/-- .. as it stands in the text -/
structure DdI (K : PySem.W.Frag) (q : Str) (st : Stmt) (fI : Addr) : Prop where
  ex : ∃ fd : FuncData, Fun K "__init__" q st fI fd ∧ Binds K fd ["self", "at"] [] ∧ PySem.W.typeIn K (.ref fI) = some (.type "function")
section
variable {X : Cx} {k : Nat} {x : Str} {C fI : Addr} {e : Expr} {ta : TA} {p pos : Pos}
/-- x(e): a new error of the class at C -/
theorem pmk_at (T : ErrC X.K X.mg x C fI) (I : InitOk X.prog X.w X.K X.mg X.base fI) (hr : Room k X.A) (hk : 2 ≤ k) (hg : Gl X x) (ha : PA X (e :: []) ta)
    (hd : (x == ("__debug__" : Str)) = false := by decide) (he : starEach (e :: []) X.env = (false, eval e X.env) :: starEach [] X.env := by rfl) (hp : (backTo pos (starEach [] X.env)).any (·.1) = false := by rfl) :
    PMk X (.Call (.Name x p) (e :: []) [] pos) (tMkO C (spInitAt X.K) [] ta) := by
  obtain ⟨fd, F, b, t⟩ := I.ex
  exact pmk_oex T.o T.i t F (hr.mono hk) b .nil pass0 hg T.g ha hd he hp
end
/-- the reading of a made error, behind its argument -/
theorem mk_at {K : PySem.W.Frag} {C : Addr} {H1 : Hp} {n : Int} {Q : XK} (To : OexC K C) (Tn : PySem.W.findIn K (.ref C) "at" = some none) (hs : Small n)
    (go : ∀ (d : Addr) (H2 : Hp), Same H1 H2 → H1 d = none → H2 d = some (.xd [(("at" : Str), .int n)]) → Q (.ref C) (some d) H2) :
    [V.int n].length ≤ 1000 ∧ ∀ a, H1 a = none → spInitAt K (.ref a :: ([V.int n] ++ [])) (upd H1 a (exo a C none))
      (fun v H2 => v = .non ∧ ∃ (d : Addr) (fs : List (Str × V)), H2 a = some (exo a C (some d)) ∧ H2 d = some (exd d fs) ∧ H1 d = none ∧ Q (.ref C) (some d) (upd (del H2 a) d (.xd fs))) (fun _ _ _ => False) := by
  refine ⟨(by show 1 ≤ 1000; decide), fun a na => ⟨a, C, n, rfl, To, Tn, hs, upd_same, fun dx ndx ne => ⟨rfl, dx, [(("at" : Str), V.int n)], upd_same, ?_, ?_, ?_⟩⟩⟩
  · rw [upd_ne ne, upd_same]
  · rw [upd_ne ne] at ndx
    exact ndx
  · rw [upd_ne ne] at ndx
    refine go dx _ (fun b o hb => ?_) ndx upd_same
    have b1 : b ≠ dx := ne_of_none hb ndx
    have b2 : b ≠ a := ne_of_none hb na
    rw [upd_ne b1, del_ne b2, upd_ne b2, upd_ne b1, upd_ne b2]
    exact hb
theorem wHds_skip {K : PySem.W.Frag} {Wo : WX} {D : Ends} {q : Value × Option Nat × Suite} {r : List (Value × Option Nat × Suite)} {c : Value} {d : Option Addr} {τ : L2.St} {G : Hp} (h : PySem.W.exmOne K c q.1 = some false)
    (go : wHds K Wo D r c d τ G) : wHds K Wo D (q :: r) c d τ G := ⟨false, h, (fun z => Bool.noConfusion z), fun _ => go⟩
theorem wHds_take {K : PySem.W.Frag} {Wo : WX} {D : Ends} {q : Value × Option Nat × Suite} {r : List (Value × Option Nat × Suite)} {c : Value} {d : Option Addr} {τ : L2.St} {G : Hp} (h : PySem.W.exmOne K c q.1 = some true)
    (go : ∀ a, G a = none → enter q.2.1 q.2.2 a c d D τ G) : wHds K Wo D (q :: r) c d τ G := ⟨true, h, (fun _ => go), (fun z => Bool.noConfusion z)⟩
theorem exm_of {K : PySem.W.Frag} {C D : Addr} {b : Bool} (h1 : PySem.W.subIn K (.ref D) (.type "BaseException") = some true) (h2 : PySem.W.isClsIn K D = true) (h3 : PySem.W.typeIn K (.ref D) = some (.type "type"))
    (h4 : PySem.W.subIn K (.ref C) (.ref D) = some b) : PySem.W.exmOne K (.ref C) (.ref D) = some b := by
  have c1 : (PySem.W.subIn K (.ref D) (.type "BaseException") == some true) = true := by rw [h1]; rfl
  have c2 : ((PySem.W.clsIn K D).isSome && PySem.W.typeIn K (.ref D) == some (.type "type")) = true := by
    have h2' : (PySem.W.clsIn K D).isSome = true := h2
    rw [h3, h2']; rfl
  unfold PySem.W.exmOne
  rw [if_pos c1]
  show (if ((PySem.W.clsIn K D).isSome && PySem.W.typeIn K (.ref D) == some (.type "type")) = true then PySem.W.subIn K (.ref C) (.ref D) else none) = some b
  rw [if_pos c2]
  exact h4
end SH
set_option Elab.async false
set_option linter.all false
set_option maxRecDepth 100000
set_option maxHeartbeats 4000000
namespace SH
open PySem PySem.Spec PyProof.Rows L2
/-! comprehensions whose steps only add to the heap: RL tells what the list made so far is -/
/-- all but what stands at D is as it was -/
def But (D : Addr) (H H' : Hp) : Prop := ∀ b o, b ≠ D → H b = some o → H' b = some o
theorem but_upd {D : Addr} {H : Hp} {o : HO} : But D H (upd H D o) := fun b x n e => by
  rw [upd_ne n]
  exact e
theorem but_tup {K : PySem.W.Frag} {D t : Addr} {H H' : Hp} {l xs : List V} (hD : H D = some (.lst l)) (e : But D H H') (h : SqT K H t xs) : SqT K H' t xs := by
  rcases h with h | h
  · rcases h with h | h
    · refine Or.inl (Or.inl (e _ _ (fun z => ?_) h))
      rw [z, hD] at h
      cases h
    · obtain ⟨o, h⟩ := h
      refine Or.inl (Or.inr ⟨o, e _ _ (fun z => ?_) h⟩)
      rw [z, hD] at h
      cases h
  · exact Or.inr h
theorem but_pairs {K : PySem.W.Frag} {D : Addr} {H H' : Hp} {l : List V} {L : PL} (hD : H D = some (.lst l)) (e : But D H H') (h : PairsAt K H L) : PairsAt K H' L := fun q hq => but_tup hD e (h q hq)
section
variable {J : It} {n : Nat} {G : Hp → Prop} {Y : Nat → Hp → V → Hp → Prop}
theorem lc_w (w : Walk J n G Y) {g : TG} {tt : TT} {te : TE} {vs : List Nat} {τ : L2.St} {H1 : Hp} {D : Addr} {Qd : Hp → Prop} (hD : H1 D = none) (hn : n ≤ 100000) (hG : ∀ H, Same H1 H → G H)
    (RL : Nat → List V → Hp → Prop) (h0 : ∀ H, Same H1 H → RL 0 [] H) (mono : ∀ i acc H H' l, H D = some (.lst l) → But D H H' → RL i acc H → RL i acc H')
    (hY : ∀ i H x H', Y i H x H' → Same H H')
    (hs : ∀ (i : Nat) (x : V) (acc : List V) (H H' : Hp) (Qn : VK) (Qf : Hp → Prop), i < n → Same H1 H' → Y i H x H' → RL i acc H' → H' D = some (.lst acc) → (∀ y H4, Same H' H4 → RL (i + 1) (acc ++ [y]) H4 → Qn y H4) → (∀ H3, Same H' H3 → RL (i + 1) acc H3 → Qf H3) →
      g x (wipe τ vs) H' fun τ2 H2 => wipe τ2 vs = wipe τ vs ∧ tt τ2 H2 fun b H3 => if b = true then te τ2 H3 Qn else Qf H3)
    (hd : ∀ acc H, Same H1 H → H D = some (.lst acc) → acc.length ≤ n → RL n acc H → Qd H) :
    ∃ W : Nat → Nat → Hp → Prop, (∃ m, W 0 m (upd H1 D (.lst []))) ∧ ∀ i m H, W i m H →
      (J.stop i H ∧ Qd H) ∨ (J.go i H ∧ ∃ Nx : Hp → Prop, (∀ H', Nx H' → ∃ m', m' < m ∧ W (i + 1) m' H') ∧ ∀ x H', J.yld i H x H' → g x (wipe τ vs) H' fun τ2 H2 => wipe τ2 vs = wipe τ vs ∧ tt τ2 H2 fun b H3 =>
        if b = true then te τ2 H3 fun y H4 => ∃ acc, H4 D = some (.lst acc) ∧ acc.length < sizeLine ∧ Nx (upd H4 D (.lst (acc ++ [y]))) else Nx H3) := by
  refine lc_it w (fun i H => ∃ acc, Same H1 H ∧ H D = some (.lst acc) ∧ acc.length ≤ i ∧ RL i acc H) ⟨[], same_new hD, upd_same, Nat.le_refl _, h0 _ (same_new hD)⟩ (fun i H _ p => ?_) (fun i x H H' hi p y => ?_) (fun H p => ?_)
  · obtain ⟨acc, e, _⟩ := p
    exact hG H e
  · obtain ⟨acc, e, at_, hl, r⟩ := p
    have e1 := hY i H x H' y
    have at1 := e1 _ _ at_
    refine hs i x acc H H' _ _ hi (e.trans e1) y (mono i acc H H' acc at_ (fun b o _ h => e1 b o h) r) at1 (fun z H4 e2 r2 => ?_) (fun H3 e2 r2 => ?_)
    · have at2 := e2 _ _ at1
      refine ⟨acc, at2, Nat.lt_of_le_of_lt (Nat.le_trans hl (Nat.le_of_lt (Nat.lt_of_lt_of_le hi hn))) (by decide), acc ++ [z], same_mut ((e.trans e1).trans e2) hD, upd_same, by simp; omega, mono _ _ H4 _ acc at2 but_upd r2⟩
    · exact ⟨acc, (e.trans e1).trans e2, e2 _ _ at1, by omega, r2⟩
  · obtain ⟨acc, e, at_, hl, r⟩ := p
    exact hd acc H e at_ hl r
end
/-! ### numbers and texts -/
theorem lt1 (c d : Nat) : decide (([c] : List Nat) < [d]) = decide (c < d) := by
  by_cases h : c < d
  · rw [decide_eq_true h]
    exact decide_eq_true (List.Lex.rel h)
  · rw [decide_eq_false h]
    refine decide_eq_false fun z => ?_
    cases z with
    | rel q => exact h q
    | cons q => cases q
/-- a text of the document: not too long, of letters -/
def isTxt (z : Str) : Bool := decide (z.length ≤ 40) && z.cps.toList.all okc
/-- a house of the document, behind a number -/
def chk (before : Int) : List (Int × Str) → Bool
  | [] => true
  | q :: r => decide (before < q.1) && decide (q.1 ≤ 99) && isTxt q.2 && chk q.1 r
def isH (h : List (Int × Str)) : Bool := decide (h.length ≤ 8) && chk (-1) h
theorem chk_of {m : Nat} (hm : m ≤ 40) : ∀ (h : List (Int × Str)) (b : Int), (∀ q ∈ h, b < q.1) → IsHs m h → chk b h = true
  | [], _, _, _ => rfl
  | q :: r, b, hb, a => by
    have t := a.txt q (List.mem_cons_self ..)
    have n := a.num q (List.mem_cons_self ..)
    have asc := a.asc
    rw [List.map_cons, List.pairwise_cons] at asc
    have ih := chk_of hm r q.1 (fun x hx => asc.1 x.1 (List.mem_map_of_mem hx)) ⟨asc.2, fun x hx => a.num x (List.mem_cons_of_mem _ hx), fun x hx => a.txt x (List.mem_cons_of_mem _ hx)⟩
    show (decide (b < q.1) && decide (q.1 ≤ 99) && isTxt q.2 && chk q.1 r) = true
    have e1 := hb q (List.mem_cons_self ..)
    have e2 : isTxt q.2 = true := by
      unfold isTxt
      rw [decide_eq_true (Nat.le_trans t.2 hm)]
      exact t.1
    rw [ih, e2, decide_eq_true e1, decide_eq_true n.2]
    rfl
end SH
set_option Elab.async false
set_option linter.all false
set_option maxRecDepth 100000
set_option maxHeartbeats 4000000
/-! sorted(xs), xs a list of pairs of a number and a text; pairs with one number have one text -/
namespace SH
open PySem PySem.Spec PyProof.Rows L2
def NT (h : Heap) (v : Value) (p : Int × Str) : Prop := ∃ (a : Addr) (o : Obj) (t u : Tok) (c : Nat), v = .ref a ∧ h.get? a = some o ∧ o.cls = .type "tuple" ∧ o.data = .seq #[.int p.1 t, .str p.2 u] c
theorem NT.on {h h' : Heap} {v : Value} {p : Int × Str} (x : NT h v p) (k : ∀ b o, h.get? b = some o → o.cls = .type "tuple" → h'.get? b = some o) : NT h' v p := by
  obtain ⟨a, o, t, u, c, rfl, g, q, r⟩ := x
  exact ⟨a, o, t, u, c, rfl, k a o g q, q, r⟩
theorem nt_firsts {h : Heap} {k : Value → Int × Str} : ∀ (vs : List Value), (∀ v ∈ vs, NT h v (k v)) → ∃ fs, PySem.W.KatTups h vs fs ∧ fs.length = vs.length ∧ ∀ f ∈ fs, ∃ n t, f = Value.int n t
  | [], _ => ⟨[], PySem.W.KatTups.nil, rfl, fun _ m => nomatch m⟩
  | v :: r, x => by
    obtain ⟨fs, k1, k2, k3⟩ := nt_firsts r (fun u m => x u (List.mem_cons_of_mem _ m))
    obtain ⟨a, o, t, u, c, rfl, g, q, d⟩ := x v (List.mem_cons_self ..)
    refine ⟨_, PySem.W.KatTups.cons g q d rfl k1, by simp [k2], fun f m => ?_⟩
    rcases List.mem_cons.mp m with e | m
    · exact ⟨_, _, e⟩
    · exact k3 f m
def ltN (k : Value → Int × Str) (v u : Value) : Bool := decide ((k v).1 < (k u).1)
theorem ltN_swo (k : Value → Int × Str) : SrtO.Swo (ltN k) :=
  ⟨fun x y h => decide_eq_false (by have := of_decide_eq_true h; omega), fun x y z h1 h2 => decide_eq_false (by have a := of_decide_eq_false h1; have b := of_decide_eq_false h2; omega)⟩
section
variable {prog : Program} {w : World} {A : Around} {s : Shared}
theorem nt_cmp {vs : List Value} {k : Value → Int × Str} (hp : ∀ v ∈ vs, NT s.heap v (k v)) (one : ∀ v ∈ vs, ∀ u ∈ vs, (k v).1 = (k u).1 → (k v).2 = (k u).2) :
    SrtO.Cmp prog w A s (tuples' true) (fun p => p.1 ∈ vs) (SrtO.lt2 (ltN k)) := by
  rintro ⟨x, kx⟩ ⟨y, ky⟩ mp mq
  have same := one _ mp _ mq
  show wpAny (model prog w) A (keyLt' (tuples' true) x y) (fun r s' => s' = s ∧ r = decide ((k x).1 < (k y).1)) (fun _ _ => False) s
  obtain ⟨a, o, t, u, c, e, g, cl, d⟩ := hp _ mp
  obtain ⟨a', o', t', u', c', e', g', cl', d'⟩ := hp _ mq
  have ex : x = .ref a := e
  have ey : y = .ref a' := e'
  subst ex ey
  refine PySem.W.kat_lt g d g' d' (PySem.W.kat_cons (SeqAt.EqAt.int_int _ t _ t' prog w _ _ (PySem.W.kat_go (fun e1 => ?_) (fun e1 => ?_))))
  · have en : (k (.ref a)).1 = (k (.ref a')).1 := by simpa using e1
    have ez := same en
    refine PySem.W.kat_yes (PySem.W.kat_cons (SeqAt.EqAt.str_str _ u _ u' prog w _ _ (PySem.W.kat_go (fun _ => ?_) (fun e2 => ?_))))
    · refine PySem.W.kat_yes (PySem.W.kat_nil ⟨rfl, ?_⟩)
      rw [en]
      simp
    · rw [ez] at e2
      simp at e2
  · exact PySem.W.kat_no (oneLt_int ⟨rfl, rfl⟩)
theorem nt_sortable {a : Addr} {vs : List Value} {k : Value → Int × Str} (h0 : 0 < vs.length) (hp : ∀ v ∈ vs, NT s.heap v (k v)) (one : ∀ v ∈ vs, ∀ u ∈ vs, (k v).1 = (k u).1 → (k v).2 = (k u).2)
    (ha : ∀ o, s.heap.get? a = some o → o.cls ≠ .type "tuple") : SrtO.SortableO prog w A s a vs (ltN k) := by
  intro h' keep
  have hp' : ∀ v ∈ vs, NT h' v (k v) := fun v m => (hp v m).on fun b o g c => keep b o (fun z => ha o (z ▸ g) c) g
  obtain ⟨fs, f1, f2, f3⟩ := nt_firsts vs hp'
  refine ⟨tuples' true, fun Q E q => PySem.W.kat_kind (T := .type "int") f1 (by omega) (fun f m => ?_) (by rfl) ?_, nt_cmp hp' one⟩
  · obtain ⟨n, t, rfl⟩ := f3 f m
    exact PySem.W.Looks.now
  · have e : (Value.type "int" != Value.type "tuple") = true := by first | decide +kernel | rfl
    rw [e]
    exact q
end
/-- sorted(xs): a new list of the same pairs, by their numbers -/
def rSortNT (K : PySem.W.Frag) : List V → Hp → VK → Prop := fun vs H Q => ∃ (a : Addr) (L : PL), vs = [.ref a] ∧ HsAt K H a L ∧ (∀ q ∈ L, ∀ r ∈ L, q.2.1 = r.2.1 → q.2.2 = r.2.2) ∧
  ∀ (L' : PL) (p : Addr), L'.Perm L → L'.Pairwise (fun q r => q.2.1 ≤ r.2.1) → H p = none → Q (.ref p) (upd H p (.lst (refs L')))
/-- what stands at the address in a list of pairs -/
def atAddr (L : PL) (v : Value) : Int × Str := match v with
  | .ref a => match L.find? (fun q => q.1 == a) with
    | some q => q.2
    | none => (0, "")
  | _ => (0, "")
def addrOf : Value → Addr
  | .ref a => a
  | _ => 0
theorem atAddr_of {L : PL} (un : ∀ q ∈ L, ∀ r ∈ L, q.1 = r.1 → q.2 = r.2) {q : Addr × Int × Str} (hq : q ∈ L) : atAddr L (.ref q.1) = q.2 := by
  show (match L.find? (fun r => r.1 == q.1) with | some r => r.2 | none => (0, "")) = q.2
  cases e : L.find? (fun r => r.1 == q.1) with
  | some r =>
    have h1 := List.mem_of_find?_eq_some e
    have h2 := List.find?_some e
    exact un r h1 q hq (by simpa using h2)
  | none =>
    have := List.find?_eq_none.mp e q hq
    simp at this
section
variable {X : Cx}
theorem cr_sortNT : CallR X (.builtin "sorted") (rSortNT X.K) := by
  intro pins s τ H vs us Q I r h
  obtain ⟨a, L, rfl, hA, one, q⟩ := h
  obtain ⟨its, rv, hl, hz⟩ := I.list hA.1
  obtain ⟨u, rfl, ru⟩ := vals1 r
  obtain rfl : u = Value.ref a := ru
  obtain ⟨e1, e2⟩ := refs_back rv (fun x m => by
    obtain ⟨q, _, e⟩ := List.mem_map.mp m
    exact ⟨q.1, e.symm⟩)
  -- one address, one pair
  have un : ∀ q ∈ L, ∀ r ∈ L, q.1 = r.1 → q.2 = r.2 := fun q hq r hr e => by
    have z := I.tuple_inj (hA.2 q hq) (by rw [e]; exact hA.2 r hr)
    obtain ⟨x, n, t⟩ := q
    obtain ⟨y, m, t'⟩ := r
    simp at z
    show (n, t) = (m, t')
    rw [z.1, z.2]
  have mem : ∀ v ∈ its, ∃ q ∈ L, v = Value.ref q.1 := fun v hv => by
    obtain ⟨t, rfl⟩ := e2 v hv
    have m : V.ref t ∈ refs L := by
      rw [e1]
      exact List.mem_map.mpr ⟨_, hv, rfl⟩
    obtain ⟨q, hq, e⟩ := List.mem_map.mp m
    cases e
    exact ⟨q, hq, rfl⟩
  have nt : ∀ v ∈ its, NT s.heap v (atAddr L v) := fun v hv => by
    obtain ⟨q, hq, rfl⟩ := mem v hv
    rw [atAddr_of un hq]
    obtain ⟨i2, r2, ⟨o, g, c, n, d⟩, _⟩ := I.tuple (hA.2 q hq)
    obtain ⟨u1, u2, rfl, ⟨t1, rfl⟩, ⟨t2, rfl⟩⟩ := vals2 r2
    exact ⟨q.1, o, t1, t2, n, rfl, g, c, d⟩
  have one' : ∀ v ∈ its, ∀ u ∈ its, (atAddr L v).1 = (atAddr L u).1 → (atAddr L v).2 = (atAddr L u).2 := fun v hv u hu => by
    obtain ⟨q, hq, rfl⟩ := mem v hv
    obtain ⟨r, hr, rfl⟩ := mem u hu
    rw [atAddr_of un hq, atAddr_of un hr]
    exact one q hq r hr
  refine SrtO.sorted_ord (ltN_swo (atAddr L)) hl.isList (by rw [← rv.length]; exact hz) (fun h2 h₁ b hb kk => ?_) (fun out hs hb => ?_)
  · refine nt_sortable (s := { s with heap := h₁ }) (by omega) (fun v m => (nt v m).on fun c o g _ => (kk c o g).2) one' (fun o g c => ?_)
    have g' : some o = some (seqObj "list" its.toArray 0) := g.symm.trans hb
    cases g'
    exact absurd (Value.type.inj c) (by decide)
  · have mo : ∀ v ∈ out, ∃ q ∈ L, v = Value.ref q.1 := fun v hv => mem v (hb.perm.mem_iff.mp hv)
    -- the pairs in their new order
    let f : Value → Addr × Int × Str := fun v => (addrOf v, atAddr L v)
    have fq : ∀ q ∈ L, f (.ref q.1) = q := fun q hq => by
      show (q.1, atAddr L (.ref q.1)) = q
      rw [atAddr_of un hq]
    have hL : its.map f = L := by
      have z : (refs L).map (fun v => match v with | .ref t => f (.ref t) | _ => (0, 0, "")) = L := by
        unfold refs
        rw [List.map_map]
        calc L.map _ = L.map id := List.map_congr_left fun q hq => fq q hq
          _ = L := List.map_id L
      rw [e1, List.map_map] at z
      refine Eq.trans (List.map_congr_left fun v hv => ?_) z
      obtain ⟨q, _, rfl⟩ := mem v hv
      rfl
    have hp : (out.map f).Perm L := by
      rw [← hL]
      exact hb.perm.map f
    have hr : refs (out.map f) = out.map backV := by
      unfold refs
      rw [List.map_map]
      refine List.map_congr_left fun v hv => ?_
      obtain ⟨q, _, rfl⟩ := mo v hv
      rfl
    have hsrt : (out.map f).Pairwise (fun q r => q.2.1 ≤ r.2.1) := by
      rw [List.pairwise_map]
      refine List.Pairwise.imp (fun {x y} h => ?_) hs
      have := of_decide_eq_false h
      show (atAddr L x).1 ≤ (atAddr L y).1
      omega
    obtain ⟨n, hn⟩ := sortedAll_at s.heap its out.toArray
    have hd : s.heap.objs.size ≤ s.heap.objs.size + 1 := Nat.le_succ _
    refine ⟨.ref (s.heap.objs.size + 1), upd H (s.heap.objs.size + 1) (.lst (refs (out.map f))), I.laid (t' := s.toks) (fun b o g => sortedAll_old g) hd ⟨?_, out, n, ?_, hn⟩, rfl, q _ _ hp hsrt (I.hok.fresh hd)⟩
    · have e3 : (refs (out.map f)).length = (refs L).length := by
        unfold refs
        rw [List.length_map, List.length_map (as := L), hp.length_eq]
      rw [e3]
      exact hz
    · rw [hr]
      exact vals_back fun v hv => by
        obtain ⟨q, _, rfl⟩ := mo v hv
        exact ⟨q.1, rfl⟩
end
end SH
set_option Elab.async false
set_option linter.all false
set_option maxRecDepth 100000
set_option maxHeartbeats 4000000
/-! houses as data, compared -/
namespace SH
open PySem PySem.Spec PyProof.Rows L2
def dPair (q : Int × Str) : PyData := .tuple [.int q.1, .str q.2]
def dH (h : List (Int × Str)) : PyData := .list (h.map dPair)
theorem dp_refs {K : PySem.W.Frag} {H : Hp} : ∀ (L : PL), PairsAt K H L → DpAll K H (refs L) (L.map fun q => dPair q.2)
  | [], _ => .nil
  | q :: r, h => .cons (.tup (h q (List.mem_cons_self ..)) (.cons (.int _) (.cons (.str _) .nil))) (dp_refs r fun x m => h x (List.mem_cons_of_mem _ m))
theorem dp_house {K : PySem.W.Frag} {H : Hp} {a : Addr} {L : PL} (h : HsAt K H a L) : Dp K H (.ref a) (dH (L.map (·.2))) := by
  refine .lst h.1 ?_
  rw [List.map_map]
  exact dp_refs L h.2
theorem okc_lt {c : Nat} (h : okc c = true) : c < 127 := by
  unfold okc at h
  simp at h
  omega
theorem let_ok {z : Str} (h : IsLet z) : PyData.strOk z = true := by
  unfold PyData.strOk
  rw [← Array.all_toList]
  refine List.all_eq_true.mpr fun c hc => ?_
  have := okc_lt (List.all_eq_true.mp h c hc)
  exact decide_eq_true (by omega)
def LetAll (h : List (Int × Str)) : Prop := ∀ q ∈ h, IsLet q.2
theorem dH_lay : ∀ {h : List (Int × Str)}, LetAll h → PyData.canLayAll0 (h.map dPair) = true
  | [], _ => rfl
  | q :: r, a => by
    rw [List.map_cons, PyData.canLayAll0, dH_lay fun x m => a x (List.mem_cons_of_mem _ m)]
    simp [dPair, PyData.canLay0, PyData.canLayAll0, let_ok (a q (List.mem_cons_self ..))]
theorem dH_deep : ∀ (h : List (Int × Str)), PyData.depthAll (h.map dPair) ≤ 1
  | [] => Nat.zero_le _
  | q :: r => by
    rw [List.map_cons, PyData.depthAll]
    have := dH_deep r
    have e : PyData.depth (dPair q) = 1 := rfl
    rw [e]
    omega
theorem dH_shaped {h : List (Int × Str)} (a : LetAll h) : SeqAt.shaped (dH h) = true := by
  unfold SeqAt.shaped
  have e1 : (dH h).canLay0 = true := dH_lay a
  have e2 : (dH h).depth ≤ 64 := by
    show PyData.depthAll (h.map dPair) + 1 ≤ 64
    have := dH_deep h
    omega
  rw [e1, decide_eq_true e2]
  rfl
theorem dH_refl {h : List (Int × Str)} (a : LetAll h) : PyData.eqv (dH h) (dH h) = true := SeqAt.eqv_refl _ (show (dH h).canLay0 = true from dH_lay a)
/-- what is told or due: a tag and a thing -/
def dT (p : Str × PyData) : PyData := .tuple [.str p.1, p.2]
theorem dT_shaped {p : Str × PyData} (h1 : PyData.strOk p.1 = true) (h2 : p.2.canLay0 = true) (h3 : p.2.depth ≤ 60) : SeqAt.shaped (dT p) = true ∧ PyData.eqv (dT p) (dT p) = true := by
  have e1 : (dT p).canLay0 = true := by
    show (PyData.strOk p.1 && (p.2.canLay0 && true)) = true
    rw [h1, h2]
    rfl
  have e2 : (dT p).depth ≤ 64 := by
    show max 0 (max p.2.depth 0) + 1 ≤ 64
    omega
  refine ⟨?_, SeqAt.eqv_refl _ e1⟩
  unfold SeqAt.shaped
  rw [e1, decide_eq_true e2]
  rfl
theorem dH_depth (h : List (Int × Str)) : (dH h).depth ≤ 60 := by
  show PyData.depthAll (h.map dPair) + 1 ≤ 60
  have := dH_deep h
  omega
theorem isTxt_let {z : Str} (h : isTxt z = true) : IsLet z := by
  unfold isTxt at h
  exact (Bool.and_eq_true_iff.mp h).2
theorem IsHs.letAll {m : Nat} {h : List (Int × Str)} (a : IsHs m h) : LetAll h := fun q hq => (a.txt q hq).1
theorem LetAll.filter {h : List (Int × Str)} (a : LetAll h) (p : Int × Str → Bool) : LetAll (h.filter p) := fun q hq => a q (List.mem_filter.mp hq).1
theorem LetAll.app {h k : List (Int × Str)} (a : LetAll h) (b : LetAll k) : LetAll (h ++ k) := fun q hq => (List.mem_append.mp hq).elim (a q) (b q)
theorem letAll_ins {n : Int} {z : Str} {h : List (Int × Str)} (a : LetAll h) (b : IsLet z) : LetAll (h.filter (fun q => decide (q.1 < n)) ++ [(n, z)] ++ h.filter (fun q => decide (n < q.1))) :=
  ((a.filter _).app fun q hq => by rw [List.mem_singleton.mp hq]; exact b).app (a.filter _)
/-! a house that is none -/
theorem chk_true : ∀ {h : List (Int × Str)} {b : Int}, chk b h = true → (h.map (·.1)).Pairwise (· < ·) ∧ (∀ q ∈ h, b < q.1 ∧ q.1 ≤ 99 ∧ isTxt q.2 = true)
  | [], _, _ => ⟨List.Pairwise.nil, fun q hq => nomatch hq⟩
  | q :: r, b, h => by
    have h' : (decide (b < q.1) && decide (q.1 ≤ 99) && isTxt q.2 && chk q.1 r) = true := h
    simp only [Bool.and_eq_true, decide_eq_true_eq] at h'
    obtain ⟨⟨⟨h1, h2⟩, h3⟩, h4⟩ := h'
    obtain ⟨i1, i2⟩ := chk_true h4
    refine ⟨?_, fun x hx => ?_⟩
    · rw [List.map_cons, List.pairwise_cons]
      refine ⟨fun y hy => ?_, i1⟩
      obtain ⟨z, hz, rfl⟩ := List.mem_map.mp hy
      exact (i2 z hz).1
    · rcases List.mem_cons.mp hx with e | m
      · rw [e]; exact ⟨h1, h2, h3⟩
      · have := i2 x m
        exact ⟨by omega, this.2⟩
theorem isH_false {h : List (Int × Str)} (no : ¬ (h.length ≤ 8 ∧ (h.map (·.1)).Pairwise (· < ·) ∧ ∀ q ∈ h, -1 < q.1 ∧ q.1 ≤ 99 ∧ isTxt q.2 = true)) : isH h = false := by
  cases e : isH h with
  | false => rfl
  | true =>
    unfold isH at e
    obtain ⟨e1, e2⟩ := Bool.and_eq_true_iff.mp e
    exact absurd ⟨of_decide_eq_true e1, chk_true e2⟩ no
/-! ### a house filtered, pair by pair -/
theorem refs_get {L : PL} {i : Nat} {x : V} (h : (refs L)[i]? = some x) : ∃ t, L[i]? = some t ∧ t ∈ L ∧ x = .ref t.1 := by
  unfold refs at h
  rw [List.getElem?_map] at h
  cases e : L[i]? with
  | none => rw [e] at h; cases h
  | some t =>
    rw [e] at h
    cases h
    exact ⟨t, rfl, List.mem_of_getElem? e, rfl⟩
theorem lc_filter {K : PySem.W.Frag} {a : Addr} {L : PL} {g : TG} {tt : TT} {te : TE} {vs : List Nat} {τ : L2.St} {H1 : Hp} {D : Addr} {Qd : Hp → Prop} (hD : H1 D = none) (hA : HsAt K H1 a L) (hl : L.length ≤ 1000) (p : Addr × Int × Str → Bool)
    (hs : ∀ (q : Addr × Int × Str) (H' : Hp) (Qn : VK) (Qf : Hp → Prop), q ∈ L → Same H1 H' → (p q = true → Qn (.ref q.1) H') → (p q = false → Qf H') →
      g (.ref q.1) (wipe τ vs) H' fun τ2 H2 => wipe τ2 vs = wipe τ vs ∧ tt τ2 H2 fun b H3 => if b = true then te τ2 H3 Qn else Qf H3)
    (hd : ∀ H, Same H1 H → H D = some (.lst (refs (L.filter p))) → Qd H) :
    ∃ W : Nat → Nat → Hp → Prop, (∃ m, W 0 m (upd H1 D (.lst []))) ∧ ∀ i m H, W i m H →
      ((Itl K a).stop i H ∧ Qd H) ∨ ((Itl K a).go i H ∧ ∃ Nx : Hp → Prop, (∀ H', Nx H' → ∃ m', m' < m ∧ W (i + 1) m' H') ∧ ∀ x H', (Itl K a).yld i H x H' → g x (wipe τ vs) H' fun τ2 H2 => wipe τ2 vs = wipe τ vs ∧ tt τ2 H2 fun b H3 =>
        if b = true then te τ2 H3 fun y H4 => ∃ acc, H4 D = some (.lst acc) ∧ acc.length < sizeLine ∧ Nx (upd H4 D (.lst (acc ++ [y]))) else Nx H3) := by
  have rl : (refs L).length = L.length := List.length_map ..
  refine lc_w (walk_list (xs := refs L)) hD (by omega) (fun H' e => e.seq hA.1) (fun i acc _ => acc = refs ((L.take i).filter p)) (fun _ _ => rfl) (fun _ _ _ _ _ _ _ r => r) (fun i H x H' y => by rw [y.1]; exact Same.refl _)
    (fun i x acc H2 H3 Qn Qf hi sm y r at_ kn kf => ?_) (fun acc H2 sm at_ _ r => ?_)
  · obtain ⟨rfl, hx⟩ := y
    obtain ⟨t, ht, tm, rfl⟩ := refs_get hx
    refine hs t _ Qn Qf tm sm (fun e => kn _ _ (Same.refl _) ?_) (fun e => kf _ (Same.refl _) ?_)
    · rw [r, List.take_add_one, ht, List.filter_append]
      show _ = refs (_ ++ [t].filter p)
      rw [List.filter_cons_of_pos e]
      unfold refs
      rw [List.map_append]
      rfl
    · rw [r, List.take_add_one, ht, List.filter_append]
      show _ = refs (_ ++ [t].filter p)
      rw [List.filter_cons_of_neg (by rw [e]; decide), List.filter_nil, List.append_nil]
  · refine hd H2 sm ?_
    rw [at_, r, List.take_of_length_le (by omega)]
theorem HsAt.filter {K : PySem.W.Frag} {H : Hp} {L : PL} (h : PairsAt K H L) (p : Addr × Int × Str → Bool) : PairsAt K H (L.filter p) := fun q hq => h q (List.mem_filter.mp hq).1
theorem map_filter (L : PL) (p : Int × Str → Bool) : (L.filter fun q => p q.2).map (·.2) = (L.map (·.2)).filter p := by
  rw [List.filter_map]
  rfl
mutual
theorem dp_same {K : PySem.W.Frag} {H H' : Hp} (e : Same H H') : ∀ {d : PyData} {v : V}, Dp K H v d → Dp K H' v d
  | .none, _, h => by cases h; exact .non
  | .bool _, _, h => by cases h; exact .bl _
  | .int _, _, h => by cases h; exact .int _
  | .str _, _, h => by cases h; exact .str _
  | .list ds, _, h => by
    cases h with
    | lst s a => exact .lst (e.seq s) (dp_all_same e a)
  | .tuple ds, _, h => by
    cases h with
    | tup s a => exact .tup (same_tup e s) (dp_all_same e a)
  | .dict _, _, h => by cases h
theorem dp_all_same {K : PySem.W.Frag} {H H' : Hp} (e : Same H H') : ∀ {ds : List PyData} {vs : List V}, DpAll K H vs ds → DpAll K H' vs ds
  | [], _, h => by cases h; exact .nil
  | d :: ds, _, h => by
    cases h with
    | cons a b => exact .cons (dp_same e a) (dp_all_same e b)
end
/-! ### slices, texts of one letter joined -/
theorem cut_to (xs : List V) (k : Nat) : cutV xs none (some (k : Int)) = xs.take k := by
  unfold cutV
  rw [HT.sIx_none, HT.sIx_nat, List.drop_zero, Nat.sub_zero]
  rcases Nat.le_total k xs.length with h | h
  · rw [Nat.min_eq_left h]
  · rw [Nat.min_eq_right h, List.take_length, List.take_of_length_le h]
theorem joinL_len : ∀ (n c : Nat), (TL.joinL [] (List.replicate n [c])).length = n
  | 0, _ => rfl
  | 1, _ => rfl
  | n + 2, c => by
    show ([c] ++ ([] ++ TL.joinL [] (List.replicate (n + 1) [c]))).length = n + 2
    rw [List.nil_append, List.length_append, joinL_len (n + 1) c]
    show 1 + (n + 1) = n + 2
    omega
theorem join_len {n c : Nat} : (Txt.join "" (List.replicate n (⟨#[c]⟩ : Str))).length = n := by
  have e : (Txt.join "" (List.replicate n (⟨#[c]⟩ : Str))).cps.toList = TL.joinL [] (List.replicate n [c]) := by
    rw [TL.join_eq]
    refine (TL.tl_join "" _).trans ?_
    rw [List.map_replicate]
    rfl
  have e2 := congrArg List.length e
  rw [joinL_len] at e2
  exact e2
theorem joinL_mem {x : Nat} : ∀ (n c : Nat), x ∈ TL.joinL [] (List.replicate n [c]) → x = c
  | 0, _, h => by cases h
  | 1, _, h => by simpa [TL.joinL] using h
  | n + 2, c, h => by
    have h' : x ∈ [c] ++ ([] ++ TL.joinL [] (List.replicate (n + 1) [c])) := h
    rw [List.nil_append] at h'
    rcases List.mem_append.mp h' with m | m
    · exact List.mem_singleton.mp m
    · exact joinL_mem (n + 1) c m
theorem join_mem {n c x : Nat} (h : x ∈ (Txt.join "" (List.replicate n (⟨#[c]⟩ : Str))).cps.toList) : x = c := by
  have e : (Txt.join "" (List.replicate n (⟨#[c]⟩ : Str))).cps.toList = TL.joinL [] (List.replicate n [c]) := by
    rw [TL.join_eq]
    refine (TL.tl_join "" _).trans ?_
    rw [List.map_replicate]
    rfl
  rw [e] at h
  exact joinL_mem n c h
theorem isTxt_long {z : Str} (h : 40 < z.length) : isTxt z = false := by
  unfold isTxt
  rw [decide_eq_false (by omega)]
  rfl
theorem isTxt_line {z : Str} (h : 10 ∈ z.cps.toList) : isTxt z = false := by
  unfold isTxt
  have : z.cps.toList.all okc = false := by
    cases e : z.cps.toList.all okc with
    | false => rfl
    | true => exact absurd (List.all_eq_true.mp e 10 h) (by decide)
  rw [this, Bool.and_false]
end SH
set_option Elab.async false
set_option linter.all false
set_option maxRecDepth 100000
set_option maxHeartbeats 4000000
/-! own classes: their methods, a new instance -/
namespace SH
open PySem PySem.Spec PyProof.Rows L2
/-- a method as it stands -/
structure DdM (K : PySem.W.Frag) (C : Addr) (m qual : Str) (st : Stmt) (ps : List Str) : Prop where
  ex : ∃ (f : Addr) (fd : FuncData), Fun K m qual st f fd ∧ Meth K C m f ∧ Binds K fd ps []
structure DdMk (K : PySem.W.Frag) (C : Addr) (m qual : Str) (st : Stmt) (ps : List Str) : Prop where
  ex : ∃ (f : Addr) (fd : FuncData), Fun K m qual st f fd ∧ Mk K C f ∧ Binds K fd ps []
/-- e.f, the frame said -/
theorem pe_fldK {X : Cx} {K : PySem.W.Frag} {e : Expr} {f : Str} {pos : Pos} {ta : TE} (he : PE X e ta) (hb : attributeBase e f X.env (eval e X.env) = eval e X.env) (h : X.K = K := by rfl) : PE X (.Attribute e f pos) (tFld K ta f) := h ▸ pe_fld he hb
theorem cr_sortedPOK {X : Cx} {K : PySem.W.Frag} (h : X.K = K := by rfl) : CallR X (.builtin "sorted") (rSortedPO K) := h ▸ cr_sortedPO
theorem pi_listK {X : Cx} {K : PySem.W.Frag} {tg e : Expr} {te : TE} (he : PE X e te) (h : X.K = K := by rfl) : PI X tg e (iList K te) := h ▸ pi_list he
section
variable {P : Program} {w : World} {K : PySem.W.Frag} {mg : Str → Option Value} {base : Heap}
theorem met_of {C : Addr} {m qual : Str} {st : Stmt} {ps N : List Str} {k : Nat} {sp : Sp} (D : DdM K C m qual st ps) (c : Cls K C) (S : FnScope N ps (defScope st)) (len : ∀ vs H Q E, sp vs H Q E → vs.length = ps.length)
    (hbody : ∀ (f : Addr) (cdv : Value) (A : Around) (outer : List Env) (s : Shared) (H : Hp) (vs : List V) (Q : VK) (E : XK), Room k (A.deeper (envOfC qual (defScope st) s.heap.objs.size f cdv)) → sp vs H Q E →
      ∃ t, PSs (cxOf CX0 P w K mg base N qual (defScope st) f cdv A outer s H E).nox (defBody st) t ∧ t { nx := fun _ H' => Q .non H', rt := Q } (start N vs) H) : C8.Met P w K mg base (k + 1) C m sp [] := by
  obtain ⟨f, fd, F, me, b⟩ := D.ex
  exact ⟨f, fd, ps, [], c, me, F.ok S len (fun cdv A outer s H vs Q E hr h => hbody f cdv A outer s H vs Q E hr h), b, .nil⟩
theorem mak_of {x : Str} {C : Addr} {m qual : Str} {st : Stmt} {ps N : List Str} {k : Nat} {sp : Sp} (D : DdMk K C m qual st ps) (hm : mg x = some (.ref C)) (S : FnScope N ps (defScope st)) (len : ∀ vs H Q E, sp vs H Q E → vs.length = ps.length)
    (hbody : ∀ (f : Addr) (cdv : Value) (A : Around) (outer : List Env) (s : Shared) (H : Hp) (vs : List V) (Q : VK) (E : XK), Room k (A.deeper (envOfC qual (defScope st) s.heap.objs.size f cdv)) → sp vs H Q E →
      ∃ t, PSs (cxOf CX0 P w K mg base N qual (defScope st) f cdv A outer s H E).nox (defBody st) t ∧ t { nx := fun _ H' => Q .non H', rt := Q } (start N vs) H) : C8.Mak P w K mg base (k + 1) x C sp [] := by
  obtain ⟨f, fd, F, me, b⟩ := D.ex
  exact ⟨f, fd, ps, [], me, F.ok S len (fun cdv A outer s H vs Q E hr h => hbody f cdv A outer s H vs Q E hr h), hm, b, .nil⟩
end
end SH
set_option Elab.async false
set_option linter.all false
set_option maxRecDepth 100000
set_option maxHeartbeats 4000000
/-! sorted(xs) of any data; triples of a text, a number and a start -/
namespace SH
open PySem PySem.Spec PyProof.Rows L2
section
variable {α : Type}
theorem each_of_vals : ∀ {Z : List (V × α)} {its : List Value}, Vals (Z.map (·.1)) its → PySem.W.EachIs (fun v z => RelV z.1 v) its Z
  | [], _, .nil => .nil
  | _ :: _, _, .cons r t => .cons r (each_of_vals t)
theorem vals_of_each : ∀ {Z : List (V × α)} {its : List Value}, PySem.W.EachIs (fun v z => RelV z.1 v) its Z → Vals (Z.map (·.1)) its
  | _, _, .nil => .nil
  | _, _, .cons r t => .cons r (vals_of_each t)
end
/-- sorted(xs): a new list of the same things, by what they read as -/
def rSortD (K : PySem.W.Frag) : List V → Hp → VK → Prop := fun vs H Q => ∃ (α : Type) (enc : α → PyData) (a : Addr) (Z : List (V × α)), vs = [.ref a] ∧ SqL K H a (Z.map (·.1)) ∧ (∀ z ∈ Z, Dp K H z.1 (enc z.2)) ∧
  PySem.W.AllAlike (Z.map fun z => enc z.2) ∧ PySem.W.Sortable (Z.map fun z => enc z.2) ∧ (∀ z ∈ Z, (enc z.2).depth ≤ 60) ∧
  ∀ p : Addr, H p = none → Q (.ref p) (upd H p (.lst ((Z.mergeSort (PySem.W.dataLe false fun z => enc z.2)).map (·.1))))
section
variable {X : Cx}
theorem cr_sortD (hu : X.A.units + 64 < cLine) : CallR X (.builtin "sorted") (rSortD X.K) := by
  intro pins s τ H vs us Q I r h
  obtain ⟨α, enc, a, Z, rfl, hA, hd, hal, hk, hdp, q⟩ := h
  obtain ⟨its, rv, hl, hz⟩ := I.list hA
  obtain ⟨u, rfl, ru⟩ := vals1 r
  obtain rfl : u = Value.ref a := ru
  rw [List.length_map] at hz
  have e := each_of_vals rv
  have er : PySem.W.EachIs (fun v z => ∃ as, Reads s.heap v (enc z.2) as) its Z := (PySem.W.each_mem e).mono fun v z h => Dp.reads I (enc z.2) z.1 v (hd z h.2) h.1
  refine PySem.W.sorted_data (enc := fun z : V × α => enc z.2) hl.isList e er hal hk hz (fun z hm => ?_) (fun out ho eo => ?_)
  · have := hdp z hm
    omega
  · obtain ⟨n, hn⟩ := sortedAll_at s.heap its out.toArray
    have hs : s.heap.objs.size ≤ s.heap.objs.size + 1 := Nat.le_succ _
    refine ⟨.ref (s.heap.objs.size + 1), upd H (s.heap.objs.size + 1) (.lst ((Z.mergeSort (PySem.W.dataLe false fun z => enc z.2)).map (·.1))), I.laid (t' := s.toks) (fun b o g => sortedAll_old g) hs ⟨?_, out, n, vals_of_each eo, hn⟩, rfl, q _ (I.hok.fresh hs)⟩
    rw [List.length_map, List.length_mergeSort]
    exact hz
theorem cr_sortDK {K : PySem.W.Frag} (hu : X.A.units + 64 < cLine) (h : X.K = K := by rfl) : CallR X (.builtin "sorted") (rSortD K) := h ▸ cr_sortD hu
end
/-! ### triples: a text, a number, a start -/
abbrev E3 := Str × Int × Int
def lex3 (p q : E3) : Prop := p.1.cps.toList < q.1.cps.toList ∨ (p.1 = q.1 ∧ (p.2.1 < q.2.1 ∨ (p.2.1 = q.2.1 ∧ p.2.2 < q.2.2)))
instance (p q : E3) : Decidable (lex3 p q) := inferInstanceAs (Decidable (_ ∨ _))
def le3 (p q : E3) : Bool := !decide (lex3 q p)
def eFlat (p : E3) : PyData := .tuple [.str p.1, .int p.2.1, .int p.2.2]
def eNest (p : E3) : PyData := .tuple [.str p.1, .tuple [.int p.2.1, .int p.2.2]]
theorem str_ext {x y : Str} (h : x.cps.toList = y.cps.toList) : x = y := by
  obtain ⟨a⟩ := x
  obtain ⟨b⟩ := y
  have : a = b := Array.toList_inj.mp h
  rw [this]
theorem lex3_irrefl (p : E3) : ¬ lex3 p p := by
  rintro (h | ⟨_, h | ⟨_, h⟩⟩)
  · exact List.lt_irrefl _ h
  · omega
  · omega
theorem lex3_tr {p q r : E3} (h : lex3 p q) (h2 : lex3 q r) : lex3 p r := by
  rcases h with h | ⟨e, h⟩ <;> rcases h2 with h2 | ⟨e2, h2⟩
  · exact .inl (List.lt_trans h h2)
  · exact .inl (e2 ▸ h)
  · exact .inl (by rw [e]; exact h2)
  · refine .inr ⟨e.trans e2, ?_⟩
    rcases h with h | ⟨f, h⟩ <;> rcases h2 with h2 | ⟨f2, h2⟩
    · exact .inl (by omega)
    · exact .inl (by omega)
    · exact .inl (by omega)
    · exact .inr ⟨by omega, by omega⟩
theorem lex3_tri {p q : E3} (h : ¬ lex3 p q) (h2 : ¬ lex3 q p) : p = q := by
  have a1 : p.1.cps.toList ≤ q.1.cps.toList := List.not_lt.mp fun z => h2 (.inl z)
  have a2 : q.1.cps.toList ≤ p.1.cps.toList := List.not_lt.mp fun z => h (.inl z)
  have a : p.1 = q.1 := str_ext (List.le_antisymm a1 a2)
  have b : p.2.1 = q.2.1 := by
    rcases Int.lt_trichotomy p.2.1 q.2.1 with z | z | z
    · exact absurd (.inr ⟨a, .inl z⟩) h
    · exact z
    · exact absurd (.inr ⟨a.symm, .inl z⟩) h2
  have c : p.2.2 = q.2.2 := by
    rcases Int.lt_trichotomy p.2.2 q.2.2 with z | z | z
    · exact absurd (.inr ⟨a, .inr ⟨b, z⟩⟩) h
    · exact z
    · exact absurd (.inr ⟨a.symm, .inr ⟨b.symm, z⟩⟩) h2
  obtain ⟨x, y, z⟩ := p
  obtain ⟨x', y', z'⟩ := q
  simp at a b c
  rw [a, b, c]
theorem le3_tr (p q r : E3) (h : le3 p q = true) (h2 : le3 q r = true) : le3 p r = true := by
  unfold le3 at *
  simp only [Bool.not_eq_true', decide_eq_false_iff_not] at *
  intro z
  by_cases c : lex3 p q
  · exact h2 (lex3_tr z c)
  · have := lex3_tri c h
    subst this
    exact h2 z
theorem le3_tot (p q : E3) : (le3 p q || le3 q p) = true := by
  unfold le3
  by_cases c : lex3 q p
  · have d : ¬ lex3 p q := fun z => lex3_irrefl _ (lex3_tr c z)
    rw [decide_eq_true c, decide_eq_false d]
    rfl
  · rw [decide_eq_false c]
    rfl
theorem eqv_str (x y : Str) : PyData.eqv (.str x) (.str y) = decide (x = y) := by
  by_cases h : x = y
  · simp [PyData.eqv, h]
  · simp [PyData.eqv, h]
theorem eqv_int (x y : Int) : PyData.eqv (.int x) (.int y) = decide (x = y) := by
  by_cases h : x = y
  · simp [PyData.eqv, h]
  · simp [PyData.eqv, h]
theorem flat_lt (p q : E3) : PySem.W.dataLt (eFlat p) (eFlat q) = decide (lex3 p q) := by
  unfold eFlat
  rw [PySem.W.dataLt_tuple, PySem.W.dataLt_cons (by simp [PySem.W.alike]), PySem.W.dataLt_cons (by simp [PySem.W.alike]), PySem.W.dataLt_cons (by simp [PySem.W.alike])]
  have e : PyProof.Rows.lexLt itemOrd (PySem.W.keyToksAll []) (PySem.W.keyToksAll []) = false := lex_irrefl _
  rw [e, eqv_str, eqv_int, eqv_int, PySem.W.dataLt_str, PySem.W.dataLt_int, PySem.W.dataLt_int]
  unfold lex3
  by_cases a : p.1 = q.1
  · have na : ¬ p.1.cps.toList < q.1.cps.toList := by rw [a]; exact List.lt_irrefl _
    by_cases b : p.2.1 = q.2.1
    · by_cases c : p.2.2 = q.2.2
      · simp [a, b, c]
      · rw [decide_eq_true a, decide_eq_true b, decide_eq_false c]
        show decide (p.2.2 < q.2.2) = _
        exact decide_eq_decide.mpr ⟨fun h => .inr ⟨a, .inr ⟨b, h⟩⟩, fun h => h.elim (fun h => absurd h na) fun h => h.2.elim (fun h => by omega) fun h => h.2⟩
    · rw [decide_eq_true a, decide_eq_false b]
      show decide (p.2.1 < q.2.1) = _
      exact decide_eq_decide.mpr ⟨fun h => .inr ⟨a, .inl h⟩, fun h => h.elim (fun h => absurd h na) fun h => h.2.elim id fun h => absurd h.1 b⟩
  · simp [a]
theorem nest_lt (p q : E3) : PySem.W.dataLt (eNest p) (eNest q) = decide (lex3 p q) := by
  unfold eNest
  rw [PySem.W.dataLt_pair (by simp [PySem.W.alike]) (by simp [PySem.W.alike, PySem.W.alikeAll]), PySem.W.dataLt_ii, PySem.W.dataLt_str, eqv_str]
  have e2 : PyData.eqv (.tuple [.int p.2.1, .int p.2.2]) (.tuple [.int q.2.1, .int q.2.2]) = decide (p.2 = q.2) := by
    obtain ⟨x, y, z⟩ := p
    obtain ⟨x', y', z'⟩ := q
    by_cases b : y = y' <;> by_cases c : z = z' <;> simp [PyData.eqv, PyData.eqvAll, b, c]
  rw [e2]
  unfold lex3
  by_cases a : p.1 = q.1
  · have na : ¬ p.1.cps.toList < q.1.cps.toList := by rw [a]; exact List.lt_irrefl _
    by_cases b : p.2 = q.2
    · simp [a, b]
    · rw [decide_eq_true a, decide_eq_false b]
      show decide (p.2.1 < q.2.1 ∨ (p.2.1 = q.2.1 ∧ p.2.2 < q.2.2)) = _
      exact decide_eq_decide.mpr ⟨fun h => .inr ⟨a, h⟩, fun h => h.elim (fun h => absurd h na) fun h => h.2⟩
  · simp [a]
theorem flat_le {β : Type} (f : β → E3) : PySem.W.dataLe false (fun b => eFlat (f b)) = fun p q => le3 (f p) (f q) := by
  funext p q
  show (!PySem.W.dataLt (eFlat (f q)) (eFlat (f p))) = _
  rw [flat_lt]
  rfl
theorem nest_le {β : Type} (f : β → E3) : PySem.W.dataLe false (fun b => eNest (f b)) = fun p q => le3 (f p) (f q) := by
  funext p q
  show (!PySem.W.dataLt (eNest (f q)) (eNest (f p))) = _
  rw [nest_lt]
  rfl
theorem flat_alike {β : Type} (f : β → E3) (bs : List β) : PySem.W.AllAlike (bs.map fun b => eFlat (f b)) := PySem.W.AllAlike.of fun b b' => by simp [eFlat, PySem.W.alike, PySem.W.alikeAll]
theorem nest_alike {β : Type} (f : β → E3) (bs : List β) : PySem.W.AllAlike (bs.map fun b => eNest (f b)) := PySem.W.AllAlike.of fun b b' => by simp [eNest, PySem.W.alike, PySem.W.alikeAll]
theorem flat_able {β : Type} (f : β → E3) (bs : List β) : PySem.W.Sortable (bs.map fun b => eFlat (f b)) := PySem.W.Sortable.tuples fun b => ⟨_, _, rfl⟩
theorem nest_able {β : Type} (f : β → E3) (bs : List β) : PySem.W.Sortable (bs.map fun b => eNest (f b)) := PySem.W.Sortable.tuples fun b => ⟨_, _, rfl⟩
theorem flat_deep (p : E3) : (eFlat p).depth ≤ 60 := by
  show max 0 (max 0 (max 0 0)) + 1 ≤ 60
  decide
theorem nest_deep (p : E3) : (eNest p).depth ≤ 60 := by
  show max 0 (max (max 0 (max 0 0) + 1) 0) + 1 ≤ 60
  decide
/-- sorted without anything twice: one list alone -/
theorem sorted3_uniq {xs ys : List E3} (hp : xs.Perm ys) (h1 : xs.Pairwise (fun p q => le3 p q = true)) (h2 : ys.Pairwise (fun p q => le3 p q = true)) : xs = ys := by
  refine hp.eq_of_pairwise (fun p q _ _ a b => ?_) h1 h2
  unfold le3 at a b
  simp only [Bool.not_eq_true', decide_eq_false_iff_not] at a b
  exact lex3_tri b a
theorem sort3_pw (xs : List E3) : (xs.mergeSort le3).Pairwise (fun p q => le3 p q = true) := List.pairwise_mergeSort (fun p q r => le3_tr p q r) (fun p q => le3_tot p q) xs
theorem sort3_map {β : Type} (f : β → E3) (bs : List β) : (bs.mergeSort fun p q => le3 (f p) (f q)).map f = (bs.map f).mergeSort le3 := by
  refine sorted3_uniq (((List.mergeSort_perm _ _).map f).trans (List.mergeSort_perm _ _).symm) ?_ (sort3_pw _)
  rw [List.pairwise_map]
  exact List.pairwise_mergeSort (le := fun p q => le3 (f p) (f q)) (fun p q r => le3_tr (f p) (f q) (f r)) (fun p q => le3_tot (f p) (f q)) bs
end SH
set_option Elab.async false
set_option linter.all false
set_option maxRecDepth 100000
set_option maxHeartbeats 4000000
/-! the ends of a house in their order, their commons -/
namespace SH
open PySem PySem.Spec PyProof.Rows L2
/-- an own loop over anything that is walked -/
theorem walk_gen {J : It} {n : Nat} {G : Hp → Prop} {Y : Nat → Hp → V → Hp → Prop} (w : Walk J n G Y) {Step : (Hp → Prop) → V → Hp → Prop} {H0 : Hp} {Qd : Hp → Prop} (Pv : Nat → Hp → Prop) (h0 : Pv 0 H0) (hG : ∀ i H, i ≤ n → Pv i H → G H)
    (hs : ∀ i x H H', i < n → Pv i H → Y i H x H' → Step (Pv (i + 1)) x H') (hd : ∀ H, Pv n H → Qd H) :
    ∃ W : Nat → Nat → Hp → Prop, (∃ m, W 0 m H0) ∧ ∀ i m H, W i m H →
      (J.stop i H ∧ Qd H) ∨ (J.go i H ∧ ∃ Nx : Hp → Prop, (∀ H', Nx H' → ∃ m', m' < m ∧ W (i + 1) m' H') ∧ ∀ x H', J.yld i H x H' → Step Nx x H') := by
  refine ⟨fun i m H => m = n - i ∧ i ≤ n ∧ Pv i H, ⟨n, by simp, Nat.zero_le _, h0⟩, ?_⟩
  rintro i m H ⟨rfl, hi, p⟩
  have q := hG i H hi p
  by_cases hlt : i < n
  · exact .inr ⟨w.goes i H hlt q, Pv (i + 1), fun H' p' => ⟨n - (i + 1), by omega, rfl, hlt, p'⟩, fun x H' y => hs i x H H' hlt p (w.yields i H x H' hlt q y)⟩
  · have e : i = n := by omega
    subst e
    exact .inl ⟨w.stops H q, hd H p⟩
/-! ### what is left of a text -/
def suf (z : Str) (s : Nat) : Str := cutS z (some (s : Int)) none
theorem suf_tl (z : Str) (s : Nat) : TL.tl (suf z s) = (TL.tl z).drop s := by
  show (z.cps.toList.drop (HT.sIx z.length 0 (some (s : Int)))).take (HT.sIx z.length z.length none - HT.sIx z.length 0 (some (s : Int))) = _
  rw [HT.sIx_nat, HT.sIx_none]
  have hl : z.cps.toList.length = z.length := rfl
  rw [List.take_of_length_le (by rw [List.length_drop, hl]; exact Nat.le_refl _)]
  rcases Nat.le_total s z.length with h | h
  · rw [Nat.min_eq_left h]
  · rw [Nat.min_eq_right h, List.drop_eq_nil_of_le (by omega)]
    exact (List.drop_eq_nil_of_le (by show z.cps.toList.length ≤ s; omega)).symm
theorem suf_len (z : Str) (s : Nat) : (suf z s).length = z.length - s := by
  have := congrArg List.length (suf_tl z s)
  rw [List.length_drop] at this
  exact this
theorem suf_let {z : Str} (h : IsLet z) (s : Nat) : IsLet (suf z s) := by
  show (TL.tl (suf z s)).all okc = true
  rw [suf_tl]
  exact List.all_eq_true.mpr fun c hc => List.all_eq_true.mp h c (List.mem_of_mem_drop hc)
/-! ### the ends -/
def endsOf (q : Int × Str) : List E3 := (List.range (q.2.length + 1)).map fun s => (suf q.2 s, q.1, (s : Int))
def ends3 (h : List (Int × Str)) : List E3 := h.flatMap endsOf
def ordE (h : List (Int × Str)) : List E3 := (ends3 h).mergeSort le3
theorem mem_endsOf {q : Int × Str} {e : E3} : e ∈ endsOf q ↔ ∃ s : Nat, s ≤ q.2.length ∧ e = (suf q.2 s, q.1, (s : Int)) := by
  unfold endsOf
  rw [List.mem_map]
  constructor
  · rintro ⟨s, hs, rfl⟩
    exact ⟨s, by have := List.mem_range.mp hs; omega, rfl⟩
  · rintro ⟨s, hs, rfl⟩
    exact ⟨s, List.mem_range.mpr (by omega), rfl⟩
theorem mem_ends3 {h : List (Int × Str)} {e : E3} : e ∈ ends3 h ↔ ∃ q ∈ h, ∃ s : Nat, s ≤ q.2.length ∧ e = (suf q.2 s, q.1, (s : Int)) := by
  unfold ends3
  rw [List.mem_flatMap]
  constructor
  · rintro ⟨q, hq, he⟩
    exact ⟨q, hq, mem_endsOf.mp he⟩
  · rintro ⟨q, hq, he⟩
    exact ⟨q, hq, mem_endsOf.mpr he⟩
theorem mem_ordE {h : List (Int × Str)} {e : E3} : e ∈ ordE h ↔ e ∈ ends3 h := (List.mergeSort_perm _ _).mem_iff
theorem endsOf_len (q : Int × Str) : (endsOf q).length = q.2.length + 1 := by
  unfold endsOf
  rw [List.length_map, List.length_range]
theorem ends3_len {m : Nat} : ∀ {h : List (Int × Str)}, (∀ q ∈ h, q.2.length ≤ m) → (ends3 h).length ≤ (m + 1) * h.length
  | [], _ => Nat.zero_le _
  | q :: r, a => by
    have e : ends3 (q :: r) = endsOf q ++ ends3 r := rfl
    rw [e, List.length_append, endsOf_len, List.length_cons, Nat.mul_add]
    have := a q (List.mem_cons_self ..)
    have := ends3_len fun x hx => a x (List.mem_cons_of_mem _ hx)
    omega
theorem ordE_len {m : Nat} {h : List (Int × Str)} (a : ∀ q ∈ h, q.2.length ≤ m) : (ordE h).length ≤ (m + 1) * h.length := by
  unfold ordE
  rw [List.length_mergeSort]
  exact ends3_len a
/-! ### commons -/
def comm : List Nat → List Nat → Nat
  | a :: x, b :: y => if a = b then comm x y + 1 else 0
  | _, _ => 0
theorem comm_le : ∀ x y : List Nat, comm x y ≤ x.length ∧ comm x y ≤ y.length
  | [], y => by unfold comm; simp
  | _ :: _, [] => by unfold comm; simp
  | a :: x, b :: y => by
    unfold comm
    have := comm_le x y
    split
    · simp only [List.length_cons]; omega
    · simp
/-- as many as are alike -/
theorem comm_at : ∀ (x y : List Nat) (i : Nat), i < comm x y → x[i]? = y[i]?
  | [], y, i, h => by simp [comm] at h
  | _ :: _, [], i, h => by simp [comm] at h
  | a :: x, b :: y, i, h => by
    unfold comm at h
    by_cases e : a = b
    · rw [if_pos e] at h
      cases i with
      | zero => simp [e]
      | succ i => simpa using comm_at x y i (by omega)
    · rw [if_neg e] at h
      omega
/-- the next ones are not -/
theorem comm_ne : ∀ (x y : List Nat) (c d : Nat), x[comm x y]? = some c → y[comm x y]? = some d → c ≠ d
  | [], y, c, d, h, _ => by simp [comm] at h
  | _ :: _, [], c, d, _, h => by simp [comm] at h
  | a :: x, b :: y, c, d, h, h2 => by
    unfold comm at h h2
    by_cases e : a = b
    · rw [if_pos e] at h h2
      exact comm_ne x y c d (by simpa using h) (by simpa using h2)
    · rw [if_neg e] at h h2
      simp at h h2
      rw [← h, ← h2]
      exact e
/-- so is the number told by these two -/
theorem comm_of {x y : List Nat} {n : Nat} (h1 : n ≤ x.length) (h2 : n ≤ y.length) (ha : ∀ i, i < n → x[i]? = y[i]?) (hn : n = x.length ∨ n = y.length ∨ x[n]? ≠ y[n]?) : comm x y = n := by
  have l := comm_le x y
  rcases Nat.lt_trichotomy (comm x y) n with h | h | h
  · exfalso
    have e1 : x[comm x y]? = some (x[comm x y]'(by omega)) := List.getElem?_eq_getElem (by omega)
    have e2 : y[comm x y]? = some (y[comm x y]'(by omega)) := List.getElem?_eq_getElem (by omega)
    have := ha _ h
    rw [e1, e2] at this
    exact comm_ne x y _ _ e1 e2 (Option.some.inj this)
  · exact h
  · exfalso
    rcases hn with e | e | e
    · omega
    · omega
    · exact e (comm_at x y n h)
def letsAt (E : List E3) (k : Nat) : List Nat := ((E[k]?).map fun e => TL.tl e.1).getD []
/-- the common of the k-th and the next -/
def cmAt (E : List E3) (k : Nat) : Int := (comm (letsAt E k) (letsAt E (k + 1)) : Nat)
def cmsE (E : List E3) : List Int := (List.range E.length).map fun k => if k = 0 then 0 else cmAt E (k - 1)
theorem cmsE_cons {E : List E3} {n : Nat} (h : E.length = n + 1) : cmsE E = 0 :: (List.range n).map (cmAt E) := by
  unfold cmsE
  rw [h, List.range_succ_eq_map, List.map_cons, List.map_map]
  rfl
theorem cmsE_len (E : List E3) : (cmsE E).length = E.length := by
  unfold cmsE
  rw [List.length_map, List.length_range]
theorem letsAt_eq {E : List E3} {k : Nat} {e : E3} (h : E[k]? = some e) : letsAt E k = TL.tl e.1 := by
  unfold letsAt
  rw [h]
  rfl
/-! ### places in the heap -/
abbrev QT := List (Addr × Int × Int)
def qrefs (R : QT) : List V := R.map fun q => V.ref q.1
def QAt (K : PySem.W.Frag) (H : Hp) (R : QT) : Prop := ∀ q ∈ R, SqT K H q.1 [.int q.2.1, .int q.2.2]
theorem QAt.same {K : PySem.W.Frag} {H H' : Hp} {R : QT} (e : Same H H') (h : QAt K H R) : QAt K H' R := fun q hq => same_tup e (h q hq)
theorem qrefs_len (R : QT) : (qrefs R).length = R.length := List.length_map ..
theorem qrefs_at {R : QT} {i : Nat} {x : V} (h : (qrefs R)[i]? = some x) : ∃ t, R[i]? = some t ∧ t ∈ R ∧ x = .ref t.1 := by
  unfold qrefs at h
  rw [List.getElem?_map] at h
  cases e : R[i]? with
  | none => rw [e] at h; cases h
  | some t =>
    rw [e] at h
    cases h
    exact ⟨t, rfl, List.mem_of_getElem? e, rfl⟩
def dP2 (q : Int × Int) : PyData := .tuple [.int q.1, .int q.2]
def dQ (l : List (Int × Int)) : PyData := .list (l.map dP2)
theorem dp_qs {K : PySem.W.Frag} {H : Hp} : ∀ (R : QT), QAt K H R → DpAll K H (qrefs R) ((R.map (·.2)).map dP2)
  | [], _ => .nil
  | q :: r, h => .cons (.tup (h q (List.mem_cons_self ..)) (.cons (.int _) (.cons (.int _) .nil))) (dp_qs r fun x m => h x (List.mem_cons_of_mem _ m))
theorem dp_q {K : PySem.W.Frag} {H : Hp} {a : Addr} {R : QT} (h : SqL K H a (qrefs R)) (hq : QAt K H R) : Dp K H (.ref a) (dQ (R.map (·.2))) := .lst h (dp_qs R hq)
theorem dQ_lay : ∀ (l : List (Int × Int)), PyData.canLayAll0 (l.map dP2) = true
  | [] => rfl
  | q :: r => by
    rw [List.map_cons, PyData.canLayAll0, dQ_lay r]
    simp [dP2, PyData.canLay0, PyData.canLayAll0]
theorem dQ_deep : ∀ (l : List (Int × Int)), PyData.depthAll (l.map dP2) ≤ 1
  | [] => Nat.zero_le _
  | q :: r => by
    rw [List.map_cons, PyData.depthAll]
    have := dQ_deep r
    have e : PyData.depth (dP2 q) = 1 := rfl
    rw [e]
    omega
theorem shaped_of {d : PyData} (h : d.canLay0 = true) (h2 : d.depth ≤ 64) : SeqAt.shaped d = true := by
  unfold SeqAt.shaped
  rw [h, decide_eq_true h2]
  rfl
theorem dQ_shaped (l : List (Int × Int)) : SeqAt.shaped (dQ l) = true := shaped_of (dQ_lay l) (by
  show PyData.depthAll (l.map dP2) + 1 ≤ 64
  have := dQ_deep l
  omega)
theorem dQ_refl (l : List (Int × Int)) : PyData.eqv (dQ l) (dQ l) = true := SeqAt.eqv_refl _ (show (dQ l).canLay0 = true from dQ_lay l)
/-! lists of numbers as data -/
def dI (l : List Int) : PyData := .list (l.map .int)
theorem dp_is {K : PySem.W.Frag} {H : Hp} : ∀ (l : List Int), DpAll K H (l.map V.int) (l.map PyData.int)
  | [] => .nil
  | _ :: r => .cons (.int _) (dp_is r)
theorem dp_i {K : PySem.W.Frag} {H : Hp} {a : Addr} {l : List Int} (h : SqL K H a (l.map V.int)) : Dp K H (.ref a) (dI l) := .lst h (dp_is l)
theorem dI_lay : ∀ (l : List Int), PyData.canLayAll0 (l.map PyData.int) = true
  | [] => rfl
  | q :: r => by
    rw [List.map_cons, PyData.canLayAll0, dI_lay r]
    simp [PyData.canLay0]
theorem dI_shaped (l : List Int) : SeqAt.shaped (dI l) = true := shaped_of (dI_lay l) (by
  show PyData.depthAll (l.map PyData.int) + 1 ≤ 64
  rw [PySem.W.depth_ints]
  decide)
theorem dI_refl (l : List Int) : PyData.eqv (dI l) (dI l) = true := SeqAt.eqv_refl _ (show (dI l).canLay0 = true from dI_lay l)
/-! ### triples in the heap, flat and nested -/
abbrev FT := List (Addr × E3)
def frefs (Z : FT) : List V := Z.map fun z => V.ref z.1
def FAt (H : Hp) (Z : FT) : Prop := ∀ z ∈ Z, H z.1 = some (.tup [.str z.2.1, .int z.2.2.1, .int z.2.2.2])
abbrev NT3 := List (Addr × Addr × E3)
def nrefs (Z : NT3) : List V := Z.map fun z => V.ref z.1
def NAt (H : Hp) (Z : NT3) : Prop := ∀ z ∈ Z, H z.1 = some (.tup [.str z.2.2.1, .ref z.2.1]) ∧ H z.2.1 = some (.tup [.int z.2.2.2.1, .int z.2.2.2.2])
theorem FAt.same {H H' : Hp} {Z : FT} (e : Same H H') (h : FAt H Z) : FAt H' Z := fun z m => e _ _ (h z m)
theorem NAt.same {H H' : Hp} {Z : NT3} (e : Same H H') (h : NAt H Z) : NAt H' Z := fun z m => ⟨e _ _ (h z m).1, e _ _ (h z m).2⟩
theorem FAt.snoc {H : Hp} {Z : FT} {z : Addr × E3} (h : FAt H Z) (hz : H z.1 = some (.tup [.str z.2.1, .int z.2.2.1, .int z.2.2.2])) : FAt H (Z ++ [z]) := fun y hy => by
  rcases List.mem_append.mp hy with m | m
  · exact h y m
  · rw [List.mem_singleton.mp m]; exact hz
theorem NAt.snoc {H : Hp} {Z : NT3} {z : Addr × Addr × E3} (h : NAt H Z) (hz : H z.1 = some (.tup [.str z.2.2.1, .ref z.2.1]) ∧ H z.2.1 = some (.tup [.int z.2.2.2.1, .int z.2.2.2.2])) : NAt H (Z ++ [z]) := fun y hy => by
  rcases List.mem_append.mp hy with m | m
  · exact h y m
  · rw [List.mem_singleton.mp m]; exact hz
/-- a list that is written lies apart from what the tuples are -/
theorem FAt.put {H : Hp} {Z : FT} {D : Addr} {l : List V} {o : HO} (h : FAt H Z) (hD : H D = some (.lst l)) : FAt (upd H D o) Z := fun z m => by
  have := h z m
  rw [upd_ne (fun e => by rw [e, hD] at this; cases this)]
  exact this
theorem NAt.put {H : Hp} {Z : NT3} {D : Addr} {l : List V} {o : HO} (h : NAt H Z) (hD : H D = some (.lst l)) : NAt (upd H D o) Z := fun z m => by
  have := h z m
  rw [upd_ne (fun e => by rw [e, hD] at this; cases this.1), upd_ne (fun e => by rw [e, hD] at this; cases this.2)]
  exact this
theorem QAt.put {K : PySem.W.Frag} {H : Hp} {R : QT} {D : Addr} {l : List V} {o : HO} (h : QAt K H R) (hD : H D = some (.lst l)) : QAt K (upd H D o) R := fun z m => but_tup (l := l) hD but_upd (h z m)
theorem sort_flat (Z : FT) : ((Z.map fun z => (V.ref z.1, z.2)).mergeSort (PySem.W.dataLe false fun z => eFlat z.2)).map (·.1) = frefs (Z.mergeSort fun p q => le3 p.2 q.2) := by
  rw [flat_le (β := V × E3) (fun z => z.2), ← List.map_mergeSort (l := Z) (f := fun z : Addr × E3 => (V.ref z.1, z.2)) (r := fun p q : Addr × E3 => le3 p.2 q.2) (s := fun p q : V × E3 => le3 p.2 q.2) (fun _ _ _ _ => rfl), List.map_map]
  rfl
theorem sort_nest (Z : NT3) : ((Z.map fun z => (V.ref z.1, z.2.2)).mergeSort (PySem.W.dataLe false fun z => eNest z.2)).map (·.1) = nrefs (Z.mergeSort fun p q => le3 p.2.2 q.2.2) := by
  rw [nest_le (β := V × E3) (fun z => z.2), ← List.map_mergeSort (l := Z) (f := fun z : Addr × Addr × E3 => (V.ref z.1, z.2.2)) (r := fun p q : Addr × Addr × E3 => le3 p.2.2 q.2.2) (s := fun p q : V × E3 => le3 p.2 q.2) (fun _ _ _ _ => rfl), List.map_map]
  rfl
theorem ends3_snoc (h : List (Int × Str)) (q : Int × Str) : ends3 (h ++ [q]) = ends3 h ++ endsOf q := by
  unfold ends3
  rw [List.flatMap_append]
  simp
theorem take_snoc {α : Type} {l : List α} {i : Nat} {x : α} (h : l[i]? = some x) : l.take (i + 1) = l.take i ++ [x] := by
  rw [List.take_add_one, h]
  rfl
theorem endsOf_at {q : Int × Str} {s : Nat} (h : s ≤ q.2.length) : (endsOf q)[s]? = some (suf q.2 s, q.1, (s : Int)) := by
  unfold endsOf
  rw [List.getElem?_map, List.getElem?_range (by omega)]
  rfl
/-- the order: a new list of new pairs -/
def spOrder (K : PySem.W.Frag) : Sp := fun vs H Q _ => ∃ (a : Addr) (L : PL), vs = [.ref a] ∧ HsAt K H a L ∧ L.length ≤ 500 ∧ (∀ q ∈ L, q.2.2.length ≤ 100) ∧
  ∀ (l : Addr) (R : QT) (H' : Hp), Same H H' → H l = none → H' l = some (.lst (qrefs R)) → QAt K H' R → R.map (·.2) = (ordE (L.map (·.2))).map (·.2) → Q (.ref l) H'
end SH
set_option Elab.async false
set_option linter.all false
set_option maxRecDepth 100000
set_option maxHeartbeats 4000000
/-! a house as a dict; slices of lists -/
namespace SH
open PySem PySem.Spec PyProof.Rows L2
namespace Dct
theorem valV_merge_out {k : Key} : ∀ (more acc : List (Key × V)), k ∉ more.map (·.1) → valV (mergeK acc more) k = valV acc k
  | [], _, _ => rfl
  | x :: r, acc, h => by
    rw [List.map_cons, List.mem_cons] at h
    show valV (mergeK (putK acc x.1 x.2) r) k = _
    rw [valV_merge_out r _ (fun z => h (.inr z)), valV_put, if_neg (fun z => h (.inl z))]
theorem valV_merge_in {k : Key} {v : V} : ∀ (more acc : List (Key × V)), (more.map (·.1)).Nodup → (k, v) ∈ more → valV (mergeK acc more) k = some v
  | x :: r, acc, nd, h => by
    rw [List.map_cons, List.nodup_cons] at nd
    show valV (mergeK (putK acc x.1 x.2) r) k = _
    rcases List.mem_cons.mp h with e | m
    · rw [← e] at nd ⊢
      rw [valV_merge_out r _ nd.1, valV_put, if_pos rfl]
    · exact valV_merge_in r _ nd.2 m
theorem take_drop_cut {z : Str} {a b : Nat} (h1 : a ≤ b) (h2 : b ≤ z.length) : TL.tl (cutS z (some (a : Int)) (some (b : Int))) = ((TL.tl z).take b).drop a := by
  show (z.cps.toList.drop (HT.sIx z.length 0 (some (a : Int)))).take (HT.sIx z.length z.length (some (b : Int)) - HT.sIx z.length 0 (some (a : Int))) = _
  rw [HT.sIx_nat, HT.sIx_nat, Nat.min_eq_left h2, Nat.min_eq_left (Nat.le_trans h1 h2), List.drop_take]
theorem paired_house {K : PySem.W.Frag} {H : Hp} : ∀ {L : PL}, PairsAt K H L → Paired (fun p (kv : Key × V) => SqT K H p [kV kv.1, kv.2]) (L.map (·.1)) (L.map fun q => ((Sum.inl q.2.1 : Key), V.str q.2.2))
  | [], _ => .nil
  | q :: r, h => .cons (h q (List.mem_cons_self ..)) (paired_house fun x m => h x (List.mem_cons_of_mem _ m))

theorem house_get {L : PL} (asc : ((L.map (·.2)).map (·.1)).Pairwise (· < ·)) {n : Int} {z : Str} (h : (n, z) ∈ L.map (·.2)) : valV (mergeK [] (L.map fun q => ((Sum.inl q.2.1 : Key), V.str q.2.2))) (.inl n) = some (.str z) := by
  obtain ⟨q, hq, e⟩ := List.mem_map.mp h
  have e1 : q.2.1 = n := congrArg Prod.fst e
  have e2 : q.2.2 = z := congrArg Prod.snd e
  subst e1 e2
  refine valV_merge_in _ _ ?_ (List.mem_map.mpr ⟨q, hq, rfl⟩)
  rw [List.map_map]
  rw [List.map_map, List.pairwise_map] at asc
  rw [List.Nodup, List.pairwise_map]
  exact asc.imp fun h e => by
    have h : _ < _ := h
    have := Sum.inl.inj e
    simp only [Function.comp] at h
    omega
theorem cut_from (xs : List V) (k : Nat) : cutV xs (some (k : Int)) none = xs.drop k := by
  unfold cutV
  rw [HT.sIx_nat, HT.sIx_none]
  rcases Nat.le_total k xs.length with h | h
  · rw [Nat.min_eq_left h, List.take_of_length_le (by rw [List.length_drop]; exact Nat.le_refl _)]
  · rw [Nat.min_eq_right h, Nat.sub_self, List.take_zero, List.drop_eq_nil_of_le h]
end Dct
end SH
set_option Elab.async false
set_option linter.all false
set_option maxRecDepth 100000
set_option maxHeartbeats 4000000
/-! the text with a number; an end told by its number and start -/
namespace SH
open PySem PySem.Spec PyProof.Rows L2
theorem refs_len (L : PL) : (refs L).length = L.length := List.length_map ..
def lk (n : Int) : List (Int × Str) → Option Str
  | [] => none
  | q :: r => if q.1 = n then some q.2 else lk n r
theorem lk_mem {n : Int} {z : Str} : ∀ {h : List (Int × Str)}, lk n h = some z → (n, z) ∈ h
  | q :: r, e => by
    unfold lk at e
    by_cases c : q.1 = n
    · rw [if_pos c] at e
      have e := Option.some.inj e
      obtain ⟨a, b⟩ := q
      subst c e
      exact List.mem_cons_self ..
    · rw [if_neg c] at e
      exact List.mem_cons_of_mem _ (lk_mem e)
theorem lk_none {n : Int} : ∀ {h : List (Int × Str)}, lk n h = none → n ∉ h.map (·.1)
  | [], _ => by simp
  | q :: r, e => by
    unfold lk at e
    by_cases c : q.1 = n
    · rw [if_pos c] at e
      cases e
    · rw [if_neg c] at e
      rw [List.map_cons, List.mem_cons, not_or]
      exact ⟨fun z => c z.symm, lk_none e⟩
theorem lk_of {n : Int} {z : Str} : ∀ {h : List (Int × Str)}, (h.map (·.1)).Pairwise (· < ·) → (n, z) ∈ h → lk n h = some z
  | q :: r, asc, m => by
    rw [List.map_cons, List.pairwise_cons] at asc
    unfold lk
    rcases List.mem_cons.mp m with e | m
    · rw [← e, if_pos rfl]
    · have := asc.1 n (List.mem_map.mpr ⟨_, m, rfl⟩)
      rw [if_neg (by omega)]
      exact lk_of asc.2 m
theorem lk_no {n : Int} {h : List (Int × Str)} (m : n ∉ h.map (·.1)) : lk n h = none := by
  cases e : lk n h with
  | none => rfl
  | some z => exact absurd (List.mem_map.mpr ⟨_, lk_mem e, rfl⟩) m
/-- dict(house) at a number -/
theorem lk_val {L : PL} (asc : ((L.map (·.2)).map (·.1)).Pairwise (· < ·)) (n : Int) : valV (mergeK [] (L.map fun q => ((Sum.inl q.2.1 : Key), V.str q.2.2))) (.inl n) = (lk n (L.map (·.2))).map V.str := by
  cases e : lk n (L.map (·.2)) with
  | some z => exact Dct.house_get asc (lk_mem e)
  | none =>
    rw [Dct.valV_merge_out _ _ (fun z => ?_)]
    · rfl
    · rw [List.map_map] at z
      obtain ⟨q, hq, e2⟩ := List.mem_map.mp z
      refine lk_none e ?_
      rw [List.map_map]
      exact List.mem_map.mpr ⟨q, hq, Sum.inl.inj e2⟩
/-- the letters of an end -/
def endS (h : List (Int × Str)) (n s : Int) : Option Str :=
  match lk n h with
  | none => none
  | some z => if 0 ≤ s ∧ s ≤ (z.length : Int) then some (suf z s.toNat) else none
theorem endS_some {h : List (Int × Str)} {n s : Int} {x : Str} (e : endS h n s = some x) : ∃ z, lk n h = some z ∧ 0 ≤ s ∧ s ≤ (z.length : Int) ∧ x = suf z s.toNat := by
  unfold endS at e
  cases c : lk n h with
  | none => rw [c] at e; cases e
  | some z =>
    rw [c] at e
    by_cases d : 0 ≤ s ∧ s ≤ (z.length : Int)
    · have e : (if 0 ≤ s ∧ s ≤ (z.length : Int) then some (suf z s.toNat) else none) = some x := e
      rw [if_pos d] at e
      exact ⟨z, rfl, d.1, d.2, (Option.some.inj e).symm⟩
    · have e : (if 0 ≤ s ∧ s ≤ (z.length : Int) then some (suf z s.toNat) else none) = some x := e
      rw [if_neg d] at e
      cases e
theorem endS_of {h : List (Int × Str)} {n s : Int} {z : Str} (e : lk n h = some z) (d : 0 ≤ s ∧ s ≤ (z.length : Int)) : endS h n s = some (suf z s.toNat) := by
  unfold endS
  rw [e]
  exact if_pos d
theorem endS_out {h : List (Int × Str)} {n s : Int} {z : Str} (e : lk n h = some z) (d : ¬ (0 ≤ s ∧ s ≤ (z.length : Int))) : endS h n s = none := by
  unfold endS
  rw [e]
  exact if_neg d
theorem endS_no {h : List (Int × Str)} {n s : Int} (e : lk n h = none) : endS h n s = none := by
  unfold endS
  rw [e]
/-- an error of the class at C with this number leaves -/
def Errs (E : XK) (H : Hp) (C : Addr) (n : Int) : Prop := ∀ (d : Addr) (H2 : Hp), Same H H2 → H d = none → H2 d = some (.xd [(("at" : Str), .int n)]) → E (.ref C) (some d) H2
theorem Errs.same {E : XK} {H H' : Hp} {C : Addr} {n : Int} (s : Same H H') (h : Errs E H C n) : Errs E H' C n := fun d H2 s2 nd e => h d H2 (s.trans s2) (s.free nd) e
end SH
set_option Elab.async false
set_option linter.all false
set_option maxRecDepth 100000
set_option maxHeartbeats 4000000
/-! tuples of data -/
namespace SH
open PySem PySem.Spec PyProof.Rows L2
def Okd (d : PyData) : Prop := d.canLay0 = true ∧ d.depth ≤ 60
theorem okd_int (n : Int) : Okd (.int n) := ⟨rfl, Nat.zero_le _⟩
theorem okd_str {z : Str} (h : PyData.strOk z = true) : Okd (.str z) := ⟨h, Nat.zero_le _⟩
theorem okd_non : Okd .none := ⟨rfl, Nat.zero_le _⟩
theorem okd_bool (b : Bool) : Okd (.bool b) := ⟨rfl, Nat.zero_le _⟩
theorem okd_H {h : List (Int × Str)} (a : LetAll h) : Okd (dH h) := ⟨dH_lay a, dH_depth h⟩
theorem okd_Q (l : List (Int × Int)) : Okd (dQ l) := ⟨dQ_lay l, by show PyData.depthAll (l.map dP2) + 1 ≤ 60; have := dQ_deep l; omega⟩
theorem okd_I (l : List Int) : Okd (dI l) := ⟨dI_lay l, by show PyData.depthAll (l.map PyData.int) + 1 ≤ 60; rw [PySem.W.depth_ints]; decide⟩
theorem okd_P2 (q : Int × Int) : Okd (dP2 q) := ⟨rfl, by show 1 ≤ 60; decide⟩
/-- data are equal to themselves -/
theorem okd_sh {d : PyData} (h : Okd d) : SeqAt.shaped d = true ∧ PyData.eqv d d = true := ⟨shaped_of h.1 (by have := h.2; omega), SeqAt.eqv_refl _ h.1⟩
theorem dp_p2 {K : PySem.W.Frag} {H : Hp} {t : Addr} {n m : Int} (h : H t = some (.tup [.int n, .int m])) : Dp K H (.ref t) (dP2 (n, m)) := .tup (.inl (.inl h)) (.cons (.int _) (.cons (.int _) .nil))
theorem lay_all : ∀ {ds : List PyData}, (∀ d ∈ ds, d.canLay0 = true) → PyData.canLayAll0 ds = true
  | [], _ => rfl
  | d :: r, h => by
    rw [PyData.canLayAll0, h d (List.mem_cons_self ..), lay_all fun x m => h x (List.mem_cons_of_mem _ m)]
    rfl
theorem deep_all {n : Nat} : ∀ {ds : List PyData}, (∀ d ∈ ds, d.depth ≤ n) → PyData.depthAll ds ≤ n
  | [], _ => Nat.zero_le _
  | d :: r, h => by
    rw [PyData.depthAll]
    have := h d (List.mem_cons_self ..)
    have := deep_all fun x m => h x (List.mem_cons_of_mem _ m)
    omega
theorem okd_tup {ds : List PyData} (h : ∀ d ∈ ds, d.canLay0 = true) (h2 : ∀ d ∈ ds, d.depth ≤ 59) : Okd (.tuple ds) := ⟨lay_all h, by
  show PyData.depthAll ds + 1 ≤ 60
  have := deep_all h2
  omega⟩
theorem okd_list {ds : List PyData} (h : ∀ d ∈ ds, d.canLay0 = true) (h2 : ∀ d ∈ ds, d.depth ≤ 59) : Okd (.list ds) := ⟨lay_all h, by
  show PyData.depthAll ds + 1 ≤ 60
  have := deep_all h2
  omega⟩
theorem dH_d (h : List (Int × Str)) : (dH h).depth ≤ 2 := by
  show PyData.depthAll (h.map dPair) + 1 ≤ 2
  have := dH_deep h
  omega
theorem dQ_d (l : List (Int × Int)) : (dQ l).depth ≤ 2 := by
  show PyData.depthAll (l.map dP2) + 1 ≤ 2
  have := dQ_deep l
  omega
theorem dI_d (l : List Int) : (dI l).depth ≤ 1 := by
  show PyData.depthAll (l.map PyData.int) + 1 ≤ 1
  rw [PySem.W.depth_ints]
  decide
/-- a tuple of a house and its order -/
theorem okd_HQ {h : List (Int × Str)} (a : LetAll h) (l : List (Int × Int)) : Okd (.tuple [dH h, dQ l]) := okd_tup (fun d m => by
  simp only [List.mem_cons, List.not_mem_nil, or_false] at m
  rcases m with rfl | rfl
  · exact dH_lay a
  · exact dQ_lay l) fun d m => by
  simp only [List.mem_cons, List.not_mem_nil, or_false] at m
  rcases m with rfl | rfl
  · exact Nat.le_trans (dH_d h) (by decide)
  · exact Nat.le_trans (dQ_d l) (by decide)
theorem okd_HQI {h : List (Int × Str)} (a : LetAll h) (l : List (Int × Int)) (c : List Int) : Okd (.tuple [dH h, dQ l, dI c]) := okd_tup (fun d m => by
  simp only [List.mem_cons, List.not_mem_nil, or_false] at m
  rcases m with rfl | rfl | rfl
  · exact dH_lay a
  · exact dQ_lay l
  · exact dI_lay c) fun d m => by
  simp only [List.mem_cons, List.not_mem_nil, or_false] at m
  rcases m with rfl | rfl | rfl
  · exact Nat.le_trans (dH_d h) (by decide)
  · exact Nat.le_trans (dQ_d l) (by decide)
  · exact Nat.le_trans (dI_d c) (by decide)
end SH
set_option Elab.async false
set_option linter.all false
set_option maxRecDepth 100000
set_option maxHeartbeats 4000000
/-! list(range(a, b, c)); a text backwards -/
namespace SH
open PySem PySem.Spec PyProof.Rows L2
def rgC (a c : Int) (n : Nat) : List V := (List.range n).map fun i => V.int (a + (i : Nat) * c)
theorem vals_rgC {a c : Int} {n : Nat} {acc : Array Value} (h : ItemsOf (fun i v => ∃ t, v = .int (a + i * c) t) acc n) : Vals (rgC a c n) acc.toList := by
  have e : acc.toList.length = n := by rw [Array.length_toList]; exact h.1
  unfold rgC
  rw [← e]
  refine vals_of_get acc.toList _ fun j u hj => ?_
  obtain ⟨t, rfl⟩ := h.2 j u (by rw [← hj, Array.getElem?_toList])
  exact ⟨t, rfl⟩
section
variable {X : Cx}
def tLstRg3 (ta : TA) : TE := fun σ H Q => ta σ H fun vs H1 => ∃ (i j c : Int) (n : Nat), vs = [.int i, .int j, .int c] ∧ RgC i j c n ∧ n ≤ 2 ^ 24 ∧ ∀ q, H1 q = none → Q (.ref q) (upd H1 q (.lst (rgC i c n)))
theorem pe_listRg3 {a b c : Expr} {ta : TA} {p pos p2 pos2 : Pos} (hc : X.calm = true) (hg : Gl X "list") (hm : X.mg "list" = none) (hg2 : Gl X "range") (hm2 : X.mg "range" = none) (ha : PA X [a, b, c] ta)
    (na : starEach [.Call (.Name "range" p) [a, b, c] [] pos] X.env = (false, eval (.Call (.Name "range" p) [a, b, c] [] pos) X.env) :: starEach [] X.env := by rfl)
    (hs : starEach [a, b, c] X.env = (false, eval a X.env) :: starEach [b, c] X.env := by rfl) (hpl : (backTo pos (starEach [b, c] X.env)).any (·.1) = false := by rfl) :
    PE X (.Call (.Name "list" p2) [.Call (.Name "range" p) [a, b, c] [] pos] [] pos2) (tLstRg3 ta) := by
  refine ⟨fun pins s σ H Q I h => ?_⟩
  have he : wpAny (model X.prog X.w) X.A (eval (.Call (.Name "range" p) [a, b, c] [] pos) X.env) (fun x s' => ∃ r i j k n t u v H', x = .ref r ∧ IsRange s'.heap r i j k t u v ∧ Inv X pins σ H' s' ∧ RgC i j k n ∧ n ≤ 2 ^ 24 ∧ ∀ q, H' q = none → Q (.ref q) (upd H' q (.lst (rgC i k n)))) X.xe s := by
    refine Call_ (ld_blt I hg2 hm2 boot_range (PyProof.Rows.callWith_type1 (thn (ha.run pos pins s σ H _ I h) fun us s1 ⟨vs, H1, I1, r1, q1⟩ => ?_) hs hpl))
    obtain ⟨i, j, k, n, e, ok, hn, q⟩ := q1
    obtain ⟨c0, c1, c2, c3⟩ := id ok
    subst e
    cases r1 with
    | cons r rr =>
      cases rr with
      | cons r' rr =>
        cases rr with
        | cons r'' rr =>
          cases rr
          obtain ⟨t, rfl⟩ := r
          obtain ⟨t', rfl⟩ := r'
          obtain ⟨t'', rfl⟩ := r''
          refine call_range_3 c0 ?_ (.inl (PyProof.noPylong_small c1))
          exact ⟨_, i, j, k, n, _, _, _, H1, rfl, IsRange.new _ _ _ _ _ _ _, I1.kept (t' := s1.toks) fun b o e => Heap.get?_push_of_some _ e, ok, hn, q⟩
  refine Call_ (ld_blt I hg hm boot_list (PyProof.Rows.callWith_type1 (args_cons (thn he fun x s1 ⟨r, i, j, k, n, t, u, v, H1, ex, hr, I1, ok, hn, q⟩ => args_nil ?_) na) na))
  subst ex
  obtain ⟨c0, c1, c2, c3⟩ := ok
  refine call_list_range (n := n) (I1.ok.hd hc) hr c2 c3 hn fun h' tk acc c' hk e' hi => ?_
  refine ⟨.ref s1.heap.objs.size, upd H1 s1.heap.objs.size (.lst (rgC i k n)), I1.laid hk (Nat.le_refl _) (show ObjOk X.prog X.w _ _ _ (.lst (rgC i k n)) from ⟨?_, acc.toList, c', vals_rgC hi, ?_⟩), rfl, q _ (I1.hok.fresh (Nat.le_refl _))⟩
  · unfold rgC
    rw [List.length_map, List.length_range, sizeLine_eq]
    exact hn
  · rw [Array.toArray_toList]; exact e'
/-- a text backwards -/
def revS (z : Str) : Str := ⟨z.cps.toList.reverse.toArray⟩
theorem revS_tl (z : Str) : TL.tl (revS z) = (TL.tl z).reverse := rfl
def tRevS (te : TE) : TE := fun σ H Q => te σ H fun x H1 => ∃ z : Str, x = .str z ∧ z.length ≤ sizeLine ∧ Q (.str (revS z)) H1
theorem krs_pick (z : Str) : ((Builtin.Str.strSliceIndices none none (-1) z.length).filterMap (z.cps[·]?)).toArray = z.cps.toList.reverse.toArray := by
  have e : Builtin.Str.strSliceIndices none none (-1) z.length = (List.range z.length).map fun k => z.length - 1 - k := PySem.W.krv_sliceRange z.length
  rw [e, PySem.W.krv_range, List.filterMap_reverse]
  show ((List.filterMap (z.cps[·]?) (List.range z.cps.size)).reverse).toArray = _
  rw [PySem.W.krv_all]
theorem pe_revS {e : Expr} {te : TE} {k : Nat} {p1 p2 p3 pos : Pos} (he : PE X e te) : PE X (.Subscript e (.Slice none none (some (.UnaryOp .USub (.Constant (.int 1) k p1) p2)) p3) pos) (tRevS te) := by
  refine ⟨fun pins s σ H Q I h => ?_⟩
  refine Subscript_ (thn (he.run pins s σ H _ I h) fun v s1 ⟨x, H1, I1, r1, q1⟩ => ?_)
  obtain ⟨z, ex, hz, q⟩ := q1
  subst ex
  obtain ⟨t, rfl⟩ := r1
  have hst : PO X (some (.UnaryOp .USub (.Constant (.int 1) k p1) p2)) (tPart (tUn (rU fun i => .int (-i)) (tC (.int 1)))) := po_some (pe_un un_neg pe_int)
  refine wpAny_Slice (thn (po_none.run pins s1 σ H1 (fun o H2 => o = none ∧ H2 = H1) I1 ⟨rfl, rfl⟩) fun vl s2 ⟨l, H2, I2, pl, el, e2⟩ => ?_)
  subst el e2
  refine thn (po_none.run pins s2 σ H2 (fun o H3 => o = none ∧ H3 = H2) I2 ⟨rfl, rfl⟩) fun vu s3 ⟨u, H3, I3, pu, eu, e3⟩ => ?_
  subst eu e3
  refine thn (hst.run pins s3 σ H3 (fun o H4 => o = some (-1) ∧ H4 = H3) I3 ⟨1, rfl, -1, rfl, rfl, rfl⟩) fun vs s4 ⟨o, H4, I4, ps, eo, e4⟩ => ?_
  subst eo e4
  have I5 : Inv X pins σ H4 { s4 with heap := s4.heap.push { cls := .type "slice", data := .fields #[vl, vu, vs] } } := I4.kept (t' := s4.toks) fun b ob q => Heap.get?_push_of_some _ q
  obtain ⟨l, rfl, el⟩ := IsPart.raw pl
  obtain ⟨u, rfl, eu⟩ := IsPart.raw pu
  obtain ⟨st, rfl, es⟩ := IsPart.raw ps
  have hS := Heap.IsSliceOf.new s4.heap (partValue l) (partValue u) (partValue st)
  obtain ⟨os, hos, hcs, hds⟩ := hS
  show wpAny (model X.prog X.w) X.A (subscriptTail e (.Slice none none (some (.UnaryOp .USub (.Constant (.int 1) k p1) p2)) p3) (.str z t) (.ref s4.heap.objs.size)) (EP X pins σ Q) X.xe { s4 with heap := s4.heap.push { cls := .type "slice", data := .fields #[partValue l, partValue u, partValue st] } }
  refine tail_any (ops := [.str z t, .ref s4.heap.objs.size]) (typeIs_str _ _ _) (F.slot_str_getitem.lookup) ?_ (by with_unfolding_all rfl)
  have es1 : (st.map (·.1)) = some (-1) := es
  refine wpAny_getItem_str_slice (l := l) (u := u) (st := st) ⟨os, hos, hcs, hds⟩ (by rw [es1]; rfl) ?_
  unfold sliceMade slicePicked
  rw [es1, el, eu]
  have hne : ¬ (((some (-1 : Int)).getD 1 == 1 && (Builtin.Str.strSliceIndices none none ((some (-1 : Int)).getD 1) z.length).length == z.length) = true) := by
    rw [show ((some (-1 : Int)).getD 1 == 1) = false from rfl, Bool.false_and]
    exact Bool.false_ne_true
  rw [if_neg hne]
  have e3 : ((Builtin.Str.strSliceIndices none none ((some (-1 : Int)).getD 1) z.length).filterMap (z.cps[·]?)).toArray = z.cps.toList.reverse.toArray := krs_pick z
  rw [e3]
  refine ⟨?_, .str (revS z), H4, I5.tok _, ⟨_, rfl⟩, q⟩
  show z.cps.toList.reverse.toArray.size ≤ sizeLine
  rw [List.size_toArray, List.length_reverse]
  exact hz
theorem pe_revLK {K : PySem.W.Frag} {e : Expr} {te : TE} {k : Nat} {p1 p2 p3 pos : Pos} (he : PE X e te) (h : X.K = K := by rfl) : PE X (.Subscript e (.Slice none none (some (.UnaryOp .USub (.Constant (.int 1) k p1) p2)) p3) pos) (tRevL K te) := h ▸ pe_revL he
end
end SH
set_option Elab.async false
set_option linter.all false
set_option maxRecDepth 100000
set_option maxHeartbeats 4000000
/-! slices of texts as lists of signs; letters joined -/
namespace SH
open PySem PySem.Spec PyProof.Rows L2
theorem tlen (z : Str) : (TL.tl z).length = z.length := (TL.len_tl z).symm
theorem cuts_take (z : Str) (k : Nat) : TL.tl (cutS z none (some (k : Int))) = (TL.tl z).take k := by
  show (z.cps.toList.drop (HT.sIx z.length 0 none)).take (HT.sIx z.length z.length (some (k : Int)) - HT.sIx z.length 0 none) = _
  rw [HT.sIx_none, HT.sIx_nat, List.drop_zero, Nat.sub_zero]
  have hz : z.cps.toList.length = z.length := rfl
  rcases Nat.le_total k z.length with h | h
  · rw [Nat.min_eq_left h]
  · rw [Nat.min_eq_right h, List.take_of_length_le (by rw [hz]; exact Nat.le_refl _)]
    exact (List.take_of_length_le (by rw [tlen]; exact h)).symm
theorem cuts_drop (z : Str) (k : Nat) : TL.tl (cutS z (some (k : Int)) none) = (TL.tl z).drop k := by
  show (z.cps.toList.drop (HT.sIx z.length 0 (some (k : Int)))).take (HT.sIx z.length z.length none - HT.sIx z.length 0 (some (k : Int))) = _
  rw [HT.sIx_none, HT.sIx_nat]
  have hz : z.cps.toList.length = z.length := rfl
  rcases Nat.le_total k z.length with h | h
  · rw [Nat.min_eq_left h, List.take_of_length_le (by rw [List.length_drop, hz]; exact Nat.le_refl _)]
  · rw [Nat.min_eq_right h, List.drop_of_length_le (by rw [hz]; exact Nat.le_refl _), List.take_nil]
    exact (List.drop_of_length_le (by rw [tlen]; exact h)).symm
theorem joinL_ones : ∀ cs : List Nat, TL.joinL [] (cs.map fun c => [c]) = cs
  | [] => rfl
  | [c] => rfl
  | c :: d :: r => by
    show [c] ++ ([] ++ TL.joinL [] ((d :: r).map fun c => [c])) = _
    rw [joinL_ones (d :: r)]
    rfl
theorem tl_join_ones (cs : List Nat) : TL.tl (Txt.join "" (cs.map fun c => (⟨#[c]⟩ : Str))) = cs := by
  have e : (Txt.join "" (cs.map fun c => (⟨#[c]⟩ : Str))).cps.toList = TL.joinL [] (cs.map fun c => [c]) := by
    rw [TL.join_eq]
    refine (TL.tl_join "" _).trans ?_
    rw [List.map_map]
    rfl
  rw [joinL_ones] at e
  exact e
theorem cut_let {z : Str} (h : IsLet z) (lo hi : Option Int) : IsLet (cutS z lo hi) := List.all_eq_true.mpr fun c hc => List.all_eq_true.mp h c (List.mem_of_mem_drop (List.mem_of_mem_take (show c ∈ (z.cps.toList.drop _).take _ from hc)))
end SH
set_option Elab.async false
set_option linter.all false
set_option maxRecDepth 100000
set_option maxHeartbeats 4000000
/-! distances of words, tables of them -/
namespace SH
open PySem PySem.Spec PyProof.Rows L2
def ed : List Nat → List Nat → Nat
  | [], y => y.length
  | _ :: x, [] => x.length + 1
  | a :: x, b :: y => min (ed x (b :: y) + 1) (min (ed (a :: x) y + 1) (ed x y + if a = b then 0 else 1))
termination_by x y => x.length + y.length
theorem ed_nil (y : List Nat) : ed [] y = y.length := by
  unfold ed
  rfl
theorem ed_nil2 (x : List Nat) : ed x [] = x.length := by
  cases x <;> unfold ed <;> rfl
theorem ed_cons (a b : Nat) (x y : List Nat) : ed (a :: x) (b :: y) = min (ed x (b :: y) + 1) (min (ed (a :: x) y + 1) (ed x y + if a = b then 0 else 1)) := by
  rw [ed]
theorem ed_out (a : Nat) (x y : List Nat) : ed (a :: x) y ≤ ed x y + 1 := by
  cases y with
  | nil => rw [ed_nil2, ed_nil2]; exact Nat.le_refl _
  | cons b y => rw [ed_cons]; omega
theorem ed_put (b : Nat) (x y : List Nat) : ed x (b :: y) ≤ ed x y + 1 := by
  cases x with
  | nil => rw [ed_nil, ed_nil]; exact Nat.le_refl _
  | cons a x => rw [ed_cons]; omega
theorem ed_lip (a : Nat) (x : List Nat) : ∀ y : List Nat, ed x y ≤ ed (a :: x) y + 1
  | [] => by rw [ed_nil2, ed_nil2, List.length_cons]; omega
  | b :: y => by
    have ih := ed_lip a x y
    have h := ed_put b x y
    rw [ed_cons]
    split <;> omega
theorem ed_symm : ∀ (x y : List Nat), ed x y = ed y x
  | [], y => by rw [ed_nil, ed_nil2]
  | a :: x, [] => by rw [ed_nil, ed_nil2]
  | a :: x, b :: y => by
    rw [ed_cons, ed_cons, ed_symm x (b :: y), ed_symm (a :: x) y, ed_symm x y]
    have : (if a = b then 0 else 1) = (if b = a then 0 else 1) := by
      by_cases h : a = b
      · rw [if_pos h, if_pos h.symm]
      · rw [if_neg h, if_neg (fun z => h z.symm)]
    rw [this]
    omega
termination_by x y => x.length + y.length
theorem ed_lip2 (b : Nat) (x y : List Nat) : ed x y ≤ ed x (b :: y) + 1 := by
  rw [ed_symm x y, ed_symm x (b :: y)]
  exact ed_lip b y x
/-- what begins alike -/
theorem ed_same (a : Nat) (x y : List Nat) : ed (a :: x) (a :: y) = ed x y := by
  rw [ed_cons, if_pos rfl]
  have := ed_lip2 a x y
  have := ed_lip a x y
  omega
theorem ed_diff {a b : Nat} (h : a ≠ b) (x y : List Nat) : ed (a :: x) (b :: y) = 1 + min (ed x (b :: y)) (min (ed (a :: x) y) (ed x y)) := by
  rw [ed_cons, if_neg h]
  omega
theorem ed_self : ∀ x : List Nat, ed x x = 0
  | [] => by rw [ed_nil]; rfl
  | a :: x => by rw [ed_same, ed_self x]
theorem ed_le (x y : List Nat) : ed x y ≤ x.length + y.length := by
  induction x with
  | nil => rw [ed_nil]; omega
  | cons a x ih =>
    have := ed_out a x y
    rw [List.length_cons]
    omega
/-! ### rows and tables -/
def rowE (x y : List Nat) : List Int := (List.range (y.length + 1)).map fun j => ((ed x (y.drop j) : Nat) : Int)
def tabE (x y : List Nat) : List (List Int) := (List.range (x.length + 1)).map fun i => rowE (x.drop i) y
theorem rowE_len (x y : List Nat) : (rowE x y).length = y.length + 1 := by unfold rowE; rw [List.length_map, List.length_range]
theorem tabE_len (x y : List Nat) : (tabE x y).length = x.length + 1 := by unfold tabE; rw [List.length_map, List.length_range]
theorem rowE_at {x y : List Nat} {j : Nat} (h : j ≤ y.length) : (rowE x y)[j]? = some ((ed x (y.drop j) : Nat) : Int) := by
  unfold rowE
  rw [List.getElem?_map, List.getElem?_range (by omega)]
  rfl
theorem tabE_at {x y : List Nat} {i : Nat} (h : i ≤ x.length) : (tabE x y)[i]? = some (rowE (x.drop i) y) := by
  unfold tabE
  rw [List.getElem?_map, List.getElem?_range (by omega)]
  rfl
theorem rowE_of {x y : List Nat} {l : List Int} (hl : l.length = y.length + 1) (h : ∀ j, j ≤ y.length → l[j]? = some ((ed x (y.drop j) : Nat) : Int)) : l = rowE x y := by
  refine List.ext_getElem? fun j => ?_
  rcases Nat.lt_or_ge y.length j with c | c
  · rw [List.getElem?_eq_none (by omega), List.getElem?_eq_none (by rw [rowE_len]; omega)]
  · rw [h j c, rowE_at c]
/-- the same recursion over the whole table, from the ends -/
theorem drop_cons {y : List Nat} {j : Nat} (h : j < y.length) : y.drop j = y[j] :: y.drop (j + 1) := List.drop_eq_getElem_cons h
/-! ### tables in the heap -/
structure TabAt (H : Hp) (t : Addr) (rs : List Addr) (M : List (List Int)) : Prop where
  at_ : H t = some (.lst (rs.map V.ref))
  len : rs.length = M.length
  row : ∀ (i : Nat) (r : Addr) (l : List Int), rs[i]? = some r → M[i]? = some l → H r = some (.lst (l.map V.int))
theorem TabAt.same {H H' : Hp} {t : Addr} {rs : List Addr} {M : List (List Int)} (s : Same H H') (h : TabAt H t rs M) : TabAt H' t rs M :=
  ⟨s _ _ h.at_, h.len, fun i r l a b => s _ _ (h.row i r l a b)⟩
def dM (M : List (List Int)) : PyData := .list (M.map dI)
theorem dp_all_of {K : PySem.W.Frag} {H : Hp} : ∀ {vs : List V} {ds : List PyData}, vs.length = ds.length → (∀ (i : Nat) (v : V) (d : PyData), vs[i]? = some v → ds[i]? = some d → Dp K H v d) → DpAll K H vs ds
  | [], [], _, _ => .nil
  | [], _ :: _, h, _ => by simp at h
  | _ :: _, [], h, _ => by simp at h
  | v :: vs, d :: ds, h, f => .cons (f 0 v d rfl rfl) (dp_all_of (by simpa using h) fun i a b h1 h2 => f (i + 1) a b (by simpa using h1) (by simpa using h2))
theorem dp_tab {K : PySem.W.Frag} {H : Hp} {t : Addr} {rs : List Addr} {M : List (List Int)} (h : TabAt H t rs M) : Dp K H (.ref t) (dM M) := by
  refine .lst (SqL.of h.at_) (dp_all_of (by rw [List.length_map, List.length_map, h.len]) fun i v d h1 h2 => ?_)
  rw [List.getElem?_map] at h1 h2
  cases e1 : rs[i]? with
  | none => rw [e1] at h1; cases h1
  | some r =>
    cases e2 : M[i]? with
    | none => rw [e2] at h2; cases h2
    | some l =>
      rw [e1] at h1
      rw [e2] at h2
      cases h1
      cases h2
      exact dp_i (SqL.of (h.row i r l e1 e2))
theorem okd_M (M : List (List Int)) : Okd (dM M) := okd_list (fun d m => by
  obtain ⟨l, _, rfl⟩ := List.mem_map.mp m
  exact dI_lay l) fun d m => by
  obtain ⟨l, _, rfl⟩ := List.mem_map.mp m
  exact Nat.le_trans (dI_d l) (by decide)
/-- a new table -/
def NewTab (H H' : Hp) (t : Addr) (rs : List Addr) (M : List (List Int)) : Prop := TabAt H' t rs M ∧ H t = none ∧ ∀ r ∈ rs, H r = none
/-- the table of two words: new lists -/
def spTable : Sp := fun vs H Q _ => ∃ a b : Str, vs = [.str a, .str b] ∧ a.length ≤ 200 ∧ b.length ≤ 200 ∧ ∀ (t : Addr) (rs : List Addr) (H' : Hp), Same H H' → NewTab H H' t rs (tabE (TL.tl a) (TL.tl b)) → Q (.ref t) H'
theorem ixN_nat {n j : Nat} (h : j < n) : ixN n (j : Int) = some j := by
  unfold ixN
  rw [if_pos (by omega), if_pos (by omega), Int.toNat_natCast]
theorem nuMin2_int (a b : Int) : nuMin2 (.int a) (.int b) = some (.int (min a b)) := by
  show some (if decide (b < a) = true then V.int b else V.int a) = _
  by_cases h : b < a
  · rw [decide_eq_true h, if_pos rfl, show min a b = b by omega]
  · rw [decide_eq_false h, if_neg Bool.false_ne_true, show min a b = a by omega]
theorem nuMin3_int (a b c : Int) : nuMin3 (.int a) (.int b) (.int c) = some (.int (min a (min b c))) := by
  unfold nuMin3
  rw [nuMin2_int]
  show nuMin2 (.int (min a b)) (.int c) = _
  rw [nuMin2_int, show min (min a b) c = min a (min b c) by omega]
end SH
set_option Elab.async false
set_option linter.all false
set_option maxRecDepth 100000
set_option maxHeartbeats 4000000
/-! a table that is filled -/
namespace SH
open PySem PySem.Spec PyProof.Rows L2
def rowF (F : Nat → Nat → Int) (n i : Nat) : List V := (List.range (n + 1)).map fun j => V.int (F i j)
structure TabF (H0 H : Hp) (t : Addr) (rs : List Addr) (m n : Nat) (F : Nat → Nat → Int) : Prop where
  sm : Same H0 H
  at_ : H t = some (.lst (rs.map V.ref))
  nt : H0 t = none
  len : rs.length = m + 1
  nd : rs.Nodup
  new : ∀ r ∈ rs, r ≠ t ∧ H0 r = none
  row : ∀ (i : Nat) (r : Addr), rs[i]? = some r → H r = some (.lst (rowF F n i))
theorem TabF.same {H0 H H' : Hp} {t : Addr} {rs : List Addr} {m n : Nat} {F : Nat → Nat → Int} (h : TabF H0 H t rs m n F) (s : Same H H') : TabF H0 H' t rs m n F :=
  ⟨h.sm.trans s, s _ _ h.at_, h.nt, h.len, h.nd, h.new, fun i r e => s _ _ (h.row i r e)⟩
theorem rowF_at {F : Nat → Nat → Int} {n i j : Nat} (h : j ≤ n) : (rowF F n i)[j]? = some (.int (F i j)) := by
  unfold rowF
  rw [List.getElem?_map, List.getElem?_range (by omega)]
  rfl
theorem rowF_len (F : Nat → Nat → Int) (n i : Nat) : (rowF F n i).length = n + 1 := by
  unfold rowF
  rw [List.length_map, List.length_range]
theorem TabF.cell {H0 H : Hp} {t : Addr} {rs : List Addr} {m n : Nat} {F : Nat → Nat → Int} (h : TabF H0 H t rs m n F) {i j : Nat} (hi : i ≤ m) (hj : j ≤ n) :
    ∃ r, rs[i]? = some r ∧ r ∈ rs ∧ atI (rs.map V.ref) (i : Int) = some (.ref r) ∧ H r = some (.lst (rowF F n i)) ∧ atI (rowF F n i) (j : Int) = some (.int (F i j)) := by
  have l := h.len
  have e : rs[i]? = some (rs[i]'(by omega)) := List.getElem?_eq_getElem (by omega)
  exact ⟨_, e, List.getElem_mem _, atI_nat (by rw [List.getElem?_map, e]; rfl), h.row i _ e, atI_nat (rowF_at hj)⟩
def setF (F : Nat → Nat → Int) (i j : Nat) (v : Int) : Nat → Nat → Int := fun a c => if a = i ∧ c = j then v else F a c
theorem TabF.set {H0 H : Hp} {t : Addr} {rs : List Addr} {m n : Nat} {F : Nat → Nat → Int} (h : TabF H0 H t rs m n F) {i j : Nat} {r : Addr} (e : rs[i]? = some r) (hj : j ≤ n) (v : Int) :
    TabF H0 (upd H r (.lst ((rowF F n i).set j (.int v)))) t rs m n (setF F i j v) := by
  have rm := List.mem_of_getElem? e
  have nw := h.new r rm
  refine ⟨same_mut h.sm nw.2, ?_, h.nt, h.len, h.nd, h.new, fun k r2 e2 => ?_⟩
  · rw [upd_ne (fun z => nw.1 z.symm)]
    exact h.at_
  · by_cases c : k = i
    · subst c
      rw [e] at e2
      obtain rfl := Option.some.inj e2
      rw [upd_same]
      congr 2
      refine List.ext_getElem? fun a => ?_
      rcases Nat.lt_or_ge n a with ha | ha
      · rw [List.getElem?_eq_none (by rw [List.length_set, rowF_len]; omega), List.getElem?_eq_none (by rw [rowF_len]; omega)]
      · rw [rowF_at ha]
        unfold setF
        by_cases c : a = j
        · subst c
          rw [List.getElem?_set_self (by rw [rowF_len]; omega), if_pos ⟨rfl, rfl⟩]
        · rw [List.getElem?_set_ne (fun z => c z.symm), rowF_at ha, if_neg (fun z => c z.2)]
    · have ne : r2 ≠ r := fun z => by
        subst z
        have h1 := (List.getElem?_eq_some_iff.mp e)
        have h2 := (List.getElem?_eq_some_iff.mp e2)
        obtain ⟨l1, g1⟩ := h1
        obtain ⟨l2, g2⟩ := h2
        rcases Nat.lt_trichotomy k i with z | z | z
        · exact List.pairwise_iff_getElem.mp h.nd k i l2 l1 z (g2.trans g1.symm)
        · exact c z
        · exact List.pairwise_iff_getElem.mp h.nd i k l1 l2 z (g1.trans g2.symm)
      rw [upd_ne ne, h.row k r2 e2]
      congr 2
      unfold rowF setF
      refine List.map_congr_left fun a _ => ?_
      rw [if_neg (fun z => c z.1)]
theorem TabF.tab {H0 H : Hp} {t : Addr} {rs : List Addr} {x y : List Nat} {F : Nat → Nat → Int} (h : TabF H0 H t rs x.length y.length F) (hF : ∀ a c, a ≤ x.length → c ≤ y.length → F a c = ((ed (x.drop a) (y.drop c) : Nat) : Int)) : NewTab H0 H t rs (tabE x y) := by
  refine ⟨⟨h.at_, by rw [h.len, tabE_len], fun i r l e1 e2 => ?_⟩, h.nt, fun r m => (h.new r m).2⟩
  have hi : i ≤ x.length := by
    have := (List.getElem?_eq_some_iff.mp e1).1
    have := h.len
    omega
  rw [tabE_at hi] at e2
  obtain rfl := Option.some.inj e2
  rw [h.row i r e1]
  unfold rowF rowE
  rw [List.map_map]
  congr 2
  refine List.map_congr_left fun c hc => ?_
  have := List.mem_range.mp hc
  rw [hF i c hi (by omega)]
  rfl
theorem eqv_nil_ne (x : Int) (l : List Int) : PyData.eqv (dI (x :: l)) (dI []) = false := rfl
theorem setF_same (F : Nat → Nat → Int) (i j : Nat) (v : Int) : setF F i j v i j = v := if_pos ⟨rfl, rfl⟩
theorem setF_ne {F : Nat → Nat → Int} {i j a c : Nat} {v : Int} (h : ¬ (a = i ∧ c = j)) : setF F i j v a c = F a c := if_neg h
end SH
set_option Elab.async false
set_option linter.all false
set_option maxRecDepth 100000
set_option maxHeartbeats 4000000
/-! alignments -/
namespace SH
open PySem PySem.Spec PyProof.Rows L2
inductive Stp where
  | keep (c : Nat)
  | chg (c d : Nat)
  | out (c : Nat)
  | put (d : Nat)
abbrev s1 (c : Nat) : Str := ⟨#[c]⟩
def stV : Stp → List V
  | .keep c => [.str "keep", .str (s1 c)]
  | .chg c d => [.str "change", .str (s1 c), .str (s1 d)]
  | .out c => [.str "out", .str (s1 c)]
  | .put d => [.str "put", .str (s1 d)]
def stD : Stp → PyData
  | .keep c => .tuple [.str "keep", .str (s1 c)]
  | .chg c d => .tuple [.str "change", .str (s1 c), .str (s1 d)]
  | .out c => .tuple [.str "out", .str (s1 c)]
  | .put d => .tuple [.str "put", .str (s1 d)]
def stOk : Stp → Prop
  | .keep c => okc c = true
  | .chg c d => okc c = true ∧ okc d = true
  | .out c => okc c = true
  | .put d => okc d = true
/-- the told alignment -/
def tst : List Nat → List Nat → List Stp
  | [], [] => []
  | [], b :: y => .put b :: tst [] y
  | a :: x, [] => .out a :: tst x []
  | a :: x, b :: y => if a = b then .keep a :: tst x y else if ed (a :: x) (b :: y) = ed x y + 1 then .chg a b :: tst x y else if ed (a :: x) (b :: y) = ed x (b :: y) + 1 then .out a :: tst x (b :: y) else .put b :: tst (a :: x) y
termination_by x y => x.length + y.length
theorem tst_nn : tst [] [] = [] := by unfold tst; rfl
theorem tst_np (b : Nat) (y : List Nat) : tst [] (b :: y) = .put b :: tst [] y := by rw [tst]
theorem tst_on (a : Nat) (x : List Nat) : tst (a :: x) [] = .out a :: tst x [] := by rw [tst]
theorem tst_cc (a b : Nat) (x y : List Nat) : tst (a :: x) (b :: y) = if a = b then .keep a :: tst x y else if ed (a :: x) (b :: y) = ed x y + 1 then .chg a b :: tst x y else if ed (a :: x) (b :: y) = ed x (b :: y) + 1 then .out a :: tst x (b :: y) else .put b :: tst (a :: x) y := by rw [tst]
theorem tst_self : ∀ x : List Nat, tst x x = x.map .keep
  | [] => tst_nn
  | a :: x => by rw [tst_cc, if_pos rfl, tst_self x]; rfl
def isKeep : Stp → Bool
  | .keep _ => true
  | _ => false
def price (S : List Stp) : Nat := (S.filter fun s => !isKeep s).length
theorem price_keep (c : Nat) (S : List Stp) : price (.keep c :: S) = price S := rfl
theorem price_else {s : Stp} (h : isKeep s = false) (S : List Stp) : price (s :: S) = price S + 1 := by
  unfold price
  rw [List.filter_cons_of_pos (by rw [h]; rfl), List.length_cons]
theorem price_tst : ∀ (x y : List Nat), price (tst x y) = ed x y
  | [], [] => by rw [tst_nn, ed_nil]; rfl
  | [], b :: y => by rw [tst_np, price_else rfl, price_tst [] y, ed_nil, ed_nil, List.length_cons]
  | a :: x, [] => by rw [tst_on, price_else rfl, price_tst x [], ed_nil2, ed_nil2, List.length_cons]
  | a :: x, b :: y => by
    rw [tst_cc]
    by_cases c : a = b
    · rw [if_pos c, price_keep, price_tst x y, c, ed_same]
    · rw [if_neg c]
      by_cases c1 : ed (a :: x) (b :: y) = ed x y + 1
      · rw [if_pos c1, price_else rfl, price_tst x y, c1]
      · rw [if_neg c1]
        by_cases c2 : ed (a :: x) (b :: y) = ed x (b :: y) + 1
        · rw [if_pos c2, price_else rfl, price_tst x (b :: y), c2]
        · rw [if_neg c2, price_else rfl, price_tst (a :: x) y]
          have := ed_diff c x y
          omega
termination_by x y => x.length + y.length
/-- where an alignment leads, or the first step that does not fit -/
def ali : List Nat → List Stp → Nat → Except Nat (List Nat)
  | [], [], _ => .ok []
  | _ :: _, [], k => .error k
  | x, .put d :: r, k => (ali x r (k + 1)).map (d :: ·)
  | a :: x, .keep c :: r, k => if a = c then (ali x r (k + 1)).map (c :: ·) else .error k
  | [], .keep _ :: _, k => .error k
  | a :: x, .chg c d :: r, k => if a = c ∧ c ≠ d then (ali x r (k + 1)).map (d :: ·) else .error k
  | [], .chg _ _ :: _, k => .error k
  | a :: x, .out c :: r, k => if a = c then ali x r (k + 1) else .error k
  | [], .out _ :: _, k => .error k
theorem ali_tst : ∀ (x y : List Nat) (k : Nat), ali x (tst x y) k = .ok y
  | [], [], k => by rw [tst_nn]; rfl
  | [], b :: y, k => by
    rw [tst_np]
    show (ali [] (tst [] y) (k + 1)).map (b :: ·) = _
    rw [ali_tst [] y]
    rfl
  | a :: x, [], k => by
    rw [tst_on]
    show (if a = a then ali x (tst x []) (k + 1) else .error k) = _
    rw [if_pos rfl, ali_tst x []]
  | a :: x, b :: y, k => by
    rw [tst_cc]
    by_cases c : a = b
    · rw [if_pos c]
      show (if a = a then (ali x (tst x y) (k + 1)).map (a :: ·) else .error k) = _
      rw [if_pos rfl, ali_tst x y, c]
      rfl
    · rw [if_neg c]
      by_cases c1 : ed (a :: x) (b :: y) = ed x y + 1
      · rw [if_pos c1]
        show (if a = a ∧ a ≠ b then (ali x (tst x y) (k + 1)).map (b :: ·) else .error k) = _
        rw [if_pos ⟨rfl, c⟩, ali_tst x y]
        rfl
      · rw [if_neg c1]
        by_cases c2 : ed (a :: x) (b :: y) = ed x (b :: y) + 1
        · rw [if_pos c2]
          show (if a = a then ali x (tst x (b :: y)) (k + 1) else .error k) = _
          rw [if_pos rfl, ali_tst x (b :: y)]
        · rw [if_neg c2]
          show (ali (a :: x) (tst (a :: x) y) (k + 1)).map (b :: ·) = _
          rw [ali_tst (a :: x) y]
          rfl
termination_by x y => x.length + y.length
theorem tst_ok : ∀ {x y : List Nat}, (∀ c ∈ x, okc c = true) → (∀ c ∈ y, okc c = true) → ∀ s ∈ tst x y, stOk s
  | [], [], _, _ => by rw [tst_nn]; exact fun _ m => nomatch m
  | [], b :: y, hx, hy => by
    rw [tst_np]
    intro s m
    rcases List.mem_cons.mp m with e | m
    · rw [e]; exact hy b (List.mem_cons_self ..)
    · exact tst_ok hx (fun c m => hy c (List.mem_cons_of_mem _ m)) s m
  | a :: x, [], hx, hy => by
    rw [tst_on]
    intro s m
    rcases List.mem_cons.mp m with e | m
    · rw [e]; exact hx a (List.mem_cons_self ..)
    · exact tst_ok (fun c m => hx c (List.mem_cons_of_mem _ m)) hy s m
  | a :: x, b :: y, hx, hy => by
    have ha := hx a (List.mem_cons_self ..)
    have hb := hy b (List.mem_cons_self ..)
    have hx' : ∀ c ∈ x, okc c = true := fun c m => hx c (List.mem_cons_of_mem _ m)
    have hy' : ∀ c ∈ y, okc c = true := fun c m => hy c (List.mem_cons_of_mem _ m)
    rw [tst_cc]
    intro s m
    split at m
    · rcases List.mem_cons.mp m with e | m
      · rw [e]; exact ha
      · exact tst_ok hx' hy' s m
    · split at m
      · rcases List.mem_cons.mp m with e | m
        · rw [e]; exact ⟨ha, hb⟩
        · exact tst_ok hx' hy' s m
      · split at m
        · rcases List.mem_cons.mp m with e | m
          · rw [e]; exact ha
          · exact tst_ok hx' hy s m
        · rcases List.mem_cons.mp m with e | m
          · rw [e]; exact hb
          · exact tst_ok hx hy' s m
termination_by x y => x.length + y.length
theorem tst_len : ∀ (x y : List Nat), (tst x y).length ≤ x.length + y.length
  | [], [] => by rw [tst_nn]; exact Nat.zero_le _
  | [], b :: y => by rw [tst_np, List.length_cons, List.length_cons]; have := tst_len [] y; omega
  | a :: x, [] => by rw [tst_on, List.length_cons, List.length_cons]; have := tst_len x []; omega
  | a :: x, b :: y => by
    have h1 := tst_len x y
    have h2 := tst_len x (b :: y)
    have h3 := tst_len (a :: x) y
    rw [tst_cc]
    simp only [List.length_cons] at *
    split
    · simp only [List.length_cons]; omega
    · split
      · simp only [List.length_cons]; omega
      · split <;> simp only [List.length_cons] <;> omega
termination_by x y => x.length + y.length
/-! ### steps in the heap -/
abbrev ST := List (Addr × Stp)
def srefs (S : ST) : List V := S.map fun s => V.ref s.1
def StAt (K : PySem.W.Frag) (H : Hp) (S : ST) : Prop := ∀ s ∈ S, SqT K H s.1 (stV s.2)
theorem StAt.same {K : PySem.W.Frag} {H H' : Hp} {S : ST} (e : Same H H') (h : StAt K H S) : StAt K H' S := fun s m => same_tup e (h s m)
theorem StAt.put {K : PySem.W.Frag} {H : Hp} {S : ST} {D : Addr} {l : List V} {o : HO} (h : StAt K H S) (hD : H D = some (.lst l)) : StAt K (upd H D o) S := fun z m => but_tup (l := l) hD but_upd (h z m)
theorem srefs_len (S : ST) : (srefs S).length = S.length := List.length_map ..
theorem srefs_get {S : ST} {i : Nat} {x : V} (h : (srefs S)[i]? = some x) : ∃ s, S[i]? = some s ∧ s ∈ S ∧ x = .ref s.1 := by
  unfold srefs at h
  rw [List.getElem?_map] at h
  cases e : S[i]? with
  | none => rw [e] at h; cases h
  | some z => rw [e] at h; cases h; exact ⟨z, rfl, List.mem_of_getElem? e, rfl⟩
def dSt (l : List Stp) : PyData := .list (l.map stD)
theorem dp_st1 {K : PySem.W.Frag} {H : Hp} {t : Addr} {s : Stp} (h : SqT K H t (stV s)) : Dp K H (.ref t) (stD s) := by
  cases s with
  | keep c => exact .tup h (.cons (.str _) (.cons (.str _) .nil))
  | chg c d => exact .tup h (.cons (.str _) (.cons (.str _) (.cons (.str _) .nil)))
  | out c => exact .tup h (.cons (.str _) (.cons (.str _) .nil))
  | put d => exact .tup h (.cons (.str _) (.cons (.str _) .nil))
theorem dp_sts {K : PySem.W.Frag} {H : Hp} : ∀ (S : ST), StAt K H S → DpAll K H (srefs S) ((S.map (·.2)).map stD)
  | [], _ => .nil
  | s :: r, h => .cons (dp_st1 (h s (List.mem_cons_self ..))) (dp_sts r fun x m => h x (List.mem_cons_of_mem _ m))
theorem dp_st {K : PySem.W.Frag} {H : Hp} {a : Addr} {S : ST} (h : SqL K H a (srefs S)) (hs : StAt K H S) : Dp K H (.ref a) (dSt (S.map (·.2))) := .lst h (dp_sts S hs)
theorem okc_strOk {c : Nat} (h : okc c = true) : PyData.strOk (s1 c) = true := let_ok (let_one h)
theorem stD_ok {s : Stp} (h : stOk s) : (stD s).canLay0 = true ∧ (stD s).depth ≤ 59 := by
  have a1 : PyData.strOk ("keep" : Str) = true := by decide +kernel
  have a2 : PyData.strOk ("change" : Str) = true := by decide +kernel
  have a3 : PyData.strOk ("out" : Str) = true := by decide +kernel
  have a4 : PyData.strOk ("put" : Str) = true := by decide +kernel
  cases s with
  | keep c =>
    have b := okc_strOk (show okc c = true from h)
    exact ⟨by simp [stD, PyData.canLay0, PyData.canLayAll0, a1, b], by show max 0 (max 0 0) + 1 ≤ 59; decide⟩
  | chg c d =>
    have h : okc c = true ∧ okc d = true := h
    have b := okc_strOk h.1
    have b2 := okc_strOk h.2
    exact ⟨by simp [stD, PyData.canLay0, PyData.canLayAll0, a2, b, b2], by show max 0 (max 0 (max 0 0)) + 1 ≤ 59; decide⟩
  | out c =>
    have b := okc_strOk (show okc c = true from h)
    exact ⟨by simp [stD, PyData.canLay0, PyData.canLayAll0, a3, b], by show max 0 (max 0 0) + 1 ≤ 59; decide⟩
  | put c =>
    have b := okc_strOk (show okc c = true from h)
    exact ⟨by simp [stD, PyData.canLay0, PyData.canLayAll0, a4, b], by show max 0 (max 0 0) + 1 ≤ 59; decide⟩
theorem okd_St {l : List Stp} (h : ∀ s ∈ l, stOk s) : Okd (dSt l) := okd_list (fun d m => by
  obtain ⟨s, hs, rfl⟩ := List.mem_map.mp m
  exact (stD_ok (h s hs)).1) fun d m => by
  obtain ⟨s, hs, rfl⟩ := List.mem_map.mp m
  exact (stD_ok (h s hs)).2
theorem StAt.snoc {K : PySem.W.Frag} {H : Hp} {S : ST} {t : Addr} {s : Stp} (h : StAt K H S) (hz : H t = some (.tup (stV s))) : StAt K H (S ++ [(t, s)]) := fun y hy => by
  rcases List.mem_append.mp hy with m | m
  · exact h y m
  · rw [List.mem_singleton.mp m]; exact .inl (.inl hz)
end SH
namespace SH
open PySem PySem.Spec PyProof.Rows L2
def isPut : Stp → Bool
  | .put _ => true
  | _ => false
def isOut : Stp → Bool
  | .out _ => true
  | _ => false
/-- the steps behind the first one -/
theorem tst_step : ∀ {x y : List Nat} {s : Stp} {r : List Stp}, tst x y = s :: r → r = tst (if isPut s then x else x.tail) (if isOut s then y else y.tail) ∧ (isPut s = false → x ≠ []) ∧ (isOut s = false → y ≠ [])
  | [], [], s, r, h => by rw [tst_nn] at h; cases h
  | [], b :: y, s, r, h => by
    rw [tst_np] at h
    cases h
    exact ⟨rfl, (fun z => by cases z), fun _ => by simp⟩
  | a :: x, [], s, r, h => by
    rw [tst_on] at h
    cases h
    exact ⟨rfl, (fun _ => by simp), fun z => by cases z⟩
  | a :: x, b :: y, s, r, h => by
    rw [tst_cc] at h
    split at h
    · cases h
      exact ⟨rfl, (fun _ => by simp), fun _ => by simp⟩
    · split at h
      · cases h
        exact ⟨rfl, (fun _ => by simp), fun _ => by simp⟩
      · split at h
        · cases h
          exact ⟨rfl, (fun _ => by simp), fun _ => by simp⟩
        · cases h
          exact ⟨rfl, (fun _ => by simp), fun _ => by simp⟩
theorem tst_more {x y : List Nat} (h : x ≠ [] ∨ y ≠ []) : ∃ s r, tst x y = s :: r := by
  cases x with
  | nil =>
    cases y with
    | nil => rcases h with h | h <;> exact absurd rfl h
    | cons b y => exact ⟨_, _, tst_np b y⟩
  | cons a x =>
    cases y with
    | nil => exact ⟨_, _, tst_on a x⟩
    | cons b y =>
      rw [tst_cc]
      split
      · exact ⟨_, _, rfl⟩
      · split
        · exact ⟨_, _, rfl⟩
        · split <;> exact ⟨_, _, rfl⟩
theorem TabAt.cell {H : Hp} {t : Addr} {rs : List Addr} {x y : List Nat} (h : TabAt H t rs (tabE x y)) {i j : Nat} (hi : i ≤ x.length) (hj : j ≤ y.length) :
    ∃ r, atI (rs.map V.ref) (i : Int) = some (.ref r) ∧ H r = some (.lst ((rowE (x.drop i) y).map V.int)) ∧ atI ((rowE (x.drop i) y).map V.int) (j : Int) = some (.int (ed (x.drop i) (y.drop j) : Nat)) := by
  have l := h.len
  rw [tabE_len] at l
  have e : rs[i]? = some (rs[i]'(by omega)) := List.getElem?_eq_getElem (by omega)
  refine ⟨_, atI_nat (by rw [List.getElem?_map, e]; rfl), h.row i _ _ e (tabE_at hi), atI_nat ?_⟩
  rw [List.getElem?_map, rowE_at hj]
  rfl
def tag : Stp → Str
  | .keep _ => "keep"
  | .chg _ _ => "change"
  | .out _ => "out"
  | .put _ => "put"
theorem tag_at (s : Stp) : atI (stV s) 0 = some (.str (tag s)) := by cases s <;> rfl
theorem tag_put : ∀ s : Stp, (!decide (V.str (tag s) = V.str "put")) = !isPut s
  | .keep _ => (by decide +kernel : (!decide (V.str ("keep" : Str) = V.str ("put" : Str))) = true)
  | .chg _ _ => (by decide +kernel : (!decide (V.str ("change" : Str) = V.str ("put" : Str))) = true)
  | .out _ => (by decide +kernel : (!decide (V.str ("out" : Str) = V.str ("put" : Str))) = true)
  | .put _ => (by decide +kernel : (!decide (V.str ("put" : Str) = V.str ("put" : Str))) = false)
theorem tag_out : ∀ s : Stp, (!decide (V.str (tag s) = V.str "out")) = !isOut s
  | .keep _ => (by decide +kernel : (!decide (V.str ("keep" : Str) = V.str ("out" : Str))) = true)
  | .chg _ _ => (by decide +kernel : (!decide (V.str ("change" : Str) = V.str ("out" : Str))) = true)
  | .out _ => (by decide +kernel : (!decide (V.str ("out" : Str) = V.str ("out" : Str))) = false)
  | .put _ => (by decide +kernel : (!decide (V.str ("put" : Str) = V.str ("out" : Str))) = true)
theorem tag_keep : ∀ s : Stp, (!decide (V.str (tag s) = V.str "keep")) = !isKeep s
  | .keep _ => (by decide +kernel : (!decide (V.str ("keep" : Str) = V.str ("keep" : Str))) = false)
  | .chg _ _ => (by decide +kernel : (!decide (V.str ("change" : Str) = V.str ("keep" : Str))) = true)
  | .out _ => (by decide +kernel : (!decide (V.str ("out" : Str) = V.str ("keep" : Str))) = true)
  | .put _ => (by decide +kernel : (!decide (V.str ("put" : Str) = V.str ("keep" : Str))) = true)
/-- the steps told: a new list of new pairs -/
def spSteps (K : PySem.W.Frag) : Sp := fun vs H Q _ => ∃ a b : Str, vs = [.str a, .str b] ∧ a.length ≤ 200 ∧ b.length ≤ 200 ∧ ∀ (l : Addr) (S : ST) (H' : Hp), Same H H' → H l = none → H' l = some (.lst (srefs S)) → StAt K H' S → S.map (·.2) = tst (TL.tl a) (TL.tl b) → Q (.ref l) H'
end SH
namespace SH
open PySem PySem.Spec PyProof.Rows L2
/-- a step fits the next letter, told as a text -/
def fitB : Stp → Str → Bool
  | .keep c, z => decide (s1 c = z)
  | .chg c d, z => decide (s1 c = z) && decide (c ≠ d)
  | .out c, z => decide (s1 c = z)
  | .put _, _ => true
theorem fitB_chg (c d : Nat) (z : Str) : fitB (.chg c d) z = (decide (s1 c = z) && decide (c ≠ d)) := rfl
def fst1 : Stp → Nat
  | .keep c => c
  | .chg c _ => c
  | .out c => c
  | .put d => d
def lst1 : Stp → Nat
  | .keep c => c
  | .chg _ d => d
  | .out c => c
  | .put d => d
theorem fst_at (s : Stp) : atI (stV s) 1 = some (.str (s1 (fst1 s))) := by cases s <;> rfl
theorem lst_at (s : Stp) : atI (stV s) (-1) = some (.str (s1 (lst1 s))) := by cases s <;> rfl
theorem s1_inj {c d : Nat} (h : s1 c = s1 d) : c = d := by
  have h := Str.mk.inj h
  simpa using h
theorem s1_ne (c : Nat) : s1 c ≠ "" := fun h => by
  have := congrArg (fun z : Str => z.length) h
  cases this
/-- one step of an alignment -/
theorem ali_step (x : List Nat) (s : Stp) (r : List Stp) (k : Nat) : ali x (s :: r) k =
    if isPut s then (ali x r (k + 1)).map (lst1 s :: ·)
    else if fitB s (⟨(x.take 1).toArray⟩ : Str) then (if isOut s then ali x.tail r (k + 1) else (ali x.tail r (k + 1)).map (lst1 s :: ·)) else .error k := by
  cases s with
  | put d => cases x <;> rfl
  | keep c =>
    cases x with
    | nil =>
      have : fitB (.keep c) (⟨(([] : List Nat).take 1).toArray⟩ : Str) = false := decide_eq_false (s1_ne c)
      show Except.error k = _
      rw [this]
      rfl
    | cons a x =>
      have : fitB (.keep c) (⟨((a :: x).take 1).toArray⟩ : Str) = decide (a = c) := decide_eq_decide.mpr ⟨fun h => (s1_inj h).symm, fun h => by rw [h]; rfl⟩
      show (if a = c then _ else _) = _
      rw [this]
      by_cases h : a = c
      · rw [if_pos h, decide_eq_true h]; rfl
      · rw [if_neg h, decide_eq_false h]; rfl
  | chg c d =>
    cases x with
    | nil =>
      have : fitB (.chg c d) (⟨(([] : List Nat).take 1).toArray⟩ : Str) = false := by
        rw [fitB_chg]
        have : ¬ s1 c = (⟨(([] : List Nat).take 1).toArray⟩ : Str) := s1_ne c
        rw [decide_eq_false this]
        rfl
      show Except.error k = _
      rw [this]
      rfl
    | cons a x =>
      have : fitB (.chg c d) (⟨((a :: x).take 1).toArray⟩ : Str) = decide (a = c ∧ c ≠ d) := by
        rw [fitB_chg]
        show (decide (s1 c = s1 a) && decide (c ≠ d)) = _
        by_cases h : a = c
        · rw [h, decide_eq_true rfl, Bool.true_and]
          exact decide_eq_decide.mpr ⟨fun z => ⟨rfl, z⟩, fun z => z.2⟩
        · rw [decide_eq_false (fun z => h (s1_inj z).symm)]
          exact (decide_eq_false fun z : a = c ∧ c ≠ d => h z.1).symm
      show (if a = c ∧ c ≠ d then _ else _) = _
      rw [this]
      by_cases h : a = c ∧ c ≠ d
      · rw [if_pos h, decide_eq_true h]; rfl
      · rw [if_neg h, decide_eq_false h]; rfl
  | out c =>
    cases x with
    | nil =>
      have : fitB (.out c) (⟨(([] : List Nat).take 1).toArray⟩ : Str) = false := decide_eq_false (s1_ne c)
      show Except.error k = _
      rw [this]
      rfl
    | cons a x =>
      have : fitB (.out c) (⟨((a :: x).take 1).toArray⟩ : Str) = decide (a = c) := decide_eq_decide.mpr ⟨fun h => (s1_inj h).symm, fun h => by rw [h]; rfl⟩
      show (if a = c then _ else _) = _
      rw [this]
      by_cases h : a = c
      · rw [if_pos h, decide_eq_true h]; rfl
      · rw [if_neg h, decide_eq_false h]; rfl
theorem fit_ne {s : Stp} {x : List Nat} (hp : isPut s = false) (h : fitB s (⟨(x.take 1).toArray⟩ : Str) = true) : x ≠ [] := fun z => by
  subst z
  cases s with
  | put d => cases hp
  | keep c => exact s1_ne c (of_decide_eq_true h)
  | chg c d =>
    rw [fitB_chg] at h
    exact s1_ne c (of_decide_eq_true (Bool.and_eq_true_iff.mp h).1)
  | out c => exact s1_ne c (of_decide_eq_true h)
theorem map_map_ex (e : Except Nat (List Nat)) (u v : List Nat) : (e.map (v ++ ·)).map (u ++ ·) = e.map ((u ++ v) ++ ·) := by
  cases e with
  | error k => rfl
  | ok w => show Except.ok (u ++ (v ++ w)) = Except.ok (u ++ v ++ w); rw [List.append_assoc]
end SH
namespace SH
open PySem PySem.Spec PyProof.Rows L2
def isChg : Stp → Bool
  | .chg _ _ => true
  | _ => false
theorem tag_chg : ∀ s : Stp, decide (V.str (tag s) = V.str "change") = isChg s
  | .keep _ => (by decide +kernel : decide (V.str ("keep" : Str) = V.str ("change" : Str)) = false)
  | .chg _ _ => (by decide +kernel : decide (V.str ("change" : Str) = V.str ("change" : Str)) = true)
  | .out _ => (by decide +kernel : decide (V.str ("out" : Str) = V.str ("change" : Str)) = false)
  | .put _ => (by decide +kernel : decide (V.str ("put" : Str) = V.str ("change" : Str)) = false)
theorem fit_nil {s : Stp} (hp : isPut s = false) : fitB s (⟨(([] : List Nat).take 1).toArray⟩ : Str) = false := by
  cases h : fitB s (⟨(([] : List Nat).take 1).toArray⟩ : Str) with
  | false => rfl
  | true => exact absurd rfl (fit_ne (x := []) hp h)
theorem fit_cons {s : Stp} {c : Nat} {x : List Nat} (hp : isPut s = false) : fitB s (⟨((c :: x).take 1).toArray⟩ : Str) = (decide (c = fst1 s) && !(isChg s && decide (fst1 s = lst1 s))) := by
  have e : ∀ d : Nat, decide (s1 d = s1 c) = decide (c = d) := fun d => decide_eq_decide.mpr ⟨fun h => (s1_inj h).symm, fun h => by rw [h]⟩
  cases s with
  | put d => cases hp
  | keep d =>
    show decide (s1 d = s1 c) = _
    rw [e]
    show _ = (decide (c = d) && true)
    rw [Bool.and_true]
  | out d =>
    show decide (s1 d = s1 c) = _
    rw [e]
    show _ = (decide (c = d) && true)
    rw [Bool.and_true]
  | chg d d2 =>
    rw [fitB_chg]
    show (decide (s1 d = s1 c) && decide (d ≠ d2)) = (decide (c = d) && !(true && decide (d = d2)))
    rw [e, Bool.true_and]
    congr 1
    by_cases h : d = d2
    · simp [h]
    · simp [h]
theorem chg_at {s : Stp} (h : isChg s = true) : atI (stV s) 2 = some (.str (s1 (lst1 s))) := by
  cases s <;> first | rfl | cases h
theorem map_ok {e : Except Nat (List Nat)} {u w : List Nat} (h : e.map (u ++ ·) = .ok w) : ∃ v, e = .ok v ∧ w = u ++ v := by
  cases e with
  | error k => cases h
  | ok v => exact ⟨v, rfl, (Except.ok.inj h).symm⟩
theorem stOk_lst {s : Stp} (h : stOk s) : okc (lst1 s) = true := by
  cases s with
  | keep c => exact h
  | chg c d => exact h.2
  | out c => exact h
  | put d => exact h
theorem ali_okc : ∀ {S : List Stp} {x w : List Nat} {k : Nat}, (∀ s ∈ S, stOk s) → ali x S k = .ok w → ∀ c ∈ w, okc c = true
  | [], x, w, k, _, h => by
    cases x with
    | nil => cases h; exact fun _ m => nomatch m
    | cons a x => cases h
  | s :: r, x, w, k, hs, h => by
    have hr : ∀ s ∈ r, stOk s := fun y m => hs y (List.mem_cons_of_mem _ m)
    have hl := stOk_lst (hs s (List.mem_cons_self ..))
    have cons : ∀ {x' : List Nat}, (ali x' r (k + 1)).map (lst1 s :: ·) = .ok w → ∀ c ∈ w, okc c = true := fun {x'} h => by
      obtain ⟨v, e, rfl⟩ := map_ok (u := [lst1 s]) h
      intro c m
      rcases List.mem_append.mp m with m | m
      · rw [List.mem_singleton.mp m]; exact hl
      · exact ali_okc hr e c m
    rw [ali_step] at h
    split at h
    · exact cons h
    · split at h
      · split at h
        · exact ali_okc hr h
        · exact cons h
      · cases h
/-- what is told of an alignment -/
def dueA (x : List Nat) (S : List Stp) : Str × PyData :=
  match ali x S 0 with
  | .ok w => ("word", .str ⟨w.toArray⟩)
  | .error k => ("bad", .int (k : Nat))
theorem dueA_ok {x : List Nat} {S : List Stp} {w : List Nat} (h : ali x S 0 = .ok w) : dueA x S = (("word" : Str), .str ⟨w.toArray⟩) := by unfold dueA; rw [h]
theorem dueA_err {x : List Nat} {S : List Stp} {k : Nat} (h : ali x S 0 = .error k) : dueA x S = (("bad" : Str), .int (k : Nat)) := by unfold dueA; rw [h]
end SH
set_option Elab.async false
set_option linter.all false
set_option maxRecDepth 100000
set_option maxHeartbeats 4000000
/-! tables from below -/
namespace SH
open PySem PySem.Spec PyProof.Rows L2
def cell (M : List (List Int)) (i j : Nat) : Int := ((M[i]?.getD [])[j]?).getD 0
structure Shape (x y : List Nat) (M : List (List Int)) : Prop where
  len : M.length = x.length + 1
  row : ∀ l ∈ M, l.length = y.length + 1
def CellOk (x y : List Nat) (M : List (List Int)) (i j : Nat) : Prop :=
  (i < x.length → cell M i j ≤ cell M (i + 1) j + 1) ∧ (j < y.length → cell M i j ≤ cell M i (j + 1) + 1) ∧ (i < x.length → j < y.length → cell M i j ≤ cell M (i + 1) (j + 1) + if x[i]? = y[j]? then 0 else 1)
structure Low (x y : List Nat) (M : List (List Int)) : Prop where
  shape : Shape x y M
  last : cell M x.length y.length ≤ 0
  cells : ∀ i j, i ≤ x.length → j ≤ y.length → CellOk x y M i j
theorem low_le {x y : List Nat} {M : List (List Int)} (h : Low x y M) : ∀ (n i j : Nat), i ≤ x.length → j ≤ y.length → (x.length - i) + (y.length - j) = n → cell M i j ≤ (ed (x.drop i) (y.drop j) : Nat)
  | 0, i, j, hi, hj, hn => by
    have ei : i = x.length := by omega
    have ej : j = y.length := by omega
    subst ei ej
    rw [List.drop_length, List.drop_length]
    exact Int.le_trans h.last (by omega)
  | n + 1, i, j, hi, hj, hn => by
    obtain ⟨c1, c2, c3⟩ := h.cells i j hi hj
    by_cases ci : i < x.length
    · have d1 := low_le h n (i + 1) j (by omega) hj (by omega)
      have k1 := c1 ci
      have dx : x.drop i = x[i] :: x.drop (i + 1) := drop_cons ci
      by_cases cj : j < y.length
      · have d2 := low_le h n i (j + 1) hi (by omega) (by omega)
        have k2 := c2 cj
        have d3 : cell M (i + 1) (j + 1) ≤ (ed (x.drop (i + 1)) (y.drop (j + 1)) : Nat) := by
          cases n with
          | zero => omega
          | succ n => exact low_le h n (i + 1) (j + 1) (by omega) (by omega) (by omega)
        have k3 := c3 ci cj
        have dy : y.drop j = y[j] :: y.drop (j + 1) := drop_cons cj
        rw [List.getElem?_eq_getElem ci, List.getElem?_eq_getElem cj] at k3
        rw [dx] at d2 ⊢
        rw [dy] at d1 ⊢
        rw [ed_cons]
        by_cases e : x[i] = y[j]
        · rw [if_pos (congrArg some e)] at k3
          rw [if_pos e]
          omega
        · rw [if_neg (fun z => e (Option.some.inj z))] at k3
          rw [if_neg e]
          omega
      · have ej : y.drop j = [] := List.drop_eq_nil_of_le (by omega)
        rw [ej, ed_nil2] at d1 ⊢
        rw [dx, List.length_cons]
        omega
    · have ei : x.drop i = [] := List.drop_eq_nil_of_le (by omega)
      have cj : j < y.length := by omega
      have d2 := low_le h n i (j + 1) hi (by omega) (by omega)
      have k2 := c2 cj
      have dy : y.drop j = y[j] :: y.drop (j + 1) := drop_cons cj
      rw [ei, ed_nil] at d2 ⊢
      rw [dy, List.length_cons]
      omega
theorem tabE_shape (x y : List Nat) : Shape x y (tabE x y) := ⟨tabE_len x y, fun l m => by
  unfold tabE at m
  obtain ⟨i, _, rfl⟩ := List.mem_map.mp m
  exact rowE_len _ _⟩
theorem tabE_cell {x y : List Nat} {i j : Nat} (hi : i ≤ x.length) (hj : j ≤ y.length) : cell (tabE x y) i j = (ed (x.drop i) (y.drop j) : Nat) := by
  unfold cell
  rw [tabE_at hi]
  show ((rowE (x.drop i) y)[j]?).getD 0 = _
  rw [rowE_at hj]
  rfl
theorem tabE_low (x y : List Nat) : Low x y (tabE x y) := by
  refine ⟨tabE_shape x y, ?_, fun i j hi hj => ⟨fun ci => ?_, fun cj => ?_, fun ci cj => ?_⟩⟩
  · rw [tabE_cell (Nat.le_refl _) (Nat.le_refl _), List.drop_length, List.drop_length, ed_nil]
    exact Int.le_refl _
  · rw [tabE_cell hi hj, tabE_cell (by omega) hj, drop_cons ci]
    have := ed_out x[i] (x.drop (i + 1)) (y.drop j)
    omega
  · rw [tabE_cell hi hj, tabE_cell hi (by omega), drop_cons cj]
    have := ed_put y[j] (x.drop i) (y.drop (j + 1))
    omega
  · rw [tabE_cell hi hj, tabE_cell (by omega) (by omega), drop_cons ci, drop_cons cj, ed_cons, List.getElem?_eq_getElem ci, List.getElem?_eq_getElem cj]
    by_cases e : x[i] = y[j]
    · rw [if_pos e, if_pos (congrArg some e)]
      omega
    · rw [if_neg e, if_neg (fun z => e (Option.some.inj z))]
      omega
/-! ### in the heap -/
theorem TabAt.getL {H : Hp} {t : Addr} {rs : List Addr} {x y : List Nat} {M : List (List Int)} (h : TabAt H t rs M) (s : Shape x y M) {i j : Nat} (hi : i ≤ x.length) (hj : j ≤ y.length) :
    ∃ (r : Addr) (l : List Int), atI (rs.map V.ref) (i : Int) = some (.ref r) ∧ H r = some (.lst (l.map V.int)) ∧ atI (l.map V.int) (j : Int) = some (.int (SH.cell M i j)) ∧ l.length = y.length + 1 := by
  have l := h.len
  have sl := s.len
  have e : rs[i]? = some (rs[i]'(by omega)) := List.getElem?_eq_getElem (by omega)
  have e2 : M[i]? = some (M[i]'(by omega)) := List.getElem?_eq_getElem (by omega)
  have rl := s.row _ (List.getElem_mem (by omega : i < M.length))
  refine ⟨_, M[i]'(by omega), atI_nat (by rw [List.getElem?_map, e]; rfl), h.row i _ _ e e2, atI_nat ?_, rl⟩
  rw [List.getElem?_map, List.getElem?_eq_getElem (by omega : j < (M[i]'(by omega)).length)]
  unfold SH.cell
  rw [e2]
  show some (V.int _) = some (V.int (((M[i]'(by omega))[j]?).getD 0))
  rw [List.getElem?_eq_getElem (by omega)]
  rfl
theorem TabAt.get {H : Hp} {t : Addr} {rs : List Addr} {x y : List Nat} {M : List (List Int)} (h : TabAt H t rs M) (s : Shape x y M) {i j : Nat} (hi : i ≤ x.length) (hj : j ≤ y.length) :
    ∃ (r : Addr) (l : List Int), atI (rs.map V.ref) (i : Int) = some (.ref r) ∧ H r = some (.lst (l.map V.int)) ∧ atI (l.map V.int) (j : Int) = some (.int (SH.cell M i j)) := by
  obtain ⟨r, l, h1, h2, h3, _⟩ := h.getL s hi hj
  exact ⟨r, l, h1, h2, h3⟩
theorem atI_m1 {xs : List V} {n : Nat} (h : xs.length = n + 1) : atI xs (-1) = atI xs (n : Int) := by
  obtain ⟨ys, y, rfl⟩ : ∃ ys y, xs = ys ++ [y] := ⟨_, _, (List.dropLast_concat_getLast (by intro z; rw [z] at h; cases h)).symm⟩
  rw [atI_last]
  refine (atI_nat ?_).symm
  rw [List.length_append] at h
  rw [List.getElem?_append_right (by simp at h; omega)]
  simp at h
  rw [h, Nat.sub_self]
  rfl
theorem TabAt.ix {H : Hp} {t : Addr} {rs : List Addr} {M : List (List Int)} (h : TabAt H t rs M) {i : Nat} {x : V} (hx : (rs.map V.ref)[i]? = some x) : ∃ (r : Addr) (l : List Int), rs[i]? = some r ∧ M[i]? = some l ∧ x = .ref r ∧ H r = some (.lst (l.map V.int)) := by
  rw [List.getElem?_map] at hx
  cases e1 : rs[i]? with
  | none => rw [e1] at hx; cases hx
  | some r =>
    rw [e1] at hx
    have hl := h.len
    have hi := (List.getElem?_eq_some_iff.mp e1).1
    have e2 : M[i]? = some (M[i]'(by omega)) := List.getElem?_eq_getElem (by omega)
    exact ⟨r, _, rfl, e2, (Option.some.inj hx).symm, h.row i r _ e1 e2⟩
theorem mem_set {M : List (List Int)} {k : Nat} {l l' : List Int} (h : l ∈ M.set k l') : l ∈ M ∨ l = l' := by
  rcases List.mem_or_eq_of_mem_set h with h | h
  · exact .inl h
  · exact .inr h
/-- a table made since H0, to be changed in place -/
structure MTab (H0 H : Hp) (t : Addr) (rs : List Addr) (M : List (List Int)) : Prop where
  tab : TabAt H t rs M
  sm : Same H0 H
  nt : H0 t = none
  nr : ∀ r ∈ rs, H0 r = none
  nd : rs.Nodup
theorem TabAt.ne {H : Hp} {t : Addr} {rs : List Addr} {M : List (List Int)} (h : TabAt H t rs M) : ∀ r ∈ rs, r ≠ t := fun r hr z => by
  obtain ⟨k, hk, e⟩ := List.getElem_of_mem hr
  have hl := h.len
  have h1 := h.row k r _ (by rw [List.getElem?_eq_getElem hk, e]) (List.getElem?_eq_getElem (by omega))
  rw [z, h.at_] at h1
  have h2 := congrArg (fun l : List V => l[0]?) (HO.lst.inj (Option.some.inj h1))
  have h3 : (rs.map V.ref)[0]? = ((M[k]'(by omega)).map V.int)[0]? := h2
  rw [List.getElem?_map, List.getElem?_map, List.getElem?_eq_getElem (by omega : 0 < rs.length)] at h3
  cases e4 : (M[k]'(by omega))[0]? with
  | none => rw [e4] at h3; cases h3
  | some v => rw [e4] at h3; cases h3
theorem MTab.same {H0 H H' : Hp} {t : Addr} {rs : List Addr} {M : List (List Int)} (s : Same H H') (h : MTab H0 H t rs M) : MTab H0 H' t rs M := ⟨h.tab.same s, h.sm.trans s, h.nt, h.nr, h.nd⟩
theorem MTab.mono {H0 H1 H : Hp} {t : Addr} {rs : List Addr} {M : List (List Int)} (s : Same H0 H1) (h : MTab H1 H t rs M) : MTab H0 H t rs M := ⟨h.tab, s.trans h.sm, s.free h.nt, fun r m => s.free (h.nr r m), h.nd⟩
theorem nodup_ix {rs : List Addr} (h : rs.Nodup) {i k : Nat} {r : Addr} (hi : rs[i]? = some r) (hk : rs[k]? = some r) : i = k := by
  obtain ⟨a1, a2⟩ := List.getElem?_eq_some_iff.mp hi
  obtain ⟨b1, b2⟩ := List.getElem?_eq_some_iff.mp hk
  exact (List.getElem_inj h).mp (a2.trans b2.symm)
theorem MTab.setRow {H0 H : Hp} {t : Addr} {rs : List Addr} {M : List (List Int)} (h : MTab H0 H t rs M) {k : Nat} {r : Addr} (hk : rs[k]? = some r) (l' : List Int) : MTab H0 (upd H r (.lst (l'.map V.int))) t rs (M.set k l') := by
  have hm := List.mem_of_getElem? hk
  refine ⟨⟨?_, ?_, fun i r' l h1 h2 => ?_⟩, same_mut h.sm (h.nr r hm), h.nt, h.nr, h.nd⟩
  · rw [upd_ne (fun z => h.tab.ne r hm z.symm)]
    exact h.tab.at_
  · rw [List.length_set]
    exact h.tab.len
  · by_cases e : i = k
    · subst e
      rw [hk] at h1
      obtain rfl := Option.some.inj h1
      have : i < M.length := by
        have := (List.getElem?_eq_some_iff.mp hk).1
        have := h.tab.len
        omega
      rw [List.getElem?_set_self this] at h2
      obtain rfl := Option.some.inj h2
      exact upd_same
    · rw [List.getElem?_set_ne (fun z => e z.symm)] at h2
      rw [upd_ne (fun z => e (nodup_ix h.nd h1 (by rw [z]; exact hk)))]
      exact h.tab.row i r' l h1 h2
theorem MTab.pop {H0 H : Hp} {t : Addr} {rs : List Addr} {M : List (List Int)} (h : MTab H0 H t rs M) : MTab H0 (upd H t (.lst (rs.map V.ref).dropLast)) t rs.dropLast M.dropLast := by
  have hl := h.tab.len
  refine ⟨⟨?_, ?_, fun i r l h1 h2 => ?_⟩, same_mut h.sm h.nt, h.nt, fun r m => h.nr r (List.dropLast_subset _ m), h.nd.sublist (List.dropLast_sublist _)⟩
  · rw [upd_same, List.map_dropLast]
  · rw [List.length_dropLast, List.length_dropLast, hl]
  · have hi := (List.getElem?_eq_some_iff.mp h1).1
    rw [List.length_dropLast] at hi
    rw [List.getElem?_dropLast, if_pos (by omega)] at h1
    rw [List.getElem?_dropLast, if_pos (by omega)] at h2
    rw [upd_ne (h.tab.ne r (List.mem_of_getElem? h1))]
    exact h.tab.row i r l h1 h2
/-- a table being made at D, row by row: i rows so far -/
def Rows (H : Hp) (D : Addr) (M : Nat → List Int → Prop) (i : Nat) (acc : List V) (H' : Hp) : Prop :=
  ∃ (rs : List Addr) (N : List (List Int)), acc = rs.map V.ref ∧ rs.length = i ∧ N.length = i ∧ rs.Nodup ∧ (∀ (k : Nat) (r : Addr) (l : List Int), rs[k]? = some r → N[k]? = some l → r ≠ D ∧ H r = none ∧ M k l ∧ H' r = some (.lst (l.map V.int)))
theorem Rows.zero {H : Hp} {D : Addr} {M : Nat → List Int → Prop} {H' : Hp} : Rows H D M 0 [] H' := ⟨[], [], rfl, rfl, rfl, List.nodup_nil, fun k r l h => by cases h⟩
theorem Rows.but {H : Hp} {D : Addr} {M : Nat → List Int → Prop} {i : Nat} {acc : List V} {H' H2 : Hp} (e : But D H' H2) (h : Rows H D M i acc H') : Rows H D M i acc H2 := by
  obtain ⟨rs, N, r1, r2, r3, r4, r5⟩ := h
  exact ⟨rs, N, r1, r2, r3, r4, fun k r l h1 h2 => ⟨(r5 k r l h1 h2).1, (r5 k r l h1 h2).2.1, (r5 k r l h1 h2).2.2.1, e _ _ (r5 k r l h1 h2).1 (r5 k r l h1 h2).2.2.2⟩⟩
theorem Rows.snoc {H : Hp} {D : Addr} {M : Nat → List Int → Prop} {i : Nat} {acc : List V} {H' H2 : Hp} {r : Addr} {l : List Int} (s : Same H' H2) (h : Rows H D M i acc H') (hD : H' D ≠ none) (n0 : H r = none) (n : H' r = none) (hr : H2 r = some (.lst (l.map V.int))) (hm : M i l) : Rows H D M (i + 1) (acc ++ [.ref r]) H2 := by
  obtain ⟨rs, N, rfl, r2, r3, r4, r5⟩ := h
  refine ⟨rs ++ [r], N ++ [l], by rw [List.map_append]; rfl, by rw [List.length_append, r2]; rfl, by rw [List.length_append, r3]; rfl, ?_, fun k r' l' h1 h2 => ?_⟩
  · rw [List.nodup_append]
    refine ⟨r4, by simp, fun u hu v hv e => ?_⟩
    rw [List.mem_singleton.mp hv] at e
    subst e
    obtain ⟨k, hk, e⟩ := List.getElem_of_mem hu
    have := (r5 k u _ (by rw [List.getElem?_eq_getElem hk, e]) (List.getElem?_eq_getElem (by omega))).2.2.2
    rw [this] at n
    cases n
  · rcases Nat.lt_or_ge k i with c | c
    · rw [List.getElem?_append_left (by omega)] at h1 h2
      obtain ⟨a1, a2, a3, a4⟩ := r5 k r' l' h1 h2
      exact ⟨a1, a2, a3, s _ _ a4⟩
    · rw [List.getElem?_append_right (by omega), r2] at h1
      rw [List.getElem?_append_right (by omega), r3] at h2
      have : k = i := by
        have := (List.getElem?_eq_some_iff.mp h1).1
        simp at this
        omega
      subst this
      rw [Nat.sub_self] at h1 h2
      obtain rfl : r = r' := Option.some.inj h1
      obtain rfl : l = l' := Option.some.inj h2
      exact ⟨fun z => hD (z ▸ n), n0, hm, hr⟩
theorem Rows.done {H : Hp} {D : Addr} {M : Nat → List Int → Prop} {n : Nat} {acc : List V} {H' : Hp} (h : Rows H D M n acc H') (s : Same H H') (nD : H D = none) (at_ : H' D = some (.lst acc)) : ∃ (rs : List Addr) (N : List (List Int)), MTab H H' D rs N ∧ N.length = n ∧ ∀ k l, N[k]? = some l → M k l := by
  obtain ⟨rs, N, rfl, r2, r3, r4, r5⟩ := h
  refine ⟨rs, N, ⟨⟨at_, by omega, fun i r l h1 h2 => (r5 i r l h1 h2).2.2.2⟩, s, nD, fun r m => ?_, r4⟩, r3, fun k l h => ?_⟩
  · obtain ⟨k, hk, e⟩ := List.getElem_of_mem m
    exact (r5 k r _ (by rw [List.getElem?_eq_getElem hk, e]) (List.getElem?_eq_getElem (by omega))).2.1
  · have := (List.getElem?_eq_some_iff.mp h).1
    exact (r5 k _ l (List.getElem?_eq_getElem (by omega : k < rs.length)) h).2.2.1
/-- a copy -/
theorem Rows.copy {H : Hp} {D : Addr} {M : List (List Int)} {acc : List V} {H' : Hp} (h : Rows H D (fun k l => M[k]? = some l) M.length acc H') (s : Same H H') (nD : H D = none) (at_ : H' D = some (.lst acc)) : ∃ rs : List Addr, MTab H H' D rs M := by
  obtain ⟨rs, N, h1, h2, h3⟩ := h.done s nD at_
  have : N = M := by
    refine List.ext_getElem? fun k => ?_
    rcases Nat.lt_or_ge k N.length with c | c
    · rw [h3 k _ (List.getElem?_eq_getElem c), List.getElem?_eq_getElem c]
    · rw [List.getElem?_eq_none c, List.getElem?_eq_none (by omega)]
  exact ⟨rs, this ▸ h1⟩
/-- a walk over it, by the heap alone -/
theorem wk {J : It} {n : Nat} {G : Hp → Prop} {Y : Nat → Hp → V → Hp → Prop} (w : Walk J n G Y) {B : V → Hp → (Hp → Prop) → Prop} {Fin : Hp → Prop} {H0 : Hp} (Pv : Nat → Hp → Prop) (h0 : Pv 0 H0) (hG : ∀ i H, i ≤ n → Pv i H → G H)
    (hs : ∀ i x H H', i < n → Pv i H → Y i H x H' → B x H' (Pv (i + 1))) (hd : ∀ H, Pv n H → Fin H) :
    ∃ W : Nat → Nat → Hp → Prop, (∃ m, W 0 m H0) ∧ ∀ i m H, W i m H → (J.stop i H ∧ Fin H) ∨ (J.go i H ∧ ∃ Nx : Hp → Prop, (∀ H', Nx H' → ∃ m', m' < m ∧ W (i + 1) m' H') ∧ ∀ x H', J.yld i H x H' → B x H' Nx) := by
  refine ⟨fun i m H => m = n - i ∧ i ≤ n ∧ Pv i H, ⟨n, by simp, Nat.zero_le _, h0⟩, ?_⟩
  rintro i m H ⟨rfl, hi, p⟩
  have q := hG i H hi p
  by_cases hlt : i < n
  · exact .inr ⟨w.goes i H hlt q, Pv (i + 1), fun H' p' => ⟨n - (i + 1), by omega, rfl, hlt, p'⟩, fun x H' y => hs i x H H' hlt p (w.yields i H x H' hlt q y)⟩
  · have e : i = n := by omega
    subst e
    exact .inl ⟨w.stops H q, hd H p⟩
end SH
set_option Elab.async false
set_option linter.all false
set_option maxRecDepth 100000
set_option maxHeartbeats 4000000
/-! a law whose body tells data by repr: what is promised where no repr is under way -/
namespace SH
open PySem PySem.Spec PyProof.Rows L2
/-- a def's promise at such a place -/
structure FnG (P : Program) (w : World) (K : PySem.W.Frag) (mg : Str → Option Value) (base : Heap) (k : Nat) (f : Addr) (fd : FuncData) (ps : List Str) (sp : Sp) : Prop where
  run : ∀ (A : Around) (outer : List Env) (s : Shared) (H : Hp) (args : Args) (us : List Value) (vs : List V) (Q : VK) (E : XK), A.guards = some [] → Room k A → Env0 P w K mg base A outer s H → BindsTo s fd args (ps.zip us) → Vals vs us → sp vs H Q E →
    codeAny (model P w) A (.call (.ref f) args) (CR CX0 outer P w H s Q E) s
theorem okG {P : Program} {w : World} {K : PySem.W.Frag} {mg : Str → Option Value} {base : Heap} {x qual : Str} {st : Stmt} {f : Addr} {fd : FuncData} {N ps : List Str} {k : Nat} {sp : Sp} (F : Fun K x qual st f fd) (S : FnScope N ps (defScope st)) (len : ∀ vs H Q E, sp vs H Q E → vs.length = ps.length)
    (hbody : ∀ (cdv : Value) (A : Around) (outer : List Env) (s : Shared) (H : Hp) (vs : List V) (Q : VK) (E : XK), A.guards = some [] → Room k (A.deeper (envOfC qual (defScope st) s.heap.objs.size f cdv)) → sp vs H Q E →
      ∃ t, PSs (cxOf CX0 P w K mg base N qual (defScope st) f cdv A outer s H E).nox (defBody st) t ∧ t { nx := fun _ H' => Q .non H', rt := Q } (start N vs) H) : FnG P w K mg base (k + 1) f fd ps sp := by
  obtain ⟨oc, od, kV, doc, pm, an, cdv, ct, osl, rfl, lk, hcd⟩ := F.ex
  constructor
  intro A outer s H args us vs Q E hg room env binds vals want
  -- the body's reading, at this place
  obtain ⟨t, body, start_⟩ := hbody cdv A outer s H vs Q E hg (room.deeper _) want
  have up := fun b o e => (env.bs b o e).1
  have KX : K.In s.heap := env.mod.kin.keeps up
  have slots : ∀ y ∈ ps.zip us, (defScope st).names.lookup y.1 = some .local ∨ ((defScope st).names.lookup y.1 = some .cell ∧ ((cellsFrom (s.heap.objs.size + 1) (defScope st).names []).lookup y.1).isSome = true) := fun y hy =>
    (S.par y.1 (List.of_mem_zip (a := y.1) (b := y.2) hy).1).imp id fun q => ⟨q, PySem.W.cellsFrom_some _ _ _ (.inl q)⟩
  refine codeAny_call_function room.depth (KX _ _ lk) rfl S.co S.gen rfl (PySem.W.codeRec_of KX hcd) (binds _ _ _ _ (wpAny_newFunctionEnv_cells S.kind slots fun en eq s1 made => ?_))
  subst eq
  refine ⟨(env.mod.nolimit.keeps up).keeps made.toInCall.keep, codeAny_func ?_⟩
  have I := inv_start (CX := CX0) (E := E) S room.hd env (len _ _ _ _ want) vals made
  refine wpAny_mono (body.nox.run [] s1 (start N vs) H _ I start_) (fun fl s' h => ?_) fun _ _ h => h
  have told : ∀ {σ' : L2.St} {H' : Hp} {v : V} {u : Value}, Inv (cxOf CX0 P w K mg base N qual (defScope st) f cdv A outer s H E) [] σ' H' s' → RelV v u → Q v H' → CE outer P w H s Q u s' := fun J r q => ⟨_, _, J.os, J.bare, J.base, J.hok, r, q⟩
  match fl, h with
  | .ret u, ⟨v, σ', H', J, r, q⟩ => exact told J r q
  | .next, ⟨σ', H', J, q⟩ => exact told (v := V.non) (u := Value.none) J rfl q
  | .brk, ⟨_, _, _, q⟩ => exact q.elim
  | .cont, ⟨_, _, _, q⟩ => exact q.elim
/-- the heap of which a law's call starts: the script is told, where it is no object of the module, and nothing else -/
theorem script_heap {P : Program} {w : World} {K : PySem.W.Frag} {h : Heap} {a : Addr} {vs : List Value} {ns : List Int} (KX : K.In h) (ha : h.get? a = some { cls := .type "list", data := .seq vs.toArray }) (hi : IntsAre vs ns) (hl : ns.length ≤ sizeLine) :
    ∃ H : Hp, Only H ∧ SqL K H a (ns.map V.int) ∧ HOk P w H h ∧ ∀ b, H b ≠ none → b = a ∧ K.lookup a = none := by
  have rv := vals_ints hi
  by_cases hk : ∃ o, K.lookup a = some o
  · obtain ⟨o, hk⟩ := hk
    have e := (KX a o hk).symm.trans ha
    cases e
    exact ⟨fun _ => none, fun _ => .inl rfl, .inr ⟨_, vs.toArray, _, hk, rfl, rfl, rfl, by rw [List.size_toArray, hi.length]; exact hl, by simpa using rv⟩, (fun b u z => nomatch z), fun b z => absurd rfl z⟩
  · have hk : K.lookup a = none := by
      cases e : K.lookup a with
      | none => rfl
      | some o => exact absurd ⟨o, e⟩ hk
    refine ⟨upd (fun _ => none) a (.frz { cls := .type "list", data := .seq vs.toArray } (.lst (ns.map V.int))), fun b => ?_, .inl (.inr ⟨_, upd_same⟩), fun b u z => ?_, fun b z => ?_⟩
    · by_cases hb : b = a
      · subst hb; exact .inr ⟨_, _, upd_same⟩
      · exact .inl (upd_ne hb)
    · by_cases hb : b = a
      · subst hb
        obtain rfl := Option.some.inj (upd_same.symm.trans z)
        exact ⟨ha, by rw [List.length_map]; exact hl, vs, _, rv, ha⟩
      · rw [upd_ne hb] at z
        cases z
    · by_cases hb : b = a
      · exact ⟨hb, hk⟩
      · exact absurd (upd_ne hb) z
/-- a law's end, its def promised where no repr is under way -/
theorem walk_ofG {l : PySem.W.OpenLaw} {n k : Nat} {q : Program} {loose : List Str} {XP : (Str → Option Value) → Heap → Prop} {YP : World → Heap → Prop} {d : DefRec} {K : Params → PySem.W.Frag} {sp : World → Sp} {x : Str}
    (hn : l.most = some n) (hn2 : n ≤ sizeLine) (hdf : d.params.defaults = []) (room : Room k callerA) (hY : ∀ (w : World) (h : Heap), YP w h → (K w.params).In h)
    (F : ∀ (w : World) (mg : Str → Option Value) (fa : Addr) (h : Heap), (K w.params).In h → h.Ns mainGlobals mg → mg d.name = some (.ref fa) →
      ∃ fd : FuncData, (∀ (s : Shared) (u : Value), BindsTo s fd ⟨[u], []⟩ [(x, u)]) ∧ ∀ base : Heap, (K w.params).In base → base.Ns mainGlobals mg → FnG l.prog w (K w.params) mg base k fa fd [x] (sp w))
    (start_ : ∀ (w : World) (H : Hp) (a : Addr) (ns : List Int), ns.length ≤ n → Only H → SqL (K w.params) H a (ns.map V.int) → sp w [.ref a] H (fun v _ => v = .bl true) fun _ _ _ => False) :
    PySem.W.WalkO q loose XP YP l.row.toRowW d [] (fun f vs => PySem.call f vs) := by
  refine Att.attach_call hn hdf fun w s₀ s₁ mg mb fa o pm cd doc a vs ns_ G Y _ _ _ hmg hobj hints hlen hgen => ?_
  have KX := hY w _ Y
  obtain ⟨fd, binds, promise⟩ := F w mg fa _ KX G.T.g hmg
  obtain ⟨H, only, script, hok, own⟩ := script_heap (P := l.prog) (w := w) KX hobj hints (Nat.le_trans hlen hn2)
  -- all that is written, and every dict, is apart from the script
  have free : ∀ {b : Addr}, (b = a → (K w.params).lookup a ≠ none ∨ ∃ (ob : Obj) (es : Array DictEntry) (ep : Nat), s₁.heap.get? a = some ob ∧ ob.data = .dict es ep) → H b = none := fun {b} other => by
    cases z : H b with
    | none => rfl
    | some u =>
      obtain ⟨e1, e2⟩ := own b (by rw [z]; simp)
      rcases other e1 with c | ⟨ob, es, ep, c1, c2⟩
      · exact absurd e2 c
      · rw [hobj] at c1
        cases c1
        cases c2
  have ns : ∀ {b : Addr} {m : Str → Option Value}, s₁.heap.Ns b m → (hidT s₁.heap H).Ns b m := fun {b m} ⟨ob, es, ep, e, dt, r⟩ =>
    ⟨ob, es, ep, hidT_get e (free fun z => .inr ⟨ob, es, ep, z ▸ e, dt⟩), dt, r⟩
  have KB : (K w.params).In (hidT s₁.heap H) := fun b ob e => hidT_get (KX b ob e) (free fun z => .inl (by rw [← z, e]; simp))
  obtain ⟨mc, l1, l2⟩ := G.T.nolimit
  have env : Env0 l.prog w (K w.params) mg (hidT s₁.heap H) callerA [] s₁ H :=
    { frames := rfl, mod := ⟨KB, ns G.T.g, ⟨mb, ns G.T.b, G.T.builtins⟩, mc, ns l1, l2⟩, bs := fun _ _ e => of_hidT e, bsz := Nat.le_of_eq (hidT_size _ _), funs := trivial, frf := (fun _ m => nomatch m), hok := hok, bare := .of_eq hgen }
  refine codeAny_mono ((promise _ KB (ns G.T.g)).run callerA [] s₁ H ⟨[.ref a], []⟩ [.ref a] [.ref a] _ _ rfl room env (binds s₁ (.ref a)) (.cons rfl .nil) (start_ w H a ns_ hlen only script)) fun r s' h => ?_
  match r, h with
  | .ok (.ret u), ⟨v, H', os, bare, un, hok', rel, (q : v = .bl true)⟩ =>
    subst q
    obtain rfl : u = Value.bool true := rel
    refine ⟨rfl, OldK.of_keep fun b ob e => ?_, os, bare⟩
    rcases only b with z | ⟨o2, xs, z⟩
    · exact un.keep b ob e z (fun m => nomatch m) (fun m => nomatch m)
    · have e2 := (hok' b _ (un.frzs b o2 _ z)).1
      rw [(hok b _ z).1] at e
      cases e
      exact e2
end SH
set_option Elab.async false
set_option linter.all false
set_option maxRecDepth 100000
set_option maxHeartbeats 4000000
/-! repr of data -/
namespace SH
open PySem PySem.Spec PyProof.Rows L2
/-- data whose repr is a text of bounded length -/
structure Shw (d : PyData) (n w : Nat) : Prop where
  lay : d.canLay0 = true
  deep : d.depth ≤ n
  wt : d.weight ≤ w
  sint : d.intsShort 13 = true
  shows : d.showable = true
  nd : d.hasDict = false
theorem Shw.mono {d : PyData} {n w n' w' : Nat} (h : Shw d n w) (h1 : n ≤ n') (h2 : w ≤ w') : Shw d n' w' := ⟨h.lay, Nat.le_trans h.deep h1, Nat.le_trans h.wt h2, h.sint, h.shows, h.nd⟩
theorem shw_int {i : Int} (h : i.natAbs < 10 ^ 12) : Shw (.int i) 0 41 := by
  have l : i.natAbs.log2 < 40 := by
    by_cases z : i.natAbs = 0
    · rw [z]; decide
    · exact (Nat.log2_lt z).mpr (Nat.lt_trans h (by decide))
  refine ⟨rfl, Nat.zero_le _, ?_, ?_, ?_, rfl⟩
  · show (if i == 0 then 0 else i.natAbs.log2 + 1) ≤ 41
    split <;> omega
  · show decide _ = true
    exact decide_eq_true (PyData.shown_int_le h)
  · show decide (i.natAbs.log2 < 1920) = true
    exact decide_eq_true (by omega)
theorem shw_str {z : Str} (h : PyData.strOk z = true) : Shw (.str z) 0 z.length := ⟨h, Nat.zero_le _, Nat.le_refl _, rfl, rfl, rfl⟩
theorem shw_all {n w : Nat} : ∀ {ds : List PyData}, (∀ d ∈ ds, Shw d n w) → PyData.canLayAll0 ds = true ∧ PyData.depthAll ds ≤ n ∧ PyData.weightAll ds ≤ ds.length * (w + 1) ∧ PyData.intsShortAll 13 ds = true ∧ PyData.showableAll ds = true ∧ PyData.hasDictAll ds = false
  | [], _ => ⟨rfl, Nat.zero_le _, Nat.zero_le _, rfl, rfl, rfl⟩
  | d :: ds, h => by
    have h1 := h d (List.mem_cons_self ..)
    obtain ⟨a1, a2, a3, a4, a5, a6⟩ := shw_all fun x m => h x (List.mem_cons_of_mem _ m)
    have b2 := h1.deep
    have b3 := h1.wt
    refine ⟨?_, ?_, ?_, ?_, ?_, ?_⟩
    · rw [PyData.canLayAll0, h1.lay, a1]; rfl
    · rw [PyData.depthAll]; omega
    · rw [PyData.weightAll, List.length_cons, Nat.succ_mul]; omega
    · rw [PyData.intsShortAll, h1.sint, a4]; rfl
    · rw [PyData.showableAll, h1.shows, a5]; rfl
    · rw [PyData.hasDictAll, h1.nd, a6]; rfl
theorem shw_list {n w : Nat} {ds : List PyData} (h : ∀ d ∈ ds, Shw d n w) : Shw (.list ds) (n + 1) (ds.length * (w + 1)) := by
  obtain ⟨a1, a2, a3, a4, a5, a6⟩ := shw_all h
  exact ⟨by rw [PyData.canLay0]; exact a1, by rw [PyData.depth]; omega, by rw [PyData.weight]; exact a3, by rw [PyData.intsShort]; exact a4, by rw [PyData.showable]; exact a5, by rw [PyData.hasDict]; exact a6⟩
theorem shw_tup {n w : Nat} {ds : List PyData} (h : ∀ d ∈ ds, Shw d n w) : Shw (.tuple ds) (n + 1) (ds.length * (w + 1)) := by
  obtain ⟨a1, a2, a3, a4, a5, a6⟩ := shw_all h
  exact ⟨by rw [PyData.canLay0]; exact a1, by rw [PyData.depth]; omega, by rw [PyData.weight]; exact a3, by rw [PyData.intsShort]; exact a4, by rw [PyData.showable]; exact a5, by rw [PyData.hasDict]; exact a6⟩
theorem Shw.okd {d : PyData} {n w : Nat} (h : Shw d n w) (hn : n ≤ 60) : Okd d := ⟨h.lay, Nat.le_trans h.deep hn⟩
theorem Shw.fits {d : PyData} {n w : Nat} (h : Shw d n w) (hn : n ≤ 60) (hw : w ≤ 1048576) : d.shown.length ≤ 15728653 := by
  refine PyData.shown_le_of_layable0 ?_ h.sint
  have e : (2 : Nat) ^ 20 = 1048576 := by decide
  show (PyData.canLay0 d && decide (PyData.depth d ≤ 64) && decide (PyData.weight d ≤ 2 ^ 20)) = true
  rw [h.lay, decide_eq_true (by have := h.deep; omega), decide_eq_true (by have := h.wt; omega)]
  rfl
/-- repr(list), repr(tuple) -/
def rRepr (K : PySem.W.Frag) : List V → Hp → VK → Prop := fun xs H Q => ∃ (a : Addr) (d : PyData) (n w : Nat), xs = [.ref a] ∧ Dp K H (.ref a) d ∧ Shw d n w ∧ n ≤ 60 ∧ w ≤ 1048576 ∧ Q (.str d.shown) H
theorem call_reprK {X : Cx} {K : PySem.W.Frag} (hg : X.A.guards = some []) (hu : X.A.units + 64 < cLine) (h : X.K = K := by rfl) : CallR X (.builtin "repr") (rRepr K) := by
  subst h
  intro pins s σ H vs us Q I r q
  obtain ⟨a, d, n, w, rfl, dp, sh, hn, hw, q⟩ := q
  rw [Vals.ref1 r]
  obtain ⟨as, rd⟩ := Dp.reads I d (.ref a) (.ref a) dp rfl
  refine repr_of_reads' rd sh.shows (PyData.noDict_hsm sh.nd) hg (by have := sh.deep; omega) (fun _ _ e => e) (fun h' u tk keep => ?_) (Nat.le_trans (sh.fits hn hw) (by decide))
  exact ⟨.str d.shown, H, I.kept keep, ⟨u, rfl⟩, q⟩
end SH
set_option Elab.async false
set_option linter.all false
set_option maxRecDepth 100000
set_option maxHeartbeats 4000000
/-! checks of distances -/
namespace SH
open PySem PySem.Spec PyProof.Rows L2
theorem ed_chg (a b : Nat) (x y : List Nat) : ed (a :: x) (b :: y) ≤ ed x y + 1 := by
  rw [ed_cons]
  split <;> omega
/-- no alignment is cheaper than the distance -/
theorem ali_price : ∀ (S : List Stp) (x y : List Nat) (k : Nat), ali x S k = .ok y → ed x y ≤ price S
  | [], x, y, k, h => by
    cases x with
    | nil => cases h; rw [ed_nil]; exact Nat.le_refl _
    | cons a x => cases h
  | .put d :: r, x, y, k, h => by
    have h : (ali x r (k + 1)).map (d :: ·) = .ok y := by cases x <;> exact h
    obtain ⟨v, e, rfl⟩ := map_ok (u := [d]) h
    have := ali_price r x v (k + 1) e
    have := ed_put d x v
    rw [price_else rfl]
    exact Nat.le_trans this (by omega)
  | .keep c :: r, [], y, k, h => by cases h
  | .keep c :: r, a :: x, y, k, h => by
    have h : (if a = c then (ali x r (k + 1)).map (c :: ·) else .error k) = .ok y := h
    split at h
    · rename_i e
      subst e
      obtain ⟨v, e, rfl⟩ := map_ok (u := [a]) h
      rw [price_keep]
      show ed (a :: x) (a :: v) ≤ _
      rw [ed_same]
      exact ali_price r x v (k + 1) e
    · cases h
  | .chg c d :: r, [], y, k, h => by cases h
  | .chg c d :: r, a :: x, y, k, h => by
    have h : (if a = c ∧ c ≠ d then (ali x r (k + 1)).map (d :: ·) else .error k) = .ok y := h
    split at h
    · obtain ⟨v, e, rfl⟩ := map_ok (u := [d]) h
      have h1 := ali_price r x v (k + 1) e
      have h2 := ed_chg a d x v
      rw [price_else rfl]
      show ed (a :: x) (d :: v) ≤ _
      omega
    · cases h
  | .out c :: r, [], y, k, h => by cases h
  | .out c :: r, a :: x, y, k, h => by
    have h : (if a = c then ali x r (k + 1) else .error k) = .ok y := h
    split at h
    · have h1 := ali_price r x y (k + 1) h
      have h2 := ed_out a x y
      rw [price_else rfl]
      omega
    · cases h
structure Chk (x y : List Nat) (n : Int) (S : List Stp) (M : List (List Int)) : Prop where
  low : Low x y M
  at_ : cell M 0 0 = n
  ali : ali x S 0 = .ok y
  price : (price S : Int) = n
theorem Chk.dist {x y : List Nat} {n : Int} {S : List Stp} {M : List (List Int)} (h : Chk x y n S M) : n = (ed x y : Nat) := by
  have h1 := low_le h.low _ 0 0 (Nat.zero_le _) (Nat.zero_le _) rfl
  rw [List.drop_zero, List.drop_zero] at h1
  have h2 := ali_price S x y 0 h.ali
  have h3 := h.at_
  have h4 := h.price
  omega
theorem chk_told (x y : List Nat) : Chk x y (ed x y : Nat) (tst x y) (tabE x y) :=
  ⟨tabE_low x y, by rw [tabE_cell (Nat.zero_le _) (Nat.zero_le _), List.drop_zero, List.drop_zero], ali_tst x y 0, by rw [price_tst]⟩
/-- steps and tables told by repr -/
theorem shw_st {s : Stp} (h : stOk s) : Shw (stD s) 1 24 := by
  have one : ∀ {c : Nat}, okc c = true → Shw (.str (s1 c)) 0 6 := fun h => (shw_str (okc_strOk h)).mono (Nat.le_refl _) (by show 1 ≤ 6; decide)
  have t1 : Shw (.str "keep") 0 6 := (shw_str (by decide +kernel)).mono (Nat.le_refl _) (by decide +kernel)
  have t2 : Shw (.str "change") 0 6 := (shw_str (by decide +kernel)).mono (Nat.le_refl _) (by decide +kernel)
  have t3 : Shw (.str "out") 0 6 := (shw_str (by decide +kernel)).mono (Nat.le_refl _) (by decide +kernel)
  have t4 : Shw (.str "put") 0 6 := (shw_str (by decide +kernel)).mono (Nat.le_refl _) (by decide +kernel)
  cases s with
  | keep c => exact (shw_tup (n := 0) (w := 6) (ds := [.str "keep", .str (s1 c)]) fun d m => by
      rcases List.mem_cons.mp m with e | m
      · rw [e]; exact t1
      · rw [List.mem_singleton.mp m]; exact one h).mono (Nat.le_refl _) (by show 2 * 7 ≤ 24; decide)
  | chg c d => exact (shw_tup (n := 0) (w := 6) (ds := [.str "change", .str (s1 c), .str (s1 d)]) fun x m => by
      rcases List.mem_cons.mp m with e | m
      · rw [e]; exact t2
      · rcases List.mem_cons.mp m with e | m
        · rw [e]; exact one h.1
        · rw [List.mem_singleton.mp m]; exact one h.2).mono (Nat.le_refl _) (by show 3 * 7 ≤ 24; decide)
  | out c => exact (shw_tup (n := 0) (w := 6) (ds := [.str "out", .str (s1 c)]) fun d m => by
      rcases List.mem_cons.mp m with e | m
      · rw [e]; exact t3
      · rw [List.mem_singleton.mp m]; exact one h).mono (Nat.le_refl _) (by show 2 * 7 ≤ 24; decide)
  | put c => exact (shw_tup (n := 0) (w := 6) (ds := [.str "put", .str (s1 c)]) fun d m => by
      rcases List.mem_cons.mp m with e | m
      · rw [e]; exact t4
      · rw [List.mem_singleton.mp m]; exact one h).mono (Nat.le_refl _) (by show 2 * 7 ≤ 24; decide)
theorem shw_St {l : List Stp} (h : ∀ s ∈ l, stOk s) (hl : l.length ≤ 1000) : Shw (dSt l) 2 25000 :=
  (shw_list (n := 1) (w := 24) (ds := l.map stD) fun d m => by
    obtain ⟨s, hs, rfl⟩ := List.mem_map.mp m
    exact shw_st (h s hs)).mono (Nat.le_refl _) (by rw [List.length_map]; omega)
theorem shw_I {l : List Int} (h : ∀ n ∈ l, n.natAbs < 10 ^ 12) : Shw (dI l) 1 (l.length * 42) := by
  have := shw_list (n := 0) (w := 41) (ds := l.map PyData.int) fun d m => by
    obtain ⟨s, hs, rfl⟩ := List.mem_map.mp m
    exact shw_int (h s hs)
  rw [List.length_map] at this
  exact this
theorem shw_M {M : List (List Int)} (h : ∀ l ∈ M, l.length ≤ 100 ∧ ∀ n ∈ l, n.natAbs < 10 ^ 12) (hl : M.length ≤ 100) : Shw (dM M) 2 430000 :=
  (shw_list (n := 1) (w := 4200) (ds := M.map dI) fun d m => by
    obtain ⟨l, hm, rfl⟩ := List.mem_map.mp m
    obtain ⟨h1, h2⟩ := h l hm
    exact (shw_I h2).mono (Nat.le_refl _) (by omega)).mono (Nat.le_refl _) (by rw [List.length_map]; omega)
theorem shw_two {d e : PyData} {n w : Nat} (h1 : Shw d n w) (h2 : Shw e n w) : Shw (.tuple [d, e]) (n + 1) (2 * (w + 1)) := shw_tup fun x m => by
  rcases List.mem_cons.mp m with z | m
  · rw [z]; exact h1
  · rw [List.mem_singleton.mp m]; exact h2
/-- the table told: its rows are apart -/
theorem NewTab.made {H H' : Hp} {t : Addr} {rs : List Addr} {x y : List Nat} (s : Same H H') (h : NewTab H H' t rs (tabE x y)) : MTab H H' t rs (tabE x y) := by
  refine ⟨h.1, s, h.2.1, h.2.2, ?_⟩
  have hl := h.1.len
  rw [tabE_len] at hl
  rw [List.nodup_iff_pairwise_ne, List.pairwise_iff_getElem]
  intro i k hi hk lt e
  have r1 := h.1.row i _ _ (List.getElem?_eq_getElem hi) (tabE_at (by omega))
  have r2 := h.1.row k _ _ (List.getElem?_eq_getElem hk) (tabE_at (by omega))
  rw [e, r2] at r1
  have r3 := congrArg (fun l : List V => l[y.length]?) (HO.lst.inj (Option.some.inj r1))
  have r4 : ((rowE (x.drop k) y).map V.int)[y.length]? = ((rowE (x.drop i) y).map V.int)[y.length]? := r3
  rw [List.getElem?_map, List.getElem?_map, rowE_at (Nat.le_refl _), rowE_at (Nat.le_refl _), List.drop_length, ed_nil2, ed_nil2, List.length_drop, List.length_drop] at r4
  have := V.int.inj (Option.some.inj r4)
  omega
/-- a part of a table -/
theorem TabAt.cut {H : Hp} {t : Addr} {rs : List Addr} {M : List (List Int)} (h : TabAt H t rs M) (lo hi : Option Int) : ∃ (rs2 : List Addr) (M2 : List (List Int)), cutV (rs.map V.ref) lo hi = rs2.map V.ref ∧ M2.length ≤ M.length ∧ (∀ l ∈ M2, l ∈ M) ∧ ∀ (H' : Hp) (q : Addr), Same H H' → H' q = some (.lst (rs2.map V.ref)) → TabAt H' q rs2 M2 := by
  have hl := h.len
  refine ⟨(rs.drop (HT.sIx (rs.map V.ref).length 0 lo)).take (HT.sIx (rs.map V.ref).length (rs.map V.ref).length hi - HT.sIx (rs.map V.ref).length 0 lo), (M.drop (HT.sIx (rs.map V.ref).length 0 lo)).take (HT.sIx (rs.map V.ref).length (rs.map V.ref).length hi - HT.sIx (rs.map V.ref).length 0 lo), ?_, ?_, fun l m => List.mem_of_mem_drop (List.mem_of_mem_take m), fun H' q s e => ⟨e, ?_, fun i r l h1 h2 => ?_⟩⟩
  · unfold cutV
    rw [List.map_take, List.map_drop]
  · rw [List.length_take, List.length_drop]
    omega
  · rw [List.length_take, List.length_drop, List.length_take, List.length_drop, hl]
  · rw [List.getElem?_take, List.getElem?_drop] at h1 h2
    split at h1
    · rename_i c
      rw [if_pos c] at h2
      exact s _ _ (h.row _ r l h1 h2)
    · cases h1
theorem TabAt.ne' {H : Hp} {t : Addr} {rs : List Addr} {M : List (List Int)} (h : TabAt H t rs M) (hM : M ≠ []) : ∃ r l, rs[0]? = some r ∧ M[0]? = some l ∧ H r = some (.lst (l.map V.int)) := by
  have hl := h.len
  have : 0 < M.length := Nat.pos_of_ne_zero fun z => hM (List.eq_nil_of_length_eq_zero z)
  exact ⟨_, _, List.getElem?_eq_getElem (by omega), List.getElem?_eq_getElem this, h.row 0 _ _ (List.getElem?_eq_getElem (by omega)) (List.getElem?_eq_getElem this)⟩
end SH
set_option Elab.async false
set_option linter.all false
set_option maxRecDepth 100000
set_option maxHeartbeats 4000000
/-! xs[i] += e -/
namespace SH
open PySem PySem.Spec PyProof.Rows L2
theorem pget_list {X : Cx} : PGet X (rIxL X.K) := by
  intro pins s σ H x y v u Q I rx ry h
  obtain ⟨p, xs, i, z, rfl, rfl, hq, he, q⟩ := h
  cases rx
  obtain ⟨t, rfl⟩ := ry
  obtain ⟨its, r, pl, hz⟩ := I.list hq
  obtain ⟨j, h1, h2, h3, h4, h5⟩ := atI_get he
  obtain ⟨w, ew, rw'⟩ := r.get h2
  have hl := r.length
  have hn := line63
  have fin : EP X pins σ Q w s := ⟨z, H, I, rw', q⟩
  by_cases h0 : 0 ≤ i
  · have hj : i.toNat = j := by
      rw [seqIndex_of h0 h5] at h1
      exact Option.some.inj h1
    exact wpAny_getItem_list pl.isList h0 (by omega) (by rw [hj]; simpa using ew) fin
  · have hj : (i + (its.toArray.size : Int)).toNat = j := by
      rw [seqIndex_neg (by omega) h4] at h1
      rw [List.size_toArray, ← hl]
      exact Option.some.inj h1
    exact wpAny_getItem_list_neg pl.isList (by omega) (by rw [List.size_toArray] <;> omega) (by omega) (by rw [hj]; simpa using ew) fin
theorem pgetK {X : Cx} {K : PySem.W.Frag} (h : X.K = K := by rfl) : PGet X (rIxL K) := h ▸ pget_list
theorem call_len_seqK {X : Cx} {K : PySem.W.Frag} (h : X.K = K := by rfl) : CallR X (.builtin "len") (fun xs H Q => ∃ p ys, xs = [.ref p] ∧ (SqL K H p ys ∨ SqT K H p ys) ∧ Q (.int ys.length) H) := h ▸ call_len_seq
theorem call_list_ofK {X : Cx} {K : PySem.W.Frag} (h : X.K = K := by rfl) : CallR X (.type "list") (fun xs H Q => ∃ p ys, xs = [.ref p] ∧ (SqL K H p ys ∨ SqT K H p ys) ∧ ∀ l, H l = none → Q (.ref l) (upd H l (.lst ys))) := h ▸ call_list_of
end SH
set_option Elab.async false
set_option linter.all false
set_option maxRecDepth 100000
set_option maxHeartbeats 4000000
/-! ends by what they begin with; a while with its own invariant -/
namespace SH
open PySem PySem.Spec PyProof.Rows L2
theorem while_i {c : TT} {tb : TS} {D : Ends} {σ : L2.St} {H : Hp} (W : Nat → L2.St → Hp → Prop) {m : Nat} (h0 : W m σ H)
    (hs : ∀ m σ H, W m σ H → c σ H fun b H1 => if b = true then tb { D with nx := fun σ' H' => ∃ m', m' < m ∧ W m' σ' H', ct := fun σ' H' => ∃ m', m' < m ∧ W m' σ' H', bk := D.nx } σ H1 else D.nx σ H1)
    (mono : ∀ σ H Q Q', (∀ b H1, Q b H1 → Q' b H1) → c σ H Q → c σ H Q') : tWhile c tb D σ H := by
  refine ⟨W, ⟨m, h0⟩, fun m σ H w => mono σ H _ _ (fun b H1 q => ?_) (hs m σ H w)⟩
  cases b with
  | true => exact ⟨_, fun σ' H' x => x, q⟩
  | false => exact q
theorem cut_mid {z : Str} {s n : Nat} (hs : s ≤ z.length) : TL.tl (cutS z (some (s : Int)) (some ((s : Int) + (n : Int)))) = ((TL.tl z).drop s).take n := by
  have e : ((s : Int) + (n : Int)) = ((s + n : Nat) : Int) := by omega
  rw [e]
  show (z.cps.toList.drop (HT.sIx z.length 0 (some (s : Int)))).take (HT.sIx z.length z.length (some ((s + n : Nat) : Int)) - HT.sIx z.length 0 (some (s : Int))) = _
  rw [HT.sIx_nat, HT.sIx_nat, Nat.min_eq_left hs]
  have hl : z.cps.toList.length = z.length := rfl
  rcases Nat.le_total (s + n) z.length with h | h
  · rw [Nat.min_eq_left h, Nat.add_sub_cancel_left]
  · rw [Nat.min_eq_right h, List.take_of_length_le (by rw [List.length_drop, hl]; exact Nat.le_refl _)]
    exact (List.take_of_length_le (by rw [List.length_drop]; show z.length - s ≤ n; omega)).symm
/-! ### the order of lists of signs -/
theorem nl_take : ∀ (n : Nat) (x y : List Nat), ¬ y < x → ¬ y.take n < x.take n
  | 0, _, _, _ => by simp
  | n + 1, [], y, _ => by simp
  | n + 1, a :: x, [], h => absurd (List.Lex.nil : ([] : List Nat) < a :: x) h
  | n + 1, a :: x, b :: y, h => by
    rw [List.take_succ_cons, List.take_succ_cons]
    intro z
    rw [List.cons_lt_cons_iff] at z h
    rcases z with z | ⟨e, z⟩
    · exact h (.inl z)
    · exact nl_take n x y (fun q => h (.inr ⟨e, q⟩)) z
/-- cut to a word's length it is less just where it is -/
theorem take_lt : ∀ (w x : List Nat), x.take w.length < w ↔ x < w
  | [], x => by simp
  | b :: w, [] => by simp
  | b :: w, a :: x => by
    rw [List.length_cons, List.take_succ_cons, List.cons_lt_cons_iff, List.cons_lt_cons_iff, take_lt w x]
theorem take_eq_not_lt {w x : List Nat} (h : x.take w.length = w) : ¬ x < w := fun z => by
  have := (take_lt w x).mpr z
  rw [h] at this
  exact List.lt_irrefl _ this
theorem le3_letters {p q : E3} (h : le3 p q = true) : ¬ TL.tl q.1 < TL.tl p.1 := fun z => by
  unfold le3 at h
  simp only [Bool.not_eq_true', decide_eq_false_iff_not] at h
  exact h (.inl z)
/-- less than all that begin with the word, or beginning with it -/
def prW (w : Str) (b : Bool) (e : E3) : Bool := decide (TL.tl e.1 < TL.tl w) || (b && decide ((TL.tl e.1).take w.length = TL.tl w))
theorem prW_mono {w : Str} {b : Bool} {p q : E3} (h : le3 p q = true) (hq : prW w b q = true) : prW w b p = true := by
  unfold prW at *
  have n := le3_letters h
  have nt := nl_take w.length _ _ n
  rw [Bool.or_eq_true, decide_eq_true_eq] at hq ⊢
  rcases hq with hq | hq
  · refine .inl ?_
    rcases List.le_iff_lt_or_eq.mp (List.not_lt.mp n) with c | c
    · exact List.lt_trans c hq
    · rw [c]; exact hq
  · rw [Bool.and_eq_true, decide_eq_true_eq] at hq
    obtain ⟨rfl, e⟩ := hq
    rw [e] at nt
    rcases List.le_iff_lt_or_eq.mp (List.not_lt.mp nt) with c | c
    · exact .inl ((take_lt _ _).mp c)
    · refine .inr ?_
      rw [Bool.true_and, decide_eq_true_eq]
      exact c
theorem filter_cut {α : Type} {E : List α} {p : α → Bool} {n : Nat} (h1 : ∀ (i : Nat) (h : i < E.length), i < n → p E[i] = true) (h2 : ∀ (i : Nat) (h : i < E.length), n ≤ i → p E[i] = false) : E.filter p = E.take n := by
  conv => lhs; rw [← List.take_append_drop n E]
  rw [List.filter_append]
  have a : (E.take n).filter p = E.take n := List.filter_eq_self.mpr fun x hx => by
    obtain ⟨i, hi, rfl⟩ := List.getElem_of_mem hx
    rw [List.length_take] at hi
    rw [List.getElem_take]
    exact h1 i (by omega) (by omega)
  have b : (E.drop n).filter p = [] := List.filter_eq_nil_iff.mpr fun x hx => by
    obtain ⟨i, hi, rfl⟩ := List.getElem_of_mem hx
    rw [List.length_drop] at hi
    rw [List.getElem_drop, h2 (n + i) (by omega) (by omega)]
    exact Bool.false_ne_true
  rw [a, b, List.append_nil]
theorem filter_or_len {α : Type} {p q : α → Bool} : ∀ {E : List α}, (∀ x ∈ E, ¬ (p x = true ∧ q x = true)) → (E.filter fun x => p x || q x).length = (E.filter p).length + (E.filter q).length
  | [], _ => rfl
  | x :: E, h => by
    have ih := filter_or_len (p := p) (q := q) (E := E) fun y hy => h y (List.mem_cons_of_mem _ hy)
    have hx := h x (List.mem_cons_self ..)
    cases a : p x <;> cases b : q x
    · rw [List.filter_cons_of_neg (by rw [a, b]; decide), List.filter_cons_of_neg (by rw [a]; decide), List.filter_cons_of_neg (by rw [b]; decide), ih]
    · rw [List.filter_cons_of_pos (by rw [a, b]; decide), List.filter_cons_of_neg (by rw [a]; decide), List.filter_cons_of_pos (by rw [b]), List.length_cons, List.length_cons, ih]
      omega
    · rw [List.filter_cons_of_pos (by rw [a, b]; decide), List.filter_cons_of_pos (by rw [a]), List.filter_cons_of_neg (by rw [b]; decide), List.length_cons, List.length_cons, ih]
      omega
    · exact absurd ⟨a, b⟩ hx
/-- the range of a word: from this index .. -/
def rFirst (w : Str) (E : List E3) : Nat := (E.filter fun e => decide (TL.tl e.1 < TL.tl w)).length
/-- .. so many -/
def rMany (w : Str) (E : List E3) : Nat := (E.filter fun e => decide ((TL.tl e.1).take w.length = TL.tl w)).length
theorem prW_f (w : Str) (E : List E3) : (E.filter (prW w false)).length = rFirst w E := by
  unfold rFirst
  congr 2
  funext e
  unfold prW
  simp
theorem prW_t (w : Str) (E : List E3) : (E.filter (prW w true)).length = rFirst w E + rMany w E := by
  unfold rFirst rMany
  rw [← filter_or_len (E := E) fun e _ h => ?_]
  · rfl
  · rw [decide_eq_true_eq, decide_eq_true_eq] at h
    exact take_eq_not_lt h.2 h.1
theorem ordE_pw (h : List (Int × Str)) : (ordE h).Pairwise (fun p q => le3 p q = true) := sort3_pw _
theorem pw_at {α : Type} {r : α → α → Prop} {E : List α} (h : E.Pairwise r) (hr : ∀ x, r x x) {i j : Nat} (hi : i < E.length) (hj : j < E.length) (l : i ≤ j) : r E[i] E[j] := by
  rcases Nat.lt_or_ge i j with c | c
  · exact List.pairwise_iff_getElem.mp h i j hi hj c
  · have : i = j := by omega
    subst this
    exact hr _
theorem le3_refl (p : E3) : le3 p p = true := by
  unfold le3
  rw [decide_eq_false (lex3_irrefl p)]
  rfl
end SH
set_option Elab.async false
set_option linter.all false
set_option maxRecDepth 100000
set_option maxHeartbeats 4000000
/-! < of any data -/
namespace SH
open PySem PySem.Spec PyProof.Rows L2
def rLtD (K : PySem.W.Frag) : V → V → Hp → VK → Prop := fun x y H Q => ∃ d e, Dp K H x d ∧ Dp K H y e ∧ PySem.W.alike d e = true ∧ d ≠ .none ∧ d.depth ≤ 60 ∧ Q (.bl (PySem.W.dataLt d e)) H
theorem op_ltD {X : Cx} (hu : X.A.units + 64 < cLine) : OpR X (compareOp .Lt) (rLtD X.K) := by
  intro pins s σ H x y v u Q I rx ry h
  obtain ⟨d, e, hd, he, al, hn, hdp, q⟩ := h
  obtain ⟨as, r1⟩ := Dp.reads I d x v hd rx
  obtain ⟨bs, r2⟩ := Dp.reads I e y u he ry
  exact PySem.W.lt_data r1 r2 al hn (by omega) ⟨.bl _, H, I, rfl, q⟩
theorem op_ltDK {X : Cx} {K : PySem.W.Frag} (hu : X.A.units + 64 < cLine) (h : X.K = K := by rfl) : OpR X (compareOp .Lt) (rLtD K) := h ▸ op_ltD hu
theorem sl_tupK {X : Cx} {K : PySem.W.Frag} (h : X.K = K := by rfl) : SlR X (rSlT K) := h ▸ sl_tup
end SH
set_option Elab.async false
set_option linter.all false
set_option maxRecDepth 100000
set_option maxHeartbeats 4000000
namespace SH
open PySem PySem.Spec PyProof.Rows L2
def topS (i : Nat) : Stmt := PySem.Challenge.pw_suffixhouse_k34_checks_of_distances.main.body.getD i (.Pass ⟨0, 0, 0, 0⟩)
abbrev s_distance : Stmt := topS 4
abbrev s_distance_table : Stmt := topS 5
abbrev s_alignment : Stmt := topS 6
abbrev s_aligned : Stmt := topS 7
abbrev s_is_low : Stmt := topS 8
abbrev s_check_distance : Stmt := topS 9
abbrev s__row_above : Stmt := topS 10
abbrev s__told_step : Stmt := topS 11
abbrev s__fits : Stmt := topS 12
abbrev s__price : Stmt := topS 13
abbrev s__is_low_at : Stmt := topS 14
abbrev s__law_draws : Stmt := topS 16
abbrev s__law_at : Stmt := topS 17
abbrev s__law_word : Stmt := topS 19
abbrev s__law_near : Stmt := topS 20
abbrev s__law_leads : Stmt := topS 21
abbrev s__law_due : Stmt := topS 22
abbrev s_law : Stmt := topS 23
structure Ea where
  fI : Addr
  c_HouseError : Addr
  c_BadStep : Addr
abbrev s_init : Stmt := inClass (topS 1) 0
structure Txt (K : PySem.W.Frag) (mg : Str → Option Value) (ea : Ea) : Prop where
  b_abs : mg "abs" = none
  b_all : mg "all" = none
  b_bool : mg "bool" = none
  b_enumerate : mg "enumerate" = none
  b_int : mg "int" = none
  b_isinstance : mg "isinstance" = none
  b_len : mg "len" = none
  b_list : mg "list" = none
  b_min : mg "min" = none
  b_range : mg "range" = none
  b_repr : mg "repr" = none
  d_distance : Dd K mg "distance" s_distance ["one", "two"]
  d_distance_table : Dd K mg "distance_table" s_distance_table ["one", "two"]
  d_alignment : Dd K mg "alignment" s_alignment ["one", "two"]
  d_aligned : Dd K mg "aligned" s_aligned ["one", "steps"]
  d_is_low : Dd K mg "is_low" s_is_low ["one", "two", "table"]
  d_check_distance : Dd K mg "check_distance" s_check_distance ["one", "two", "number", "steps", "table"]
  d__row_above : Dd K mg "_row_above" s__row_above ["below", "letter", "two"]
  d__told_step : Dd K mg "_told_step" s__told_step ["one", "two", "table", "i", "j"]
  d__fits : Dd K mg "_fits" s__fits ["step", "letter"]
  d__price : Dd K mg "_price" s__price ["steps"]
  d__is_low_at : Dd K mg "_is_low_at" s__is_low_at ["one", "two", "table", "i", "j"]
  d__law_draws : Dd K mg "_law_draws" s__law_draws ["script"]
  d__law_at : Dd K mg "_law_at" s__law_at ["draws", "k", "many"]
  d__law_word : Dd K mg "_law_word" s__law_word ["draws", "first", "most"]
  d__law_near : Dd K mg "_law_near" s__law_near ["draws", "first", "word"]
  d__law_leads : Dd K mg "_law_leads" s__law_leads ["one", "two", "steps"]
  d__law_due : Dd K mg "_law_due" s__law_due ["one", "two", "number", "steps", "table"]
  d_law : Dd K mg "law" s_law ["script"]
  init : DdI K "HouseError.__init__" s_init ea.fI
  x_HouseError : ErrC K mg "HouseError" ea.c_HouseError ea.fI
  x_BadStep : ErrC K mg "BadStep" ea.c_BadStep ea.fI
  e_BadStep_BadStep : PySem.W.exmOne K (.ref ea.c_BadStep) (.ref ea.c_BadStep) = some true
  e_BadStep_HouseError : PySem.W.exmOne K (.ref ea.c_BadStep) (.ref ea.c_HouseError) = some true
section
variable {P : Program} {w : World} {K : PySem.W.Frag} {mg : Str → Option Value} {base : Heap} {ea : Ea}
theorem sc__law_at : FnScope ["draws", "k", "many"] ["draws", "k", "many"] (defScope s__law_at) := ⟨rfl, rfl, rfl, by decide +kernel, rfl, by decide +kernel, by decide +kernel⟩
theorem ok__law_at (T : Txt K mg ea) : Cl P w K mg base 1 "_law_at" (spDraw K) := by
  have nd := sc__law_at.nd
  refine cl_of T.d__law_at sc__law_at (fun vs H Q E h => ?_) (fun f cdv A outer s H vs Q E hr h => ?_)
  · obtain ⟨a, ns, k, many, rfl, _⟩ := h
    rfl
  · obtain ⟨a, ns, k, many, rfl, hS, hD, h0, h1, hm, q⟩ := h
    refine ⟨_, (pss_cons (ps_if (pt_cmpR op_lt (pv 1) (pe_callB call_len_seq (by rfl) T.b_len PySem.boot_len (pa_cons (pv 0) pa_nil)) (nomark _))
        (pss_one (ps_ret (pe_op op_mod (pe_callTy call_int1 (by rfl) T.b_int (by decide +kernel) (pa_cons (pe_ix (ixl (K := K)) (pv 0) (pv 1) (fun _ _ => rfl)) pa_nil)) (pv 2))))
        pss_nil)
      (pss_one (ps_ret pe_int))), ?_⟩
    refine ⟨_, rfl, _, rfl, _, _, rfl, .inl hS, _, _, rfl, rfl, _, rfl, ite2 (fun e => ?_) (fun e => ?_)⟩
    · have e' := of_decide_eq_true e
      rw [List.length_map] at e'
      obtain ⟨z, hz, hm2⟩ := at_ints h0 e'
      refine ⟨_, rfl, _, rfl, _, _, _, _, rfl, rfl, hS, hz, .inl ⟨_, rfl, _, rfl, _, _, rfl, rfl, hm, ?_⟩⟩
      exact q _ (Int.emod_nonneg _ (by omega)) (Int.emod_lt_of_pos _ hm)
    · exact q 0 (by omega) hm
end

section
variable {P : Program} {w : World} {K : PySem.W.Frag} {mg : Str → Option Value} {base : Heap} {ea : Ea}
/-- the numbers drawn from the script: a new list of small numbers -/
def spDraws (K : PySem.W.Frag) : Sp := fun vs H Q _ => ∃ (a : Addr) (ns : List Int), vs = [.ref a] ∧ SqL K H a (ns.map V.int) ∧ ns.length ≤ 63 ∧
  ∀ (p : Addr) (ds : List Int) (H' : Hp), Same H H' → H p = none → H' p = some (.lst (ds.map V.int)) → Dr ds → Q (.ref p) H'
/-- the list at p so far -/
structure DrAt (H H' : Hp) (p : Addr) (n : Nat) (ds : List Int) : Prop where
  sm : Same H H'
  at_ : H' p = some (.lst (ds.map V.int))
  len : ds.length ≤ n
  all : ∀ z ∈ ds, 0 ≤ z ∧ z < 65536
theorem DrAt.more {H H' : Hp} {p : Addr} {n : Nat} {ds : List Int} (h : DrAt H H' p n ds) (hp : H p = none) {z : Int} (z0 : 0 ≤ z) (z1 : z < 65536) : DrAt H (upd H' p (.lst (ds.map V.int ++ [.int z]))) p (n + 1) (ds ++ [z]) :=
  ⟨same_mut h.sm hp, by rw [upd_same, List.map_append]; rfl, by rw [List.length_append]; have := h.len; simp; omega, fun y hy => by
    rcases List.mem_append.mp hy with m | m
    · exact h.all y m
    · rw [List.mem_singleton.mp m]; exact ⟨z0, z1⟩⟩
theorem DrAt.mono {H H' : Hp} {p : Addr} {n m : Nat} {ds : List Int} (h : DrAt H H' p n ds) (l : n ≤ m) : DrAt H H' p m ds := ⟨h.sm, h.at_, Nat.le_trans h.len l, h.all⟩
theorem sc__law_draws : FnScope ["script", "draws", "k", "rest", "turn", "mixed"] ["script"] (defScope s__law_draws) := ⟨rfl, rfl, rfl, by decide +kernel, rfl, by decide +kernel, by decide +kernel⟩
theorem ok__law_draws (T : Txt K mg ea) : Cl P w K mg base 1 "_law_draws" (spDraws K) := by
  have nd := sc__law_draws.nd
  refine cl_of T.d__law_draws sc__law_draws (fun vs H Q E h => ?_) (fun f cdv A outer s H vs Q E hr h => ?_)
  · obtain ⟨a, ns, rfl, _⟩ := h
    rfl
  · obtain ⟨a, ns, rfl, hS, hl, q⟩ := h
    refine ⟨_, (pss_cons (ps_set (i := 1) nd rfl (.inl rfl) (pe_lst pa_nil))
      (pss_cons (ps_for PassesOwn.never rfl (pi_range1 rfl T.b_range (pa_cons (pe_callB (call_min2 rfl) (by rfl) T.b_min (by decide +kernel) (pa_cons pe_int (pa_cons (pe_callB call_len_seq (by rfl) T.b_len PySem.boot_len (pa_cons (pv 0) pa_nil)) pa_nil))) pa_nil)) (pg_name (i := 2) nd rfl (.inl rfl))
        (pss_cons (ps_set (i := 3) nd rfl (.inl rfl) (pe_callB call_abs (by rfl) T.b_abs (by decide +kernel) (pa_cons (pe_ix (ixl (K := K)) (pv 0) (pv 2) (fun _ _ => rfl)) pa_nil)))
          (pss_one (ps_if (pt_cmpR op_ge (pv 3) (pe_op op_pow pe_int pe_int) (nomark _))
            (pss_one (ps_for PassesOwn.never rfl (pi_range1 rfl T.b_range (pa_cons pe_int pa_nil)) (pg_name (i := 4) nd rfl (.inl rfl))
                (pss_one (ps_if (pt_cmpR op_gt (pv 3) pe_int (nomark _))
                    (pss_cons (ps_expr (pe_bm PySem.F.plainAttrs_list PySem.F.slot_list_append PySem.F.type_list_append mt_append (pv 1) (pa_cons (pe_op op_mod (pe_callTy call_int1 (by rfl) T.b_int (by decide +kernel) (pa_cons (pv 3) pa_nil)) pe_int) pa_nil)))
                      (pss_one (ps_set (i := 3) nd rfl (.inl rfl) (pe_op op_fdiv (pv 3) pe_int))))
                    pss_nil))))
            (pss_cons (ps_set (i := 5) nd rfl (.inl rfl) (pe_op op_mod (pe_callTy call_int1 (by rfl) T.b_int (by decide +kernel) (pa_cons (pe_op op_add (pe_op op_mul (pv 3) pe_int) (pe_op op_mul (pe_op op_add (pv 2) pe_int) pe_int)) pa_nil)) pe_int))
              (pss_cons (ps_set (i := 5) nd rfl (.inl rfl) (pe_op op_mod (pe_callTy call_int1 (by rfl) T.b_int (by decide +kernel) (pa_cons (pe_op op_add (pe_op op_add (pe_op op_mul (pv 5) pe_int) (pe_op op_mul pe_int (pv 2))) pe_int) pa_nil)) pe_int))
              (pss_cons (ps_expr (pe_bm PySem.F.plainAttrs_list PySem.F.slot_list_append PySem.F.type_list_append mt_append (pv 1) (pa_cons (pe_op op_mod (pe_callTy call_int1 (by rfl) T.b_int (by decide +kernel) (pa_cons (pv 5) pa_nil)) pe_int) pa_nil)))
              (pss_one (ps_expr (pe_bm PySem.F.plainAttrs_list PySem.F.slot_list_append PySem.F.type_list_append mt_append (pv 1) (pa_cons (pe_op op_mod (pe_callTy call_int1 (by rfl) T.b_int (by decide +kernel) (pa_cons (pe_op op_fdiv (pv 5) pe_int) pa_nil)) pe_int) pa_nil)))))))))))
      (pss_one (ps_ret (pv 1))))), ?_⟩
    refine ⟨Nat.zero_le _, fun p hp => ?_⟩
    have sm0 : Same H (upd H p (.lst [])) := same_new hp
    have hlen : (ns.map V.int).length = ns.length := List.length_map ..
    refine ⟨_, rfl, _, _, rfl, .inl (sm0.seq hS), _, _, rfl, ?_⟩
    have hm : (if ((ns.map V.int).length : Int) < 63 then ((ns.map V.int).length : Int) else 63) ≤ ns.length ∧ 0 ≤ (if ((ns.map V.int).length : Int) < 63 then ((ns.map V.int).length : Int) else 63) ∧ (if ((ns.map V.int).length : Int) < 63 then ((ns.map V.int).length : Int) else 63) ≤ 63 := by
      rw [hlen]; split <;> omega
    refine ⟨_, rfl, by omega, by omega, ?_⟩
    generalize (if ((ns.map V.int).length : Int) < 63 then ((ns.map V.int).length : Int) else 63) = m at hm ⊢
    obtain ⟨m1, m0, m2⟩ := hm
    refine for_range (lo := 0) (n := m.toNat) (fun i σ H' => ∃ (ds : List Int) (y2 y3 y4 y5 : Option V), σ = [some (.ref a), some (.ref p), y2, y3, y4, y5] ∧ DrAt H H' p (60 * i) ds)
      ⟨[], none, none, none, none, rfl, sm0, upd_same, Nat.zero_le _, fun z hz => by cases hz⟩ (fun i σ H' hi hW => ?_) (fun σ H' hW => ?_)
    · obtain ⟨ds, y2, y3, y4, y5, rfl, hA⟩ := hW
      obtain ⟨z, hz, _⟩ := at_ints (ns := ns) (i := 0 + (i : Int)) (by omega) (by omega)
      refine ⟨_, rfl, _, rfl, _, _, _, _, rfl, rfl, hA.sm.seq hS, hz, _, rfl, ?_⟩
      generalize (if z < 0 then -z else z) = r
      refine ⟨_, rfl, _, _, rfl, rfl, ⟨by decide, by decide, by decide⟩, _, _, rfl, rfl, _, rfl, ite2 (fun e => ?_) (fun e => ?_)⟩
      · -- a great number: its digits
        refine ⟨60, rfl, by decide, by decide, ?_⟩
        refine for_range (lo := 0) (n := 60) (fun j σ H' => ∃ (ds : List Int) (r' : Int) (y4 : Option V), σ = [some (.ref a), some (.ref p), some (.int (0 + (i : Int))), some (.int r'), y4, y5] ∧ DrAt H H' p (60 * i + j) ds)
          ⟨ds, r, y4, rfl, hA⟩ (fun j σ H2 hj hW => ?_) (fun σ H2 hW => ?_)
        · obtain ⟨ds2, r2, y42, rfl, hA2⟩ := hW
          refine ⟨_, rfl, _, _, rfl, rfl, _, rfl, ite2 (fun e => ?_) (fun e => ?_)⟩
          · refine ⟨_, rfl, .inl ⟨rfl, _, SqL.of hA2.at_⟩, _, rfl, .inl ⟨_, rfl, _, _, rfl, rfl, (by show (0 : Int) < 65536; decide), ?_⟩⟩
            refine ⟨p, _, _, rfl, rfl, hA2.at_, ?_, ?_⟩
            · rw [List.length_map]; exact Nat.lt_of_le_of_lt (Nat.le_trans hA2.len (by omega : _ ≤ 4000)) (by decide)
            · refine ⟨_, rfl, _, _, rfl, rfl, (by constructor <;> decide), ?_⟩
              exact ⟨_, _, _, rfl, hA2.more hp (Int.emod_nonneg _ (by decide)) (Int.emod_lt_of_pos _ (by decide))⟩
          · exact ⟨ds2, r2, _, rfl, hA2.mono (by omega)⟩
        · obtain ⟨ds2, r2, y42, rfl, hA2⟩ := hW
          exact ⟨ds2, _, _, _, _, rfl, hA2.mono (by omega)⟩
      · -- a lesser one: two numbers mixed
        refine ⟨_, rfl, _, _, rfl, rfl, .inr (by decide), _, rfl, _, _, rfl, rfl, _, _, rfl, rfl, .inr (by decide), _, _, rfl, rfl, .inl ⟨_, rfl, _, _, rfl, rfl, (by show (0 : Int) < 2147483647; decide), ?_⟩⟩
        refine ⟨_, rfl, _, _, rfl, rfl, .inr (by decide), _, rfl, _, _, rfl, rfl, .inl (by decide), _, _, rfl, rfl, _, _, rfl, rfl, .inl ⟨_, rfl, _, _, rfl, rfl, (by show (0 : Int) < 2147483629; decide), ?_⟩⟩
        have b1 : (ds.map V.int).length < sizeLine := by rw [List.length_map]; exact Nat.lt_of_le_of_lt (Nat.le_trans hA.len (by omega : _ ≤ 4000)) (by decide)
        refine ⟨_, rfl, .inl ⟨rfl, _, SqL.of hA.at_⟩, _, rfl, .inl ⟨_, rfl, _, _, rfl, rfl, (by show (0 : Int) < 65536; decide), p, _, _, rfl, rfl, hA.at_, b1, ?_⟩⟩
        have hB := hA.more hp (z := (((r * 48271 + (0 + (i : Int) + 1) * 69621) % 2147483647 * 16807 + 11 * (0 + (i : Int)) + 5) % 2147483629) % 65536) (Int.emod_nonneg _ (by decide)) (Int.emod_lt_of_pos _ (by decide))
        have b2 : ((ds ++ [(((r * 48271 + (0 + (i : Int) + 1) * 69621) % 2147483647 * 16807 + 11 * (0 + (i : Int)) + 5) % 2147483629) % 65536]).map V.int).length < sizeLine := by rw [List.length_map]; exact Nat.lt_of_le_of_lt (Nat.le_trans hB.len (by omega : _ ≤ 4000)) (by decide)
        refine ⟨_, rfl, .inl ⟨rfl, _, SqL.of hB.at_⟩, _, rfl, _, _, rfl, rfl, (by constructor <;> decide), .inl ⟨_, rfl, _, _, rfl, rfl, (by show (0 : Int) < 32768; decide), p, _, _, rfl, rfl, hB.at_, b2, ?_⟩⟩
        exact ⟨_, _, _, _, _, rfl, (hB.more hp (z := (((r * 48271 + (0 + (i : Int) + 1) * 69621) % 2147483647 * 16807 + 11 * (0 + (i : Int)) + 5) % 2147483629) / 65536 % 32768) (Int.emod_nonneg _ (by decide)) (by have := Int.emod_lt_of_pos ((((r * 48271 + (0 + (i : Int) + 1) * 69621) % 2147483647 * 16807 + 11 * (0 + (i : Int)) + 5) % 2147483629) / 65536) (show (0 : Int) < 32768 by decide); omega)).mono (by omega)⟩
    · obtain ⟨ds, y2, y3, y4, y5, rfl, hA⟩ := hW
      exact ⟨_, rfl, q p ds H' hA.sm hp hA.at_ ⟨Nat.le_trans hA.len (by omega), hA.all⟩⟩
end

section
variable {P : Program} {w : World} {K : PySem.W.Frag} {mg : Str → Option Value} {base : Heap} {ea : Ea}
theorem sc_init : FnScope ["self", "at"] ["self", "at"] (defScope s_init) := ⟨rfl, rfl, rfl, by decide +kernel, rfl, by decide +kernel, by decide +kernel⟩
theorem ok_init (T : Txt K mg ea) : InitOk P w K mg base ea.fI := by
  obtain ⟨fd, F, b, t⟩ := T.init.ex
  refine ⟨fd, F.ok sc_init (fun vs H Q E h => ?_) (fun cdv A outer s H vs Q E hr h => ?_), b, t⟩
  · obtain ⟨a, C, n, rfl, _⟩ := h
    rfl
  · obtain ⟨a, C, n, rfl, To, Tn, hs, ha, q⟩ := h
    refine ⟨_, pss_cons (ps_ost (pv 0) (pv 1)) (pss_one (ps_if (pt_cmpR op_gt (pe_bits (pv 1)) pe_int (nomark _)) pss_never pss_nil)), ?_⟩
    refine ⟨_, rfl, _, rfl, a, C, rfl, To, Tn, .inl ⟨ha, fun dx n1 n2 => ?_⟩⟩
    refine ⟨_, rfl, n, rfl, _, _, rfl, rfl, _, rfl, ?_⟩
    rw [small_bits hs]
    exact iteF (q dx n1 n2)
end

end SH
set_option Elab.async false
set_option linter.all false
set_option maxRecDepth 100000
set_option maxHeartbeats 4000000
namespace SH
open PySem PySem.Spec PyProof.Rows L2
section
variable {P : Program} {w : World} {K : PySem.W.Frag} {mg : Str → Option Value} {base : Heap} {ea : Ea}
/-- the row above: a new list -/
def spRow (K : PySem.W.Frag) : Sp := fun vs H Q _ => ∃ (p : Addr) (c : Nat) (b : Str) (x : List Nat), vs = [.ref p, .str ⟨#[c]⟩, .str b] ∧ SqL K H p ((rowE x (TL.tl b)).map V.int) ∧ b.length ≤ 200 ∧ ∀ (l : Addr) (H' : Hp), Same H H' → H l = none → H' l = some (.lst ((rowE (c :: x) (TL.tl b)).map V.int)) → Q (.ref l) H'
theorem at_row {x y : List Nat} {j : Nat} (h : j ≤ y.length) : atI ((rowE x y).map V.int) (j : Int) = some (.int ((ed x (y.drop j) : Nat) : Int)) := by
  refine atI_nat ?_
  rw [List.getElem?_map, rowE_at h]
  rfl
theorem atI_neg1 {xs : List V} {v : V} (h : xs ≠ []) (hv : xs.getLast? = some v) : atI xs (-1) = some v := by
  obtain ⟨ys, y, rfl⟩ : ∃ ys y, xs = ys ++ [y] := ⟨_, _, (List.dropLast_concat_getLast h).symm⟩
  rw [List.getLast?_append] at hv
  have hv : some y = some v := hv
  rw [← Option.some.inj hv]
  exact atI_last _ _
theorem sc__row_above : FnScope ["below", "letter", "two", "row", "j"] ["below", "letter", "two"] (defScope s__row_above) := ⟨rfl, rfl, rfl, by decide +kernel, rfl, by decide +kernel, by decide +kernel⟩
theorem ok__row_above (T : Txt K mg ea) : Cl P w K mg base 1 "_row_above" (spRow K) := by
  have nd := sc__row_above.nd
  refine cl_of T.d__row_above sc__row_above (fun vs H Q E h => ?_) (fun f cdv A outer s H vs Q E0 hr h => ?_)
  · obtain ⟨p, c, b, x, rfl, _⟩ := h
    rfl
  · obtain ⟨p, c, b, x, rfl, hP, bl, q⟩ := h
    refine ⟨_, (pss_cons (ps_set (i := 3) nd rfl (.inl rfl) (pe_op op_cat (pe_op op_rep (pe_lst (pa_cons pe_int pa_nil)) (pe_callB call_len_str (by rfl) T.b_len PySem.boot_len (pa_cons (pv 2) pa_nil))) (pe_lst (pa_cons (pe_op op_add (pe_ix (ixl (K := K)) (pv 0) (pe_un un_neg pe_int) (fun _ _ => rfl)) pe_int) pa_nil))))
      (pss_cons (ps_for PassesOwn.never rfl (pi_range3 rfl T.b_range (pa_cons (pe_op op_sub (pe_callB call_len_str (by rfl) T.b_len PySem.boot_len (pa_cons (pv 2) pa_nil)) pe_int) (pa_cons (pe_un un_neg pe_int) (pa_cons (pe_un un_neg pe_int) pa_nil)))) (pg_name (i := 4) nd rfl (.inl rfl))
        (pss_one (ps_if (pt_cmpR op_eq (pv 1) (pe_ix ix_str (pv 2) (pv 4) (fun _ _ => rfl)) (nomark _))
            (pss_one (ps_asg (pe_ix (ixl (K := K)) (pv 0) (pe_op op_add (pv 4) pe_int) (fun _ _ => rfl)) (pg_sub (pv 3) (pv 4) set_list)))
            (pss_one (ps_asg (pe_op op_add pe_int (pe_callB (call_min3Nu rfl) (by rfl) T.b_min (by decide +kernel) (pa_cons (pe_ix (ixl (K := K)) (pv 0) (pv 4) (fun _ _ => rfl)) (pa_cons (pe_ix (ixl (K := K)) (pv 3) (pe_op op_add (pv 4) pe_int) (fun _ _ => rfl)) (pa_cons (pe_ix (ixl (K := K)) (pv 0) (pe_op op_add (pv 4) pe_int) (fun _ _ => rfl)) pa_nil))))) (pg_sub (pv 3) (pv 4) set_list))))))
      (pss_one (ps_ret (pv 3))))), ?_⟩
    have zl : (TL.tl b).length = b.length := rfl
    have bs : b.length ≤ sizeLine := Nat.le_trans bl (by decide)
    have en : (TL.tl b).drop b.length = [] := List.drop_eq_nil_of_le (by rw [zl]; exact Nat.le_refl _)
    refine ⟨(by show 1 ≤ sizeLine; decide), fun l1 n1 => ?_⟩
    have s1 := same_new (o := .lst [.int 0]) n1
    refine ⟨_, rfl, b, rfl, bs, ?_⟩
    refine ⟨l1, _, _, rfl, rfl, upd_same, by omega, by omega, (by show 1 * ((b.length : Nat) : Int).toNat ≤ sizeLine; rw [Int.toNat_natCast, Nat.one_mul]; exact bs), fun p2 n2 => ?_⟩
    have s2 := s1.trans (same_new (o := .lst (List.replicate ((b.length : Nat) : Int).toNat [V.int 0]).flatten) n2)
    have at2 : (upd (upd H l1 (.lst [.int 0])) p2 (.lst (List.replicate ((b.length : Nat) : Int).toNat [V.int 0]).flatten)) p2 = some (.lst ((List.replicate b.length (0 : Int)).map V.int)) := by
      rw [upd_same, Int.toNat_natCast, List.flatten_replicate_singleton, List.map_replicate]
    generalize upd (upd H l1 (.lst [.int 0])) p2 (.lst (List.replicate ((b.length : Nat) : Int).toNat [V.int 0]).flatten) = H2 at s2 at2 ⊢
    have last : atI ((rowE x (TL.tl b)).map V.int) (-1) = some (.int ((ed x [] : Nat) : Int)) := by
      refine atI_neg1 ?_ ?_
      · intro z
        have := congrArg List.length z
        rw [List.length_map, rowE_len] at this
        simp at this
      · rw [List.getLast?_eq_getElem?, List.length_map, rowE_len, Nat.add_sub_cancel, List.getElem?_map, rowE_at (Nat.le_refl _), zl, en]
        rfl
    refine ⟨_, rfl, _, rfl, p, _, _, _, rfl, rfl, s2.seq hP, last, _, _, rfl, rfl, ?_⟩
    refine ⟨(by show 1 ≤ sizeLine; decide), fun l3 n3 => ?_⟩
    have s3 := same_new (o := .lst [.int (((ed x [] : Nat) : Int) + 1)]) n3
    refine ⟨p2, l3, _, _, rfl, rfl, s3 _ _ at2, upd_same, ?_, fun l nl => ?_⟩
    · rw [List.length_map, List.length_replicate]
      exact Nat.le_trans (by show b.length + 1 ≤ 1000; omega) (by decide : 1000 ≤ sizeLine)
    have s4 := same_new (o := .lst ((List.replicate b.length (0 : Int)).map V.int ++ [.int (((ed x [] : Nat) : Int) + 1)])) nl
    have sm := (s2.trans s3).trans s4
    have nl0 : H l = none := (s2.trans s3).free nl
    have at4 : (upd (upd H2 l3 (.lst [.int (((ed x [] : Nat) : Int) + 1)])) l (.lst ((List.replicate b.length (0 : Int)).map V.int ++ [.int (((ed x [] : Nat) : Int) + 1)]))) l = some (.lst ((List.replicate b.length (0 : Int) ++ [((ed x [] : Nat) : Int) + 1]).map V.int)) := by
      rw [upd_same, List.map_append]
      rfl
    generalize upd (upd H2 l3 (.lst [.int (((ed x [] : Nat) : Int) + 1)])) l (.lst ((List.replicate b.length (0 : Int)).map V.int ++ [.int (((ed x [] : Nat) : Int) + 1)])) = H4 at sm at4 ⊢
    refine ⟨_, rfl, b, rfl, bs, _, _, rfl, rfl, _, rfl, _, rfl, _, _, _, _, rfl, RgC.neg (by omega) (by omega) (by omega) (by omega), ?_⟩
    refine for_rangeC (lo := (b.length : Int) - 1) (c := -1) (n := ((b.length : Int) - 1 - (-1)).toNat) (fun i σ H' => ∃ (R : List Int) (y4 : Option V), σ = [some (.ref p), some (.str ⟨#[c]⟩), some (.str b), some (.ref l), y4] ∧ Same H H' ∧ H' l = some (.lst (R.map V.int)) ∧ R.length = b.length + 1 ∧ ∀ j, b.length ≤ i + j → j ≤ b.length → R[j]? = some ((ed (c :: x) ((TL.tl b).drop j) : Nat) : Int))
      ⟨_, none, rfl, sm, at4, by rw [List.length_append, List.length_replicate]; rfl, fun j h1 h2 => ?_⟩ (fun i σ H' hi hW => ?_) (fun σ H' hW => ?_)
    · have : j = b.length := by omega
      subst this
      rw [List.getElem?_append_right (by rw [List.length_replicate]; exact Nat.le_refl _), List.length_replicate, Nat.sub_self, en, ed_nil2, ed_nil2]
      rfl
    · obtain ⟨R, y4, rfl, sm, atl, Rl, hR⟩ := hW
      obtain ⟨j, ej, jl⟩ : ∃ j : Nat, (b.length : Int) - 1 + (i : Int) * (-1) = (j : Int) ∧ j + i + 1 = b.length := ⟨b.length - 1 - i, by omega, by omega⟩
      rw [ej]
      have g : (TL.tl b)[j]? = some (TL.tl b)[j] := List.getElem?_eq_getElem (by rw [zl]; omega)
      have dj : (TL.tl b).drop j = (TL.tl b)[j] :: (TL.tl b).drop (j + 1) := drop_cons (by rw [zl]; omega)
      have mem : ∀ {v : Int} {k : Nat}, R[k]? = some v → atI (R.map V.int) (k : Int) = some (.int v) := fun h => atI_nat (by rw [List.getElem?_map, h]; rfl)
      have stp : ∀ {v : Int}, v = ((ed (c :: x) ((TL.tl b).drop j) : Nat) : Int) → ∀ k, b.length ≤ i + 1 + k → k ≤ b.length → (R.set j v)[k]? = some ((ed (c :: x) ((TL.tl b).drop k) : Nat) : Int) := fun {v} ev k h1 h2 => by
        by_cases c : k = j
        · subst c
          rw [List.getElem?_set_self (by omega), ev]
        · rw [List.getElem?_set_ne (fun z => c z.symm)]
          exact hR k (by omega) h2
      have ixj : ixN (R.map V.int).length (j : Int) = some j := by
        rw [List.length_map]
        exact ixN_nat (by omega)
      refine ⟨_, rfl, _, rfl, _, rfl, b, _, _, rfl, rfl, bs, atI_nat g, rfl, _, rfl, ite2 (fun e => ?_) (fun e => ?_)⟩
      · have ec : c = (TL.tl b)[j] := by
          have h := V.str.inj (of_decide_eq_true e)
          have h := Str.mk.inj h
          simpa using h
        have e1 : (j : Int) + 1 = ((j + 1 : Nat) : Int) := by omega
        refine ⟨_, rfl, _, rfl, _, _, rfl, rfl, p, _, _, _, rfl, rfl, sm.seq hP, by rw [e1]; exact at_row (by rw [zl]; omega), _, rfl, _, rfl, l, _, _, j, rfl, rfl, atl, ixj, ?_⟩
        refine ⟨R.set j ((ed x ((TL.tl b).drop (j + 1)) : Nat) : Int), _, rfl, same_mut sm nl0, ?_, by rw [List.length_set, Rl], stp ?_⟩
        · rw [upd_same, List.map_set]
        · rw [dj, ec, ed_same]
      · have ec : c ≠ (TL.tl b)[j] := fun z => e (decide_eq_true (by rw [z]))
        have e1 : (j : Int) + 1 = ((j + 1 : Nat) : Int) := by omega
        refine ⟨_, rfl, _, rfl, p, _, _, _, rfl, rfl, sm.seq hP, at_row (by rw [zl]; omega), ?_⟩
        refine ⟨_, rfl, _, rfl, _, _, rfl, rfl, l, _, _, _, rfl, rfl, SqL.of atl, by rw [e1]; exact mem (hR (j + 1) (by omega) (by omega)), ?_⟩
        refine ⟨_, rfl, _, rfl, _, _, rfl, rfl, p, _, _, _, rfl, rfl, sm.seq hP, by rw [e1]; exact at_row (by rw [zl]; omega), ?_⟩
        refine ⟨_, _, _, _, rfl, nuMin3_int _ _ _, _, _, rfl, rfl, ?_⟩
        refine ⟨_, rfl, _, rfl, l, _, _, j, rfl, rfl, atl, ixj, ?_⟩
        refine ⟨R.set j _, _, rfl, same_mut sm nl0, by rw [upd_same, List.map_set], by rw [List.length_set, Rl], stp ?_⟩
        rw [dj, ed_diff ec]
        omega
    · obtain ⟨R, y4, rfl, sm, atl, Rl, hR⟩ := hW
      refine ⟨_, rfl, q l H' sm nl0 ?_⟩
      rw [atl, rowE_of (x := c :: x) (y := TL.tl b) (l := R) (by rw [zl]; exact Rl) fun j hj => hR j (by omega) (by rw [← zl]; exact hj)]
theorem sc_distance_table : FnScope ["one", "two", "row", "rows", "letter"] ["one", "two"] (defScope s_distance_table) := ⟨rfl, rfl, rfl, by decide +kernel, rfl, by decide +kernel, by decide +kernel⟩
theorem ok_distance_table (T : Txt K mg ea) (c__row_above : Cl P w K mg base 1 "_row_above" (spRow K)) : Cl P w K mg base 2 "distance_table" spTable := by
  have nd := sc_distance_table.nd
  refine cl_of T.d_distance_table sc_distance_table (fun vs H Q E h => ?_) (fun f cdv A outer s H vs Q E0 hr h => ?_)
  · obtain ⟨a, b, rfl, _⟩ := h
    rfl
  · obtain ⟨a, b, rfl, al, bl, q⟩ := h
    refine ⟨_, (pss_cons (ps_set (i := 2) nd rfl (.inl rfl) (pe_listRg3 rfl (by rfl) T.b_list (by rfl) T.b_range (pa_cons (pe_callB call_len_str (by rfl) T.b_len PySem.boot_len (pa_cons (pv 1) pa_nil)) (pa_cons (pe_un un_neg pe_int) (pa_cons (pe_un un_neg pe_int) pa_nil)))))
      (pss_cons (ps_set (i := 3) nd rfl (.inl rfl) (pe_lst (pa_cons (pv 2) pa_nil)))
      (pss_cons (ps_for PassesOwn.never rfl (pi_str (pe_revS (pv 0))) (pg_name (i := 4) nd rfl (.inl rfl))
        (pss_cons (ps_set (i := 2) nd rfl (.inl rfl) (C8.pe_c c__row_above hr (by decide) (by rfl) (pa_cons (pv 2) (pa_cons (pv 4) (pa_cons (pv 1) pa_nil)))))
          (pss_one (ps_expr (pe_bm PySem.F.plainAttrs_list PySem.F.slot_list_append PySem.F.type_list_append mt_append (pv 3) (pa_cons (pv 2) pa_nil))))))
      (pss_one (ps_ret (pe_revLK (K := K) (pv 3))))))), ?_⟩
    have zl : (TL.tl b).length = b.length := rfl
    have za : (TL.tl a).length = a.length := rfl
    have bs : b.length ≤ sizeLine := Nat.le_trans bl (by decide)
    have as : a.length ≤ sizeLine := Nat.le_trans al (by decide)
    refine ⟨_, rfl, b, rfl, bs, _, rfl, _, rfl, _, _, _, _, rfl, RgC.neg (by omega) (by omega) (by omega) (by omega), by omega, fun p np => ?_⟩
    have e0 : rgC (b.length : Int) (-1) ((b.length : Int) - (-1)).toNat = (rowE [] (TL.tl b)).map V.int := by
      unfold rgC rowE
      rw [List.map_map, show ((b.length : Int) - (-1)).toNat = (TL.tl b).length + 1 by rw [zl]; omega]
      refine List.map_congr_left fun j hj => ?_
      have := List.mem_range.mp hj
      show V.int ((b.length : Int) + (j : Int) * (-1)) = V.int ((ed [] ((TL.tl b).drop j) : Nat) : Int)
      rw [ed_nil, List.length_drop, zl]
      congr 1
      omega
    rw [e0]
    have s1 := same_new (o := .lst ((rowE [] (TL.tl b)).map V.int)) np
    have at1 : (upd H p (.lst ((rowE [] (TL.tl b)).map V.int))) p = some (.lst ((rowE [] (TL.tl b)).map V.int)) := upd_same
    generalize upd H p (.lst ((rowE [] (TL.tl b)).map V.int)) = H1 at s1 at1 ⊢
    refine ⟨_, rfl, (by show 1 ≤ sizeLine; decide), fun l nl => ?_⟩
    have s2 := same_new (o := .lst [.ref p]) nl
    have at2 : (upd H1 l (.lst [.ref p])) l = some (.lst [.ref p]) := upd_same
    have at12 := s2 _ _ at1
    have sm2 := s1.trans s2
    have nl0 : H l = none := s1.free nl
    generalize upd H1 l (.lst [.ref p]) = H2 at s2 at2 at12 sm2 ⊢
    refine ⟨_, rfl, a, rfl, as, revS a, rfl, ?_⟩
    refine for_it (walk_str (z := revS a)) (fun i σ H' => ∃ (rs : List Addr) (r : Addr) (y4 : Option V), σ = [some (.str a), some (.str b), some (.ref r), some (.ref l), y4] ∧ Same H H' ∧ H' l = some (.lst (rs.map V.ref)) ∧ rs.length = i + 1 ∧ rs[i]? = some r ∧ (∀ r ∈ rs, H r = none) ∧
        ∀ (k : Nat) (r : Addr), rs[k]? = some r → H' r = some (.lst ((rowE ((TL.tl a).drop (a.length - k)) (TL.tl b)).map V.int)))
      ⟨[p], p, none, rfl, sm2, at2, rfl, rfl, fun r hr => by rw [List.mem_singleton.mp hr]; exact np, fun k r hk => ?_⟩ (fun _ _ _ _ _ => trivial) (fun i x σ Ha Hb hi hW y => ?_) (fun σ H' hW => ?_)
    · have : k = 0 := by
        have := (List.getElem?_eq_some_iff.mp hk).1
        simp at this
        exact this
      subst this
      obtain rfl : p = r := Option.some.inj hk
      rw [Nat.sub_zero, ← za, List.drop_length]
      exact at12
    · obtain ⟨rs, r, y4, rfl, sm, atl, rl, hlast, new, rows⟩ := hW
      obtain ⟨rfl, c, hc, rfl⟩ := y
      have hi : i < a.length := by
        have : (revS a).cps.size = a.length := by show (a.cps.toList.reverse.toArray).size = a.length; rw [List.size_toArray, List.length_reverse]; rfl
        omega
      have hc2 : (TL.tl a).reverse[i]? = some c := by rw [← revS_tl]; show (revS a).cps.toList[i]? = _; rw [Array.getElem?_toList]; exact hc
      rw [List.getElem?_reverse (by rw [za]; exact hi), za] at hc2
      have dr : (TL.tl a).drop (a.length - (i + 1)) = c :: (TL.tl a).drop (a.length - i) := by
        rw [drop_cons (by rw [za]; omega), show a.length - (i + 1) + 1 = a.length - i by omega]
        congr 1
        have := List.getElem?_eq_some_iff.mp hc2
        obtain ⟨h1, h2⟩ := this
        rw [← h2]
        congr 1
        omega
      refine ⟨_, rfl, _, rfl, _, rfl, r, c, b, (TL.tl a).drop (a.length - i), rfl, SqL.of (rows i r hlast), bl, fun r2 H3 s3 nr2 at3 => ?_⟩
      rw [← dr] at at3
      have atl3 := s3 _ _ atl
      refine ⟨_, rfl, .inl ⟨rfl, _, SqL.of atl3⟩, _, rfl, l, _, _, rfl, rfl, atl3, ?_, ?_⟩
      · rw [List.length_map, rl]
        exact Nat.lt_of_le_of_lt (by omega : i + 1 ≤ 1000) (by decide)
      · have r2l : r2 ≠ l := fun z => by rw [z, atl] at nr2; cases nr2
        have ne : ∀ r ∈ rs, r ≠ l := fun r hr z => by
          obtain ⟨k, hk, e⟩ := List.getElem_of_mem hr
          have h1 := rows k r (by rw [List.getElem?_eq_getElem hk, e])
          rw [z, atl] at h1
          have h2 := congrArg (fun l : List V => l[0]?) (HO.lst.inj (Option.some.inj h1))
          have h3 : (rs.map V.ref)[0]? = ((rowE ((TL.tl a).drop (a.length - k)) (TL.tl b)).map V.int)[0]? := h2
          rw [List.getElem?_map, List.getElem?_map, rowE_at (Nat.zero_le _), List.getElem?_eq_getElem (by omega : 0 < rs.length)] at h3
          cases h3
        refine ⟨rs ++ [r2], r2, _, rfl, same_mut (sm.trans s3) nl0, by rw [upd_same, List.map_append]; rfl, by rw [List.length_append, rl]; rfl, ?_, fun r hr => ?_, fun k r hk => ?_⟩
        · rw [List.getElem?_append_right (by omega), rl, Nat.sub_self]
          rfl
        · rcases List.mem_append.mp hr with m | m
          · exact new r m
          · rw [List.mem_singleton.mp m]
            exact sm.free nr2
        · rcases Nat.lt_or_ge k (i + 1) with h | h
          · rw [List.getElem?_append_left (by omega)] at hk
            rw [upd_ne (ne r (List.mem_of_getElem? hk))]
            exact s3 _ _ (rows k r hk)
          · rw [List.getElem?_append_right (by omega), rl] at hk
            have : k = i + 1 := by
              have := (List.getElem?_eq_some_iff.mp hk).1
              simp at this
              omega
            subst this
            rw [Nat.sub_self] at hk
            obtain rfl : r2 = r := Option.some.inj hk
            rw [upd_ne r2l]
            exact at3
    · obtain ⟨rs, r, y4, rfl, sm, atl, rl, hlast, new, rows⟩ := hW
      have ra : (revS a).cps.size = a.length := by show (a.cps.toList.reverse.toArray).size = a.length; rw [List.size_toArray, List.length_reverse]; rfl
      rw [ra] at rl hlast
      refine ⟨_, rfl, l, _, rfl, SqL.of atl, fun t nt => ?_⟩
      have st := same_new (o := .lst (rs.map V.ref).reverse) nt
      refine q t rs.reverse _ (sm.trans st) ⟨⟨?_, ?_, fun i r l2 h1 h2 => ?_⟩, sm.free nt, fun r hr => new r (List.mem_reverse.mp hr)⟩
      · rw [upd_same, List.map_reverse]
      · rw [List.length_reverse, rl, tabE_len, za]
      · have il : i < rs.length := by
          have := (List.getElem?_eq_some_iff.mp h1).1
          rwa [List.length_reverse] at this
        rw [List.getElem?_reverse il] at h1
        rw [tabE_at (by rw [za]; omega)] at h2
        obtain rfl := Option.some.inj h2
        have := st _ _ (rows _ _ h1)
        rw [this, rl, show a.length - (a.length + 1 - 1 - i) = i by omega]
end

section
variable {P : Program} {w : World} {K : PySem.W.Frag} {mg : Str → Option Value} {base : Heap} {ea : Ea}
def spDist : Sp := fun vs H Q _ => ∃ a b : Str, vs = [.str a, .str b] ∧ a.length ≤ 200 ∧ b.length ≤ 200 ∧ ∀ (H' : Hp), Same H H' → Q (.int (ed (TL.tl a) (TL.tl b) : Nat)) H'
theorem tab00 {H : Hp} {t : Addr} {rs : List Addr} {x y : List Nat} (h : TabAt H t rs (tabE x y)) : ∃ r, rs[0]? = some r ∧ H r = some (.lst ((rowE x y).map V.int)) ∧ atI (rs.map V.ref) 0 = some (.ref r) ∧ atI ((rowE x y).map V.int) 0 = some (.int (ed x y : Nat)) := by
  have l := h.len
  rw [tabE_len] at l
  have e : rs[0]? = some (rs[0]'(by omega)) := List.getElem?_eq_getElem (by omega)
  refine ⟨_, e, h.row 0 _ _ e (tabE_at (Nat.zero_le _)), atI_nat (j := 0) (by rw [List.getElem?_map, e]; rfl), atI_nat (j := 0) ?_⟩
  rw [List.getElem?_map, rowE_at (Nat.zero_le _)]
  rfl
theorem sc_distance : FnScope ["one", "two"] ["one", "two"] (defScope s_distance) := ⟨rfl, rfl, rfl, by decide +kernel, rfl, by decide +kernel, by decide +kernel⟩
theorem ok_distance (T : Txt K mg ea) (c_distance_table : Cl P w K mg base 2 "distance_table" spTable) : Cl P w K mg base 3 "distance" spDist := by
  have nd := sc_distance.nd
  refine cl_of T.d_distance sc_distance (fun vs H Q E h => ?_) (fun f cdv A outer s H vs Q E0 hr h => ?_)
  · obtain ⟨a, b, rfl, _⟩ := h
    rfl
  · obtain ⟨a, b, rfl, al, bl, q⟩ := h
    refine ⟨_, (pss_one (ps_ret (pe_ix (ixl (K := K)) (pe_ix (ixl (K := K)) (C8.pe_c c_distance_table hr (by decide) (by rfl) (pa_cons (pv 0) (pa_cons (pv 1) pa_nil))) pe_int (fun _ _ => rfl)) pe_int (fun _ _ => rfl)))), ?_⟩
    refine ⟨_, rfl, _, rfl, a, b, rfl, al, bl, fun t rs H' sm nt => ?_⟩
    obtain ⟨r, h1, h2, h3, h4⟩ := tab00 nt.1
    exact ⟨t, _, _, _, rfl, rfl, SqL.of nt.1.at_, h3, r, _, _, _, rfl, rfl, SqL.of h2, h4, q H' sm⟩
end

end SH
set_option Elab.async false
set_option linter.all false
set_option maxRecDepth 100000
set_option maxHeartbeats 4000000
namespace SH
open PySem PySem.Spec PyProof.Rows L2
section
variable {P : Program} {w : World} {K : PySem.W.Frag} {mg : Str → Option Value} {base : Heap} {ea : Ea}
/-- a word drawn -/
def spWord3 (K : PySem.W.Frag) : Sp := fun vs H Q _ => ∃ (a : Addr) (ns : List Int) (k : Int) (most : Nat), vs = [.ref a, .int k, .int most] ∧ SqL K H a (ns.map V.int) ∧ Dr ns ∧ 0 ≤ k ∧ k < 50000 ∧ most ≤ 40 ∧
  ∀ (z : Str) (H' : Hp), Same H H' → IsLet z → z.length ≤ most → Q (.str z) H'
theorem sc__law_word : FnScope ["draws", "first", "most", "menu", "out", "k"] ["draws", "first", "most"] (defScope s__law_word) := ⟨rfl, rfl, rfl, by decide +kernel, rfl, by decide +kernel, by decide +kernel⟩
theorem ok__law_word (T : Txt K mg ea) (c__law_at : Cl P w K mg base 1 "_law_at" (spDraw K)) : Cl P w K mg base 2 "_law_word" (spWord3 K) := by
  have nd := sc__law_word.nd
  refine cl_of T.d__law_word sc__law_word (fun vs H Q E h => ?_) (fun f cdv A outer s H vs Q E hr h => ?_)
  · obtain ⟨a, ns, k, most, rfl, _⟩ := h
    rfl
  · obtain ⟨a, ns, k, most, rfl, hS, hD, h0, h1, hm, q⟩ := h
    refine ⟨_, (pss_cons (ps_set (i := 3) nd rfl (.inl rfl) (pe_ix (ixl (K := K)) (pe_lst (pa_cons pe_str (pa_cons pe_str (pa_cons pe_str (pa_cons pe_str pa_nil))))) (C8.pe_c c__law_at hr (by decide) (by rfl) (pa_cons (pv 0) (pa_cons (pe_op op_add (pv 1) pe_int) (pa_cons pe_int pa_nil)))) (fun _ _ => rfl)))
      (pss_cons (ps_set (i := 4) nd rfl (.inl rfl) pe_str)
      (pss_cons (ps_for PassesOwn.never rfl (pi_range1 rfl T.b_range (pa_cons (C8.pe_c c__law_at hr (by decide) (by rfl) (pa_cons (pv 0) (pa_cons (pv 1) (pa_cons (pe_op op_add (pv 2) pe_int) pa_nil)))) pa_nil)) (pg_name (i := 5) nd rfl (.inl rfl))
        (pss_one (ps_set (i := 4) nd rfl (.inl rfl) (pe_op op_add_str (pv 4) (pe_ix ix_str (pv 3) (pe_op op_mod (pe_callTy call_int1 (by rfl) T.b_int (by decide +kernel) (pa_cons (pe_op op_fdiv (C8.pe_c c__law_at hr (by decide) (by rfl) (pa_cons (pv 0) (pa_cons (pe_op op_add (pe_op op_add (pv 1) pe_int) (pe_op op_mod (pe_callTy call_int1 (by rfl) T.b_int (by decide +kernel) (pa_cons (pv 5) pa_nil)) pe_int)) (pa_cons pe_int pa_nil)))) (pe_op op_add pe_int (pe_op op_fdiv (pv 5) pe_int))) pa_nil)) (pe_callB call_len_str (by rfl) T.b_len PySem.boot_len (pa_cons (pv 3) pa_nil))) (fun _ _ => rfl))))))
      (pss_one (ps_ret (pv 4)))))), ?_⟩
    refine ⟨(by show 4 ≤ sizeLine; decide), fun l nl => ?_⟩
    have s1 : Same H (upd H l (.lst ([("ab" : Str), "abc", "a", "ab ~"].map V.str))) := same_new nl
    repeat (first | refine ⟨_, rfl, ?_⟩ | refine ⟨rfl, ?_⟩ | refine ⟨_, _, rfl, rfl, ?_⟩ | refine ⟨_, _, _, rfl, rfl, ?_⟩)
    refine ⟨a, ns, _, 4, rfl, s1.seq hS, hD, by omega, by omega, by omega, fun word w0 w1 => ?_⟩
    obtain ⟨x, hx, hxm⟩ := at_map V.str (xs := [("ab" : Str), "abc", "a", "ab ~"]) (i := word) w0 w1
    have hx1 : IsLet x ∧ 1 ≤ x.length ∧ x.length ≤ 4 := by
      simp only [List.mem_cons, List.not_mem_nil, or_false] at hxm
      rcases hxm with e | e | e | e <;> subst e <;> exact ⟨by decide, by decide, by decide⟩
    refine ⟨l, _, word, .str x, rfl, rfl, .inl (.inl upd_same), hx, ?_⟩
    repeat (first | refine ⟨_, rfl, ?_⟩ | refine ⟨rfl, ?_⟩ | refine ⟨_, _, rfl, rfl, ?_⟩ | refine ⟨_, _, _, rfl, rfl, ?_⟩)
    refine ⟨a, ns, k, (most : Int) + 1, rfl, s1.seq hS, hD, by omega, by omega, by omega, fun r r0 r1 => ?_⟩
    refine ⟨r, rfl, by omega, by omega, ?_⟩
    have s2 : Same H (upd H l (.lst [.str "ab", .str "abc", .str "a", .str "ab ~"])) := s1
    generalize upd H l (.lst [.str "ab", .str "abc", .str "a", .str "ab ~"]) = H1 at s2 ⊢
    refine for_range (lo := 0) (n := r.toNat) (fun i σ H' => H' = H1 ∧ ∃ (z : Str) (y5 : Option V), σ = [some (.ref a), some (.int k), some (.int most), some (.str x), some (.str z), y5] ∧ IsLet z ∧ z.length ≤ i)
      ⟨rfl, "", none, rfl, by decide, Nat.zero_le _⟩ (fun i σ H' hi hW => ?_) (fun σ H' hW => ?_)
    · obtain ⟨rfl, z, y5, rfl, zl, zn⟩ := hW
      repeat (first | refine ⟨_, rfl, ?_⟩ | refine ⟨rfl, ?_⟩ | refine ⟨_, _, rfl, rfl, ?_⟩ | refine ⟨_, _, _, rfl, rfl, ?_⟩)
      refine .inl ⟨_, rfl, _, _, rfl, rfl, (by show (0 : Int) < 9; decide), ?_⟩
      repeat (first | refine ⟨_, rfl, ?_⟩ | refine ⟨rfl, ?_⟩ | refine ⟨_, _, rfl, rfl, ?_⟩ | refine ⟨_, _, _, rfl, rfl, ?_⟩)
      refine ⟨a, ns, _, 60000, rfl, s2.seq hS, hD, by omega, by omega, by omega, fun g g0 g1 => ?_⟩
      repeat (first | refine ⟨_, rfl, ?_⟩ | refine ⟨rfl, ?_⟩ | refine ⟨_, _, rfl, rfl, ?_⟩ | refine ⟨_, _, _, rfl, rfl, ?_⟩)
      refine ⟨⟨by decide, by decide⟩, ?_⟩
      repeat (first | refine ⟨_, rfl, ?_⟩ | refine ⟨rfl, ?_⟩ | refine ⟨_, _, rfl, rfl, ?_⟩ | refine ⟨_, _, _, rfl, rfl, ?_⟩)
      refine ⟨by unfold CDiv; omega, .inl ⟨_, rfl, _, rfl, x, rfl, Nat.le_trans hx1.2.2 (by decide), _, _, rfl, rfl, (by show (0 : Int) < (x.length : Int); omega), ?_⟩⟩
      refine ixs_let hx1.1 (Nat.le_trans hx1.2.2 (by decide)) (Int.emod_nonneg _ (by omega)) (by show _ % (x.length : Int) < (x.length : Int); exact Int.emod_lt_of_pos _ (by omega)) fun c hc => ?_
      have e1 : (⟨#[c]⟩ : Str).length = 1 := rfl
      refine ⟨z, ⟨#[c]⟩, rfl, rfl, Nat.le_trans (by rw [e1]; omega : _ ≤ 1000) (by decide), rfl, z ++ ⟨#[c]⟩, _, rfl, let_app zl (let_one hc), ?_⟩
      rw [len_app, e1]
      omega
    · obtain ⟨rfl, z, y5, rfl, zl, zn⟩ := hW
      exact ⟨_, rfl, q z _ s2 zl (by omega)⟩
/-- a word near to one -/
def spNear (K : PySem.W.Frag) : Sp := fun vs H Q _ => ∃ (a : Addr) (ns : List Int) (k : Int) (x : Str), vs = [.ref a, .int k, .str x] ∧ SqL K H a (ns.map V.int) ∧ Dr ns ∧ 0 ≤ k ∧ k < 50000 ∧ IsLet x ∧ x.length ≤ 100 ∧
  ∀ (z : Str) (H' : Hp), Same H H' → IsLet z → z.length ≤ x.length + 3 → Q (.str z) H'
theorem sc__law_near : FnScope ["draws", "first", "word", "turn", "place", "cell", "letter"] ["draws", "first", "word"] (defScope s__law_near) := ⟨rfl, rfl, rfl, by decide +kernel, rfl, by decide +kernel, by decide +kernel⟩
theorem ok__law_near (T : Txt K mg ea) (c__law_at : Cl P w K mg base 1 "_law_at" (spDraw K)) : Cl P w K mg base 2 "_law_near" (spNear K) := by
  have nd := sc__law_near.nd
  refine cl_of T.d__law_near sc__law_near (fun vs H Q E h => ?_) (fun f cdv A outer s H vs Q E hr h => ?_)
  · obtain ⟨a, ns, k, x, rfl, _⟩ := h
    rfl
  · obtain ⟨a, ns, k, x, rfl, hS, hD, h0, h1, xl, xn, q⟩ := h
    refine ⟨_, (pss_cons (ps_for PassesOwn.never rfl (pi_range1 rfl T.b_range (pa_cons (C8.pe_c c__law_at hr (by decide) (by rfl) (pa_cons (pv 0) (pa_cons (pv 1) (pa_cons pe_int pa_nil)))) pa_nil)) (pg_name (i := 3) nd rfl (.inl rfl))
        (pss_cons (ps_set (i := 4) nd rfl (.inl rfl) (C8.pe_c c__law_at hr (by decide) (by rfl) (pa_cons (pv 0) (pa_cons (pe_op op_add (pe_op op_add (pv 1) pe_int) (pe_op op_mul pe_int (pv 3))) (pa_cons (pe_op op_add (pe_callB call_len_str (by rfl) T.b_len PySem.boot_len (pa_cons (pv 2) pa_nil)) pe_int) pa_nil)))))
          (pss_cons (ps_set (i := 5) nd rfl (.inl rfl) (C8.pe_c c__law_at hr (by decide) (by rfl) (pa_cons (pv 0) (pa_cons (pe_op op_add (pe_op op_add (pv 1) pe_int) (pe_op op_mul pe_int (pv 3))) (pa_cons pe_int pa_nil)))))
          (pss_cons (ps_set (i := 6) nd rfl (.inl rfl) (pe_ix ix_str pe_str (pe_op op_mod (pe_callTy call_int1 (by rfl) T.b_int (by decide +kernel) (pa_cons (pe_op op_fdiv (pv 5) pe_int) pa_nil)) pe_int) (fun _ _ => rfl)))
          (pss_one (ps_if (pt_cmpR op_eq (pe_op op_mod (pe_callTy call_int1 (by rfl) T.b_int (by decide +kernel) (pa_cons (pv 5) pa_nil)) pe_int) pe_int (nomark _))
            (pss_one (ps_set (i := 2) nd rfl (.inl rfl) (pe_op op_add_str (pe_op op_add_str (pe_slice sl_str (pv 2) po_none (po_some (pv 4))) (pv 6)) (pe_slice sl_str (pv 2) (po_some (pv 4)) po_none))))
            (pss_one (ps_if (pt_cmpR op_eq (pe_op op_mod (pe_callTy call_int1 (by rfl) T.b_int (by decide +kernel) (pa_cons (pv 5) pa_nil)) pe_int) pe_int (nomark _))
                (pss_one (ps_set (i := 2) nd rfl (.inl rfl) (pe_op op_add_str (pe_slice sl_str (pv 2) po_none (po_some (pv 4))) (pe_slice sl_str (pv 2) (po_some (pe_op op_add (pv 4) pe_int)) po_none))))
                (pss_one (ps_set (i := 2) nd rfl (.inl rfl) (pe_op op_add_str (pe_op op_add_str (pe_slice sl_str (pv 2) po_none (po_some (pv 4))) (pv 6)) (pe_slice sl_str (pv 2) (po_some (pe_op op_add (pv 4) pe_int)) po_none))))))))))))
      (pss_one (ps_ret (pv 2)))), ?_⟩
    refine ⟨_, rfl, _, rfl, a, ns, k, 4, rfl, hS, hD, h0, by omega, by omega, fun r r0 r1 => ?_⟩
    refine ⟨r, rfl, by omega, by omega, ?_⟩
    refine for_range (lo := 0) (n := r.toNat) (fun i σ H' => H' = H ∧ ∃ (z : Str) (y3 y4 y5 y6 : Option V), σ = [some (.ref a), some (.int k), some (.str z), y3, y4, y5, y6] ∧ IsLet z ∧ z.length ≤ x.length + i)
      ⟨rfl, x, none, none, none, none, rfl, xl, Nat.le_refl _⟩ (fun i σ H' hi hW => ?_) (fun σ H' hW => ?_)
    · obtain ⟨rfl, z, y3, y4, y5, y6, rfl, zl, zn⟩ := hW
      have zs : z.length ≤ sizeLine := Nat.le_trans (by omega : z.length ≤ 1000) (by decide)
      repeat (first | refine ⟨_, rfl, ?_⟩ | refine ⟨rfl, ?_⟩ | refine ⟨_, _, rfl, rfl, ?_⟩ | refine ⟨_, _, _, rfl, rfl, ?_⟩)
      refine ⟨.inl (by decide), ?_⟩
      repeat (first | refine ⟨_, rfl, ?_⟩ | refine ⟨rfl, ?_⟩ | refine ⟨_, _, rfl, rfl, ?_⟩ | refine ⟨_, _, _, rfl, rfl, ?_⟩)
      refine ⟨zs, ?_⟩
      repeat (first | refine ⟨_, rfl, ?_⟩ | refine ⟨rfl, ?_⟩ | refine ⟨_, _, rfl, rfl, ?_⟩ | refine ⟨_, _, _, rfl, rfl, ?_⟩)
      refine ⟨a, ns, _, (z.length : Int) + 1, rfl, hS, hD, by omega, by omega, by omega, fun p p0 p1 => ?_⟩
      repeat (first | refine ⟨_, rfl, ?_⟩ | refine ⟨rfl, ?_⟩ | refine ⟨_, _, rfl, rfl, ?_⟩ | refine ⟨_, _, _, rfl, rfl, ?_⟩)
      refine ⟨.inl (by decide), ?_⟩
      repeat (first | refine ⟨_, rfl, ?_⟩ | refine ⟨rfl, ?_⟩ | refine ⟨_, _, rfl, rfl, ?_⟩ | refine ⟨_, _, _, rfl, rfl, ?_⟩)
      refine ⟨a, ns, _, 60000, rfl, hS, hD, by omega, by omega, by omega, fun g g0 g1 => ?_⟩
      obtain ⟨p, rfl⟩ : ∃ n : Nat, p = n := ⟨p.toNat, by omega⟩
      repeat (first | refine ⟨_, rfl, ?_⟩ | refine ⟨rfl, ?_⟩ | refine ⟨_, _, rfl, rfl, ?_⟩ | refine ⟨_, _, _, rfl, rfl, ?_⟩)
      refine ⟨by constructor <;> decide, .inl ⟨_, rfl, _, _, rfl, rfl, (by show (0 : Int) < 4; decide), ?_⟩⟩
      refine ixs_let (z := "abc~") (by decide) (by decide) (Int.emod_nonneg _ (by decide)) (by show _ % 4 < (4 : Int); exact Int.emod_lt_of_pos _ (by decide)) fun c hc => ?_
      have e1 : (⟨#[c]⟩ : Str).length = 1 := rfl
      have c1 : IsLet (cutS z none (some (p : Int))) := cut_let zl _ _
      have c2 : IsLet (cutS z (some (p : Int)) none) := cut_let zl _ _
      have c3 : IsLet (cutS z (some ((p : Int) + 1)) none) := cut_let zl _ _
      have l1 : (cutS z none (some (p : Int))).length = p := by
        have := congrArg List.length (cuts_take z p)
        rw [List.length_take] at this
        have h1 : (TL.tl (cutS z none (some (p : Int)))).length = (cutS z none (some (p : Int))).length := rfl
        have h2 : (TL.tl z).length = z.length := rfl
        omega
      have l2 : (cutS z (some (p : Int)) none).length = z.length - p := suf_len z p
      have l3 : (cutS z (some ((p : Int) + 1)) none).length = z.length - (p + 1) := by
        rw [show ((p : Int) + 1) = ((p + 1 : Nat) : Int) by omega]
        exact suf_len z (p + 1)
      have fin : ∀ (w : Str) (a1 a2 a3 a4 : Option V), IsLet w → w.length ≤ x.length + (i + 1) → H' = H' ∧ ∃ (z : Str) (y3 y4 y5 y6 : Option V), [some (V.ref a), some (.int k), some (.str w), a1, a2, a3, a4] = [some (.ref a), some (.int k), some (.str z), y3, y4, y5, y6] ∧ IsLet z ∧ z.length ≤ x.length + (i + 1) := fun w _ _ _ _ h1 h2 => ⟨rfl, w, _, _, _, _, rfl, h1, h2⟩
      have big : ∀ n : Nat, n ≤ 1000 → n ≤ sizeLine := fun n h => Nat.le_trans h (by decide)
      refine ⟨_, rfl, .inl ⟨_, rfl, _, _, rfl, rfl, (by show (0 : Int) < 3; decide), rfl, _, rfl, ite2 (fun e => ?_) (fun e => ?_)⟩⟩
      · refine ⟨_, rfl, _, rfl, p, rfl, z, rfl, zs, _, rfl, _, _, rfl, rfl, big _ (by rw [l1, e1]; omega), _, rfl, _, rfl, p, rfl, z, rfl, zs, _, _, rfl, rfl, big _ (by rw [len_app, l1, l2, e1]; omega), ?_⟩
        exact fin _ _ _ _ _ (let_app (let_app c1 (let_one hc)) c2) (by rw [len_app, len_app, l1, l2, e1]; omega)
      · refine ⟨_, rfl, .inl ⟨_, rfl, _, _, rfl, rfl, (by show (0 : Int) < 3; decide), rfl, _, rfl, ite2 (fun e => ?_) (fun e => ?_)⟩⟩
        · refine ⟨_, rfl, _, rfl, p, rfl, z, rfl, zs, _, rfl, _, rfl, _, _, rfl, rfl, _, rfl, z, rfl, zs, _, _, rfl, rfl, big _ (by rw [l1, l3]; omega), ?_⟩
          exact fin _ _ _ _ _ (let_app c1 c3) (by rw [len_app, l1, l3]; omega)
        · refine ⟨_, rfl, _, rfl, p, rfl, z, rfl, zs, _, rfl, _, _, rfl, rfl, big _ (by rw [l1, e1]; omega), _, rfl, _, rfl, _, _, rfl, rfl, _, rfl, z, rfl, zs, _, _, rfl, rfl, big _ (by rw [len_app, l1, l3, e1]; omega), ?_⟩
          exact fin _ _ _ _ _ (let_app (let_app c1 (let_one hc)) c3) (by rw [len_app, len_app, l1, l3, e1]; omega)
    · obtain ⟨rfl, z, y3, y4, y5, y6, rfl, zl, zn⟩ := hW
      exact ⟨_, rfl, q z _ (Same.refl _) zl (by omega)⟩
end

end SH
set_option Elab.async false
set_option linter.all false
set_option maxRecDepth 100000
set_option maxHeartbeats 4000000
namespace SH
open PySem PySem.Spec PyProof.Rows L2
section
variable {P : Program} {w : World} {K : PySem.W.Frag} {mg : Str → Option Value} {base : Heap} {ea : Ea}
/-- the first step -/
def spStep (K : PySem.W.Frag) : Sp := fun vs H Q _ => ∃ (a b : Str) (t : Addr) (rs : List Addr) (i j : Nat), vs = [.str a, .str b, .ref t, .int (i : Int), .int (j : Int)] ∧ a.length ≤ 200 ∧ b.length ≤ 200 ∧ TabAt H t rs (tabE (TL.tl a) (TL.tl b)) ∧ i ≤ a.length ∧ j ≤ b.length ∧ (i < a.length ∨ j < b.length) ∧
  ∀ s r, tst ((TL.tl a).drop i) ((TL.tl b).drop j) = s :: r → ∀ (u : Addr) (H' : Hp), Same H H' → H' u = some (.tup (stV s)) → Q (.ref u) H'
theorem sc__told_step : FnScope ["one", "two", "table", "i", "j"] ["one", "two", "table", "i", "j"] (defScope s__told_step) := ⟨rfl, rfl, rfl, by decide +kernel, rfl, by decide +kernel, by decide +kernel⟩
theorem ok__told_step (T : Txt K mg ea) : Cl P w K mg base 1 "_told_step" (spStep K) := by
  have nd := sc__told_step.nd
  refine cl_of T.d__told_step sc__told_step (fun vs H Q E h => ?_) (fun f cdv A outer s H vs Q E0 hr h => ?_)
  · obtain ⟨a, b, t, rs, i, j, rfl, _⟩ := h
    rfl
  · obtain ⟨a, b, t, rs, i, j, rfl, al, bl, tb, hi, hj, hij, q⟩ := h
    refine ⟨_, (pss_cons (ps_if (PW.pt (pw_and (pt_cmpR op_lt (pv 3) (pe_callB call_len_str (by rfl) T.b_len PySem.boot_len (pa_cons (pv 0) pa_nil)) (nomark _)) (pw_and1 (pt_cmpR op_lt (pv 4) (pe_callB call_len_str (by rfl) T.b_len PySem.boot_len (pa_cons (pv 1) pa_nil)) (nomark _)))))
        (pss_cons (ps_if (pt_cmpR op_eq (pe_ix ix_str (pv 0) (pv 3) (fun _ _ => rfl)) (pe_ix ix_str (pv 1) (pv 4) (fun _ _ => rfl)) (nomark _))
            (pss_one (ps_ret (pe_tup (pa_cons pe_str (pa_cons (pe_ix ix_str (pv 0) (pv 3) (fun _ _ => rfl)) pa_nil)))))
            pss_nil)
          (pss_one (ps_if (pt_cmpR op_eq (pe_ix (ixl (K := K)) (pe_ix (ixl (K := K)) (pv 2) (pv 3) (fun _ _ => rfl)) (pv 4) (fun _ _ => rfl)) (pe_op op_add (pe_ix (ixl (K := K)) (pe_ix (ixl (K := K)) (pv 2) (pe_op op_add (pv 3) pe_int) (fun _ _ => rfl)) (pe_op op_add (pv 4) pe_int) (fun _ _ => rfl)) pe_int) (nomark _))
            (pss_one (ps_ret (pe_tup (pa_cons pe_str (pa_cons (pe_ix ix_str (pv 0) (pv 3) (fun _ _ => rfl)) (pa_cons (pe_ix ix_str (pv 1) (pv 4) (fun _ _ => rfl)) pa_nil))))))
            pss_nil)))
        pss_nil)
      (pss_cons (ps_if (PW.pt (pw_and (pt_cmpR op_lt (pv 3) (pe_callB call_len_str (by rfl) T.b_len PySem.boot_len (pa_cons (pv 0) pa_nil)) (nomark _)) (pw_and1 (pt_cmpR op_eq (pe_ix (ixl (K := K)) (pe_ix (ixl (K := K)) (pv 2) (pv 3) (fun _ _ => rfl)) (pv 4) (fun _ _ => rfl)) (pe_op op_add (pe_ix (ixl (K := K)) (pe_ix (ixl (K := K)) (pv 2) (pe_op op_add (pv 3) pe_int) (fun _ _ => rfl)) (pv 4) (fun _ _ => rfl)) pe_int) (nomark _)))))
        (pss_one (ps_ret (pe_tup (pa_cons pe_str (pa_cons (pe_ix ix_str (pv 0) (pv 3) (fun _ _ => rfl)) pa_nil)))))
        pss_nil)
      (pss_one (ps_ret (pe_tup (pa_cons pe_str (pa_cons (pe_ix ix_str (pv 1) (pv 4) (fun _ _ => rfl)) pa_nil))))))), ?_⟩
    have zl : (TL.tl b).length = b.length := rfl
    have za : (TL.tl a).length = a.length := rfl
    have bs : b.length ≤ sizeLine := Nat.le_trans bl (by decide)
    have as : a.length ≤ sizeLine := Nat.le_trans al (by decide)
    have sz : 2 ≤ sizeLine := by decide
    have sz3 : 3 ≤ sizeLine := by decide
    have e1 : ∀ n : Nat, (n : Int) + 1 = ((n + 1 : Nat) : Int) := fun n => by omega
    refine ⟨_, rfl, _, rfl, a, rfl, as, _, _, rfl, rfl, _, rfl, ?_⟩
    by_cases ci : i < a.length
    · rw [decide_eq_true (by omega)]
      have ga : (TL.tl a)[i]? = some (TL.tl a)[i] := List.getElem?_eq_getElem (by rw [za]; omega)
      have da : (TL.tl a).drop i = (TL.tl a)[i] :: (TL.tl a).drop (i + 1) := drop_cons (by rw [za]; omega)
      refine ⟨_, rfl, _, rfl, b, rfl, bs, _, _, rfl, rfl, _, rfl, ?_⟩
      obtain ⟨r0, p1, p2, p3⟩ := tb.cell (i := i) (j := j) hi hj
      obtain ⟨r1, u1, u2, u3⟩ := tb.cell (i := i + 1) (j := j) (by rw [za]; omega) hj
      by_cases cj : j < b.length
      · rw [decide_eq_true (by omega)]
        have gb : (TL.tl b)[j]? = some (TL.tl b)[j] := List.getElem?_eq_getElem (by rw [zl]; omega)
        have db : (TL.tl b).drop j = (TL.tl b)[j] :: (TL.tl b).drop (j + 1) := drop_cons (by rw [zl]; omega)
        obtain ⟨r2, v1, v2, v3⟩ := tb.cell (i := i + 1) (j := j + 1) (by rw [za]; omega) (by rw [zl]; omega)
        generalize hca : (TL.tl a)[i] = ca at da ga
        generalize hcb : (TL.tl b)[j] = cb at db gb
        refine ⟨_, rfl, _, rfl, a, _, _, rfl, rfl, as, atI_nat ga, _, rfl, _, rfl, b, _, _, rfl, rfl, bs, atI_nat gb, rfl, _, rfl, ite2 (fun e => ?_) (fun e => ?_)⟩
        · have ec : ca = cb := by
            have h := Str.mk.inj (V.str.inj (of_decide_eq_true e))
            simpa using h
          refine ⟨_, rfl, _, rfl, a, _, _, rfl, rfl, as, atI_nat ga, sz, fun u nu => ?_⟩
          exact q (.keep ca) _ (by rw [da, db, tst_cc, if_pos ec]) u _ (same_new nu) upd_same
        · have ec : ca ≠ cb := fun z => e (decide_eq_true (by rw [z]))
          refine ⟨_, rfl, _, rfl, t, _, _, _, rfl, rfl, SqL.of tb.at_, p1, _, rfl, r0, _, _, _, rfl, rfl, SqL.of p2, p3, ?_⟩
          refine ⟨_, rfl, _, rfl, _, _, rfl, rfl, t, _, _, _, rfl, rfl, SqL.of tb.at_, (by rw [e1]; exact v1), _, rfl, _, _, rfl, rfl, r2, _, _, _, rfl, rfl, SqL.of v2, (by rw [e1]; exact v3), _, _, rfl, rfl, rfl, _, rfl, ite2 (fun e2 => ?_) (fun e2 => ?_)⟩
          · have c1 : ed ((TL.tl a).drop i) ((TL.tl b).drop j) = ed ((TL.tl a).drop (i + 1)) ((TL.tl b).drop (j + 1)) + 1 := by
              have := V.int.inj (of_decide_eq_true e2)
              omega
            rw [da, db] at c1
            refine ⟨_, rfl, _, rfl, a, _, _, rfl, rfl, as, atI_nat ga, _, rfl, _, rfl, b, _, _, rfl, rfl, bs, atI_nat gb, sz3, fun u nu => ?_⟩
            exact q (.chg ca cb) _ (by rw [da, db, tst_cc, if_neg ec, if_pos c1]) u _ (same_new nu) upd_same
          · have c1 : ¬ ed ((TL.tl a).drop i) ((TL.tl b).drop j) = ed ((TL.tl a).drop (i + 1)) ((TL.tl b).drop (j + 1)) + 1 := fun z => e2 (decide_eq_true (by rw [z]; rfl))
            rw [da, db] at c1
            refine ⟨_, rfl, _, rfl, a, rfl, as, _, _, rfl, rfl, _, rfl, ?_⟩
            rw [decide_eq_true (by omega)]
            refine ⟨_, rfl, _, rfl, t, _, _, _, rfl, rfl, SqL.of tb.at_, p1, _, rfl, r0, _, _, _, rfl, rfl, SqL.of p2, p3, ?_⟩
            refine ⟨_, rfl, _, rfl, _, _, rfl, rfl, t, _, _, _, rfl, rfl, SqL.of tb.at_, (by rw [e1]; exact u1), _, rfl, r1, _, _, _, rfl, rfl, SqL.of u2, u3, _, _, rfl, rfl, rfl, _, rfl, ite2 (fun e3 => ?_) (fun e3 => ?_)⟩
            · have c2 : ed ((TL.tl a).drop i) ((TL.tl b).drop j) = ed ((TL.tl a).drop (i + 1)) ((TL.tl b).drop j) + 1 := by
                have := V.int.inj (of_decide_eq_true e3)
                omega
              rw [da, db] at c2
              refine ⟨_, rfl, _, rfl, a, _, _, rfl, rfl, as, atI_nat ga, sz, fun u nu => ?_⟩
              exact q (.out ca) _ (by rw [da, db, tst_cc, if_neg ec, if_neg c1, if_pos c2]) u _ (same_new nu) upd_same
            · have c2 : ¬ ed ((TL.tl a).drop i) ((TL.tl b).drop j) = ed ((TL.tl a).drop (i + 1)) ((TL.tl b).drop j) + 1 := fun z => e3 (decide_eq_true (by rw [z]; rfl))
              rw [da, db] at c2
              refine ⟨_, rfl, _, rfl, b, _, _, rfl, rfl, bs, atI_nat gb, sz, fun u nu => ?_⟩
              exact q (.put cb) _ (by rw [da, db, tst_cc, if_neg ec, if_neg c1, if_neg c2]) u _ (same_new nu) upd_same
      · rw [decide_eq_false (by omega)]
        have db : (TL.tl b).drop j = [] := List.drop_eq_nil_of_le (by rw [zl]; omega)
        refine ⟨_, rfl, _, rfl, a, rfl, as, _, _, rfl, rfl, _, rfl, ?_⟩
        rw [decide_eq_true (by omega)]
        refine ⟨_, rfl, _, rfl, t, _, _, _, rfl, rfl, SqL.of tb.at_, p1, _, rfl, r0, _, _, _, rfl, rfl, SqL.of p2, p3, ?_⟩
        refine ⟨_, rfl, _, rfl, _, _, rfl, rfl, t, _, _, _, rfl, rfl, SqL.of tb.at_, (by rw [e1]; exact u1), _, rfl, r1, _, _, _, rfl, rfl, SqL.of u2, u3, _, _, rfl, rfl, rfl, _, rfl, ?_⟩
        have c2 : ed ((TL.tl a).drop i) ((TL.tl b).drop j) = ed ((TL.tl a).drop (i + 1)) ((TL.tl b).drop j) + 1 := by rw [da, db, ed_nil2, ed_nil2, List.length_cons]
        rw [decide_eq_true (by rw [c2]; rfl)]
        refine ⟨_, rfl, _, rfl, a, _, _, rfl, rfl, as, atI_nat ga, sz, fun u nu => ?_⟩
        exact q (.out _) _ (by rw [da, db, tst_on]) u _ (same_new nu) upd_same
    · rw [decide_eq_false (by omega)]
      have da : (TL.tl a).drop i = [] := List.drop_eq_nil_of_le (by rw [za]; omega)
      have cj : j < b.length := by omega
      have gb : (TL.tl b)[j]? = some (TL.tl b)[j] := List.getElem?_eq_getElem (by rw [zl]; omega)
      have db : (TL.tl b).drop j = (TL.tl b)[j] :: (TL.tl b).drop (j + 1) := drop_cons (by rw [zl]; omega)
      refine iteF ?_
      refine ⟨_, rfl, _, rfl, a, rfl, as, _, _, rfl, rfl, _, rfl, ?_⟩
      rw [decide_eq_false (by omega)]
      refine iteF ?_
      refine ⟨_, rfl, _, rfl, b, _, _, rfl, rfl, bs, atI_nat gb, sz, fun u nu => ?_⟩
      exact q (.put _) _ (by rw [da, db, tst_np]) u _ (same_new nu) upd_same
theorem sc_alignment : FnScope ["one", "two", "table", "steps", "i", "j", "step"] ["one", "two"] (defScope s_alignment) := ⟨rfl, rfl, rfl, by decide +kernel, rfl, by decide +kernel, by decide +kernel⟩
theorem ok_alignment (T : Txt K mg ea) (c_distance_table : Cl P w K mg base 2 "distance_table" spTable) (c__told_step : Cl P w K mg base 1 "_told_step" (spStep K)) : Cl P w K mg base 3 "alignment" (spSteps K) := by
  have nd := sc_alignment.nd
  refine cl_of T.d_alignment sc_alignment (fun vs H Q E h => ?_) (fun f cdv A outer s H vs Q E0 hr h => ?_)
  · obtain ⟨a, b, rfl, _⟩ := h
    rfl
  · obtain ⟨a, b, rfl, al, bl, q⟩ := h
    refine ⟨_, (pss_cons (ps_set (i := 2) nd rfl (.inl rfl) (C8.pe_c c_distance_table hr (by decide) (by rfl) (pa_cons (pv 0) (pa_cons (pv 1) pa_nil))))
      (pss_cons (ps_set (i := 3) nd rfl (.inl rfl) (pe_lst pa_nil))
      (pss_cons (ps_set (i := 4) nd rfl (.inl rfl) pe_int)
      (pss_cons (ps_set (i := 5) nd rfl (.inl rfl) pe_int)
      (pss_cons (ps_while PassesOwn.never (PW.pt (pw_or (pt_cmpR op_lt (pv 4) (pe_callB call_len_str (by rfl) T.b_len PySem.boot_len (pa_cons (pv 0) pa_nil)) (nomark _)) (pw_or1 (pt_cmpR op_lt (pv 5) (pe_callB call_len_str (by rfl) T.b_len PySem.boot_len (pa_cons (pv 1) pa_nil)) (nomark _)))))
        (pss_cons (ps_set (i := 6) nd rfl (.inl rfl) (C8.pe_c c__told_step hr (by decide) (by rfl) (pa_cons (pv 0) (pa_cons (pv 1) (pa_cons (pv 2) (pa_cons (pv 4) (pa_cons (pv 5) pa_nil)))))))
          (pss_cons (ps_expr (pe_bm PySem.F.plainAttrs_list PySem.F.slot_list_append PySem.F.type_list_append mt_append (pv 3) (pa_cons (pv 6) pa_nil)))
          (pss_cons (ps_if (pt_cmpR op_ne (pe_ix (ixt (K := K)) (pv 6) pe_int (fun _ _ => rfl)) pe_str (nomark _))
            (pss_one (ps_aug (i := 4) nd rfl (.inl rfl) pe_int ip_add))
            pss_nil)
          (pss_one (ps_if (pt_cmpR op_ne (pe_ix (ixt (K := K)) (pv 6) pe_int (fun _ _ => rfl)) pe_str (nomark _))
            (pss_one (ps_aug (i := 5) nd rfl (.inl rfl) pe_int ip_add))
            pss_nil))))))
      (pss_one (ps_ret (pv 3)))))))), ?_⟩
    have zl : (TL.tl b).length = b.length := rfl
    have za : (TL.tl a).length = a.length := rfl
    have bs : b.length ≤ sizeLine := Nat.le_trans bl (by decide)
    have as : a.length ≤ sizeLine := Nat.le_trans al (by decide)
    refine ⟨_, rfl, _, rfl, a, b, rfl, al, bl, fun t rs H1 s1 nt => ?_⟩
    refine ⟨Nat.zero_le _, fun l nl => ?_⟩
    have nl0 : H l = none := s1.free nl
    have s2 := same_new (o := .lst []) nl
    have tb := nt.1
    have tl := tst_len (TL.tl a) (TL.tl b)
    refine while_i (fun m σ H' => ∃ (S : ST) (i j : Nat) (y6 : Option V), m = (a.length - i) + (b.length - j) ∧ i ≤ a.length ∧ j ≤ b.length ∧ σ = [some (.str a), some (.str b), some (.ref t), some (.ref l), some (.int (i : Int)), some (.int (j : Int)), y6] ∧ Same H1 H' ∧ H' l = some (.lst (srefs S)) ∧ StAt K H' S ∧
        tst (TL.tl a) (TL.tl b) = S.map (·.2) ++ tst ((TL.tl a).drop i) ((TL.tl b).drop j))
      ⟨[], 0, 0, none, rfl, Nat.zero_le _, Nat.zero_le _, rfl, s2, upd_same, (fun _ m => nomatch m), rfl⟩ (fun m σ H' hW => ?_) (fun σ H Q Q' m h => ?_)
    · obtain ⟨S, i, j, y6, rfl, hi, hj, rfl, sm, atl, sS, eS⟩ := hW
      have sl : S.length ≤ 1000 := by
        have := congrArg List.length eS
        rw [List.length_append, List.length_map] at this
        omega
      -- one step
      have turn : (i < a.length ∨ j < b.length) → ∀ (s : Stp) (r : List Stp), tst ((TL.tl a).drop i) ((TL.tl b).drop j) = s :: r → ∀ (u : Addr) (H2 : Hp), Same H' H2 → H2 u = some (.tup (stV s)) →
          Same H1 (upd H2 l (.lst (srefs S ++ [.ref u]))) ∧ (upd H2 l (.lst (srefs S ++ [.ref u]))) l = some (.lst (srefs (S ++ [(u, s)]))) ∧ StAt K (upd H2 l (.lst (srefs S ++ [.ref u]))) (S ++ [(u, s)]) ∧ (upd H2 l (.lst (srefs S ++ [.ref u]))) u = some (.tup (stV s)) ∧
          ∃ i' j' : Nat, i' = (if isPut s then i else i + 1) ∧ j' = (if isOut s then j else j + 1) ∧ i' ≤ a.length ∧ j' ≤ b.length ∧ (a.length - i') + (b.length - j') < (a.length - i) + (b.length - j) ∧ tst (TL.tl a) (TL.tl b) = (S ++ [(u, s)]).map (·.2) ++ tst ((TL.tl a).drop i') ((TL.tl b).drop j') := fun _ s r e u H2 s2 hu => by
        obtain ⟨t1, t2, t3⟩ := tst_step e
        have atl2 := s2 _ _ atl
        have ul : u ≠ l := fun z => by rw [z, atl2] at hu; cases hu
        refine ⟨same_mut (sm.trans s2) nl, ?_, ?_, ?_, _, _, rfl, rfl, ?_⟩
        · rw [upd_same]; unfold srefs; rw [List.map_append]; rfl
        · exact StAt.put (l := srefs S) ((sS.same s2).snoc hu) atl2
        · rw [upd_ne ul]; exact hu
        · have i1 : isPut s = false → i < a.length := fun h => by
            rcases Nat.lt_or_ge i a.length with c | c
            · exact c
            · exact absurd (List.drop_eq_nil_of_le (by rw [za]; exact c)) (t2 h)
          have j1 : isOut s = false → j < b.length := fun h => by
            rcases Nat.lt_or_ge j b.length with c | c
            · exact c
            · exact absurd (List.drop_eq_nil_of_le (by rw [zl]; exact c)) (t3 h)
          rw [e, t1] at eS
          have ee : tst (TL.tl a) (TL.tl b) = (S ++ [(u, s)]).map (·.2) ++ tst (if isPut s = true then (TL.tl a).drop i else ((TL.tl a).drop i).tail) (if isOut s = true then (TL.tl b).drop j else ((TL.tl b).drop j).tail) := by
            rw [eS, List.map_append, List.append_assoc]
            rfl
          have ta : (if isPut s = true then (TL.tl a).drop i else ((TL.tl a).drop i).tail) = (TL.tl a).drop (if isPut s = true then i else i + 1) := by split <;> simp
          have tb2 : (if isOut s = true then (TL.tl b).drop j else ((TL.tl b).drop j).tail) = (TL.tl b).drop (if isOut s = true then j else j + 1) := by split <;> simp
          rw [ta, tb2] at ee
          refine ⟨?_, ?_, ?_, ee⟩
          · split
            · exact hi
            · rename_i h; have := i1 (by simpa using h); omega
          · split
            · exact hj
            · rename_i h; have := j1 (by simpa using h); omega
          · cases hp : isPut s with
            | true =>
              have : isOut s = false := by cases s <;> first | rfl | cases hp
              have := j1 this
              rw [‹isOut s = false›]
              simp
              omega
            | false =>
              have := i1 hp
              cases ho : isOut s with
              | true => simp; omega
              | false => have := j1 ho; simp; omega
      refine ⟨_, rfl, _, rfl, a, rfl, as, _, _, rfl, rfl, _, rfl, ?_⟩
      have tri : (i < a.length ∧ (i < a.length ∨ j < b.length)) ∨ (¬ i < a.length ∧ j < b.length ∧ (i < a.length ∨ j < b.length)) ∨ (¬ i < a.length ∧ ¬ j < b.length) := by omega
      rcases tri with ⟨ci, hij⟩ | ⟨ci, cj, hij⟩ | ⟨ci, cj⟩
      · rw [decide_eq_true (by omega)]
        refine ⟨_, rfl, _, rfl, _, rfl, _, rfl, _, rfl, a, b, t, rs, i, j, rfl, al, bl, tb.same sm, hi, hj, hij, fun s r e u H2 s2 hu => ?_⟩
        obtain ⟨g1, g2, g3, g4, i', j', ei, ej, hi', hj', lt, eS'⟩ := turn hij s r e u H2 s2 hu
        refine ⟨_, rfl, .inl ⟨rfl, _, SqL.of (s2 _ _ atl)⟩, _, rfl, l, _, _, rfl, rfl, s2 _ _ atl, (by rw [srefs_len]; exact Nat.lt_of_le_of_lt (sl) (by decide)), ?_⟩
        generalize upd H2 l (.lst (srefs S ++ [.ref u])) = H3 at g1 g2 g3 g4 ⊢
        refine ⟨_, rfl, u, _, _, _, rfl, rfl, .inl (.inl g4), tag_at s, rfl, _, rfl, ?_⟩
        rw [tag_put]
        cases hp : isPut s with
        | true =>
          rw [hp] at ei
          have ho : isOut s = false := by cases s <;> first | rfl | cases hp
          rw [ho] at ej
          refine iteF ⟨_, rfl, u, _, _, _, rfl, rfl, .inl (.inl g4), tag_at s, rfl, _, rfl, ?_⟩
          rw [tag_out, ho]
          subst ei ej
          exact iteT ⟨_, rfl, _, _, rfl, rfl, _, lt, _, _, _, _, rfl, hi', hj', rfl, g1, g2, g3, eS'⟩
        | false =>
          rw [hp] at ei
          refine iteT ⟨_, rfl, _, _, rfl, rfl, ?_⟩
          refine ⟨_, rfl, u, _, _, _, rfl, rfl, .inl (.inl g4), tag_at s, rfl, _, rfl, ?_⟩
          rw [tag_out]
          cases ho : isOut s with
          | true =>
            rw [ho] at ej
            subst ei ej
            exact iteF ⟨_, lt, _, _, _, _, rfl, hi', hj', rfl, g1, g2, g3, eS'⟩
          | false =>
            rw [ho] at ej
            subst ei ej
            exact iteT ⟨_, rfl, _, _, rfl, rfl, _, lt, _, _, _, _, rfl, hi', hj', rfl, g1, g2, g3, eS'⟩

      · rw [decide_eq_false (by omega)]
        refine ⟨_, rfl, _, rfl, b, rfl, bs, _, _, rfl, rfl, _, rfl, ?_⟩
        rw [decide_eq_true (by omega)]
        refine ⟨_, rfl, _, rfl, _, rfl, _, rfl, _, rfl, a, b, t, rs, i, j, rfl, al, bl, tb.same sm, hi, hj, hij, fun s r e u H2 s2 hu => ?_⟩
        obtain ⟨g1, g2, g3, g4, i', j', ei, ej, hi', hj', lt, eS'⟩ := turn hij s r e u H2 s2 hu
        refine ⟨_, rfl, .inl ⟨rfl, _, SqL.of (s2 _ _ atl)⟩, _, rfl, l, _, _, rfl, rfl, s2 _ _ atl, (by rw [srefs_len]; exact Nat.lt_of_le_of_lt (sl) (by decide)), ?_⟩
        generalize upd H2 l (.lst (srefs S ++ [.ref u])) = H3 at g1 g2 g3 g4 ⊢
        refine ⟨_, rfl, u, _, _, _, rfl, rfl, .inl (.inl g4), tag_at s, rfl, _, rfl, ?_⟩
        rw [tag_put]
        cases hp : isPut s with
        | true =>
          rw [hp] at ei
          have ho : isOut s = false := by cases s <;> first | rfl | cases hp
          rw [ho] at ej
          refine iteF ⟨_, rfl, u, _, _, _, rfl, rfl, .inl (.inl g4), tag_at s, rfl, _, rfl, ?_⟩
          rw [tag_out, ho]
          subst ei ej
          exact iteT ⟨_, rfl, _, _, rfl, rfl, _, lt, _, _, _, _, rfl, hi', hj', rfl, g1, g2, g3, eS'⟩
        | false =>
          rw [hp] at ei
          refine iteT ⟨_, rfl, _, _, rfl, rfl, ?_⟩
          refine ⟨_, rfl, u, _, _, _, rfl, rfl, .inl (.inl g4), tag_at s, rfl, _, rfl, ?_⟩
          rw [tag_out]
          cases ho : isOut s with
          | true =>
            rw [ho] at ej
            subst ei ej
            exact iteF ⟨_, lt, _, _, _, _, rfl, hi', hj', rfl, g1, g2, g3, eS'⟩
          | false =>
            rw [ho] at ej
            subst ei ej
            exact iteT ⟨_, rfl, _, _, rfl, rfl, _, lt, _, _, _, _, rfl, hi', hj', rfl, g1, g2, g3, eS'⟩

      · rw [decide_eq_false (by omega)]
        refine ⟨_, rfl, _, rfl, b, rfl, bs, _, _, rfl, rfl, _, rfl, ?_⟩
        rw [decide_eq_false (by omega)]
        rw [List.drop_eq_nil_of_le (by rw [za]; omega), List.drop_eq_nil_of_le (by rw [zl]; omega), tst_nn, List.append_nil] at eS
        exact ⟨_, rfl, q l S H' (s1.trans sm) nl0 atl sS eS.symm⟩
    · obtain ⟨v1, hv1, v2, hv2, z, hz, hl, i, j, e1, e2, k, hk, r⟩ := h
      refine ⟨v1, hv1, v2, hv2, z, hz, hl, i, j, e1, e2, k, hk, ?_⟩
      cases k with
      | true => exact m _ _ r
      | false =>
        obtain ⟨v3, hv3, v4, hv4, z2, hz2, hl2, i2, j2, e3, e4, k2, hk2, r2⟩ := r
        exact ⟨v3, hv3, v4, hv4, z2, hz2, hl2, i2, j2, e3, e4, k2, hk2, m _ _ r2⟩
end

end SH
set_option Elab.async false
set_option linter.all false
set_option maxRecDepth 100000
set_option maxHeartbeats 4000000
namespace SH
open PySem PySem.Spec PyProof.Rows L2
section
variable {P : Program} {w : World} {K : PySem.W.Frag} {mg : Str → Option Value} {base : Heap} {ea : Ea}
def spFits (K : PySem.W.Frag) : Sp := fun vs H Q _ => ∃ (u : Addr) (s : Stp) (z : Str), vs = [.ref u, .str z] ∧ SqT K H u (stV s) ∧ isPut s = false ∧ Q (.bl (fitB s z)) H
theorem sc__fits : FnScope ["step", "letter"] ["step", "letter"] (defScope s__fits) := ⟨rfl, rfl, rfl, by decide +kernel, rfl, by decide +kernel, by decide +kernel⟩
theorem ok__fits (T : Txt K mg ea) : Cl P w K mg base 1 "_fits" (spFits K) := by
  have nd := sc__fits.nd
  refine cl_of T.d__fits sc__fits (fun vs H Q E h => ?_) (fun f cdv A outer s H vs Q E0 hr h => ?_)
  · obtain ⟨u, s, z, rfl, _⟩ := h
    rfl
  · obtain ⟨u, st, z, rfl, hu, hp, q⟩ := h
    refine ⟨_, (pss_cons (ps_if (pt_cmpR op_ne (pe_ix (ixt (K := K)) (pv 0) pe_int (fun _ _ => rfl)) (pv 1) (nomark _))
        (pss_one (ps_ret pe_bl))
        pss_nil)
      (pss_one (ps_ret (pe_or (pe_cmpR op_ne (pe_ix (ixt (K := K)) (pv 0) pe_int (fun _ _ => rfl)) pe_str (nomark _)) (pe_one (pe_cmpR op_ne (pe_ix (ixt (K := K)) (pv 0) pe_int (fun _ _ => rfl)) (pe_ix (ixt (K := K)) (pv 0) pe_int (fun _ _ => rfl)) (nomark _))))))), ?_⟩
    refine ⟨_, rfl, u, _, _, _, rfl, rfl, hu, fst_at st, _, rfl, rfl, _, rfl, ?_⟩
    have nch : (!decide (V.str ("keep" : Str) = V.str ("change" : Str))) = true := by decide +kernel
    have noch : (!decide (V.str ("out" : Str) = V.str ("change" : Str))) = true := by decide +kernel
    have ch : (!decide (V.str ("change" : Str) = V.str ("change" : Str))) = false := by decide +kernel
    have dz : ∀ c : Nat, decide (V.str (s1 c) = V.str z) = decide (s1 c = z) := fun c => decide_eq_decide.mpr ⟨fun h => V.str.inj h, fun h => by rw [h]⟩
    rw [dz]
    by_cases c0 : s1 (fst1 st) = z
    · rw [decide_eq_true c0]
      refine iteF ?_
      refine ⟨_, rfl, u, _, _, _, rfl, rfl, hu, tag_at st, rfl, ?_⟩
      cases st with
      | put d => cases hp
      | keep c =>
        rw [show fitB (.keep c) z = true from decide_eq_true c0] at q
        exact ⟨_, rfl, by rw [show (!decide (V.str (tag (.keep c)) = V.str ("change" : Str))) = true from nch]; exact q⟩
      | out c =>
        rw [show fitB (.out c) z = true from decide_eq_true c0] at q
        exact ⟨_, rfl, by rw [show (!decide (V.str (tag (.out c)) = V.str ("change" : Str))) = true from noch]; exact q⟩
      | chg c d =>
        have e : fitB (.chg c d) z = decide (c ≠ d) := by
          show (decide (s1 c = z) && decide (c ≠ d)) = _
          rw [decide_eq_true (show s1 c = z from c0)]
          rfl
        rw [e] at q
        refine ⟨_, rfl, ?_⟩
        rw [show (!decide (V.str (tag (.chg c d)) = V.str ("change" : Str))) = false from ch]
        refine iteF ?_
        refine ⟨_, rfl, u, _, _, _, rfl, rfl, hu, fst_at _, _, rfl, u, _, _, _, rfl, rfl, hu, (show atI (stV (.chg c d)) 2 = some (.str (s1 d)) from rfl), rfl, ?_⟩
        have e2 : (!decide (V.str (s1 (fst1 (.chg c d))) = V.str (s1 d))) = decide (c ≠ d) := by
          by_cases h : c = d
          · subst h
            show (!decide (V.str (s1 c) = V.str (s1 c))) = _
            rw [decide_eq_true rfl]
            simp
          · show (!decide (V.str (s1 c) = V.str (s1 d))) = _
            rw [decide_eq_false (fun z => h (s1_inj (V.str.inj z))), decide_eq_true h]
            rfl
        rw [e2]
        exact q
    · rw [decide_eq_false c0]
      refine iteT ?_
      have : fitB st z = false := by
        cases st with
        | put d => cases hp
        | keep c => exact decide_eq_false c0
        | out c => exact decide_eq_false c0
        | chg c d =>
          show (decide (s1 c = z) && decide (c ≠ d)) = false
          rw [decide_eq_false (show ¬ s1 c = z from c0)]
          rfl
      rw [this] at q
      exact q
/-- the word to which an alignment leads -/
def spAligned (K : PySem.W.Frag) (ea : Ea) : Sp := fun vs H Q E => ∃ (a : Str) (p : Addr) (S : ST), vs = [.str a, .ref p] ∧ a.length ≤ 200 ∧ SqL K H p (srefs S) ∧ StAt K H S ∧ S.length ≤ 1000 ∧
  (∀ k, ali (TL.tl a) (S.map (·.2)) 0 = .error k → Errs E H ea.c_BadStep (k : Int)) ∧ (∀ w : List Nat, ali (TL.tl a) (S.map (·.2)) 0 = .ok w → ∀ H', Same H H' → Q (.str ⟨w.toArray⟩) H')
theorem sum_ones : ∀ wd : List Nat, ((wd.map fun c => (⟨#[c]⟩ : Str)).map (·.length)).sum = wd.length
  | [] => rfl
  | c :: r => by
    rw [List.map_cons, List.map_cons, List.sum_cons, sum_ones r, List.length_cons]
    show 1 + _ = _
    omega
theorem sc_aligned : FnScope ["one", "steps", "letters", "at", "k", "step"] ["one", "steps"] (defScope s_aligned) := ⟨rfl, rfl, rfl, by decide +kernel, rfl, by decide +kernel, by decide +kernel⟩
theorem ok_aligned (T : Txt K mg ea) (c__fits : Cl P w K mg base 1 "_fits" (spFits K)) : ClX P w K mg base 3 "aligned" (spAligned K ea) := by
  have nd := sc_aligned.nd
  refine clx_of T.d_aligned sc_aligned (fun vs H Q E h => ?_) (fun f cdv A outer s H vs Q E0 hr h => ?_)
  · obtain ⟨a, p, S, rfl, _⟩ := h
    rfl
  · obtain ⟨a, p, S, rfl, al, hP, hS, sl, x1, q⟩ := h
    refine ⟨_, (pss_cons (ps_set (i := 2) nd rfl (.inl rfl) (pe_lst pa_nil))
      (pss_cons (ps_set (i := 3) nd rfl (.inl rfl) pe_int)
      (pss_cons (ps_for (passes_of rfl) rfl (pi_enum (by rfl) T.b_enumerate (pa_cons (pv 1) pa_nil)) (pg_tup rfl (pgs_cons (pg_name (i := 4) nd rfl (.inl rfl)) (pgs_cons (pg_name (i := 5) nd rfl (.inl rfl)) pgs_nil)))
        (pss_cons (ps_if (pt_cmpR op_ne (pe_ix (ixt (K := K)) (pv 5) pe_int (fun _ _ => rfl)) pe_str (nomark _))
            (pss_cons (ps_if (pt_not (pt_val (C8.pe_c c__fits hr (by decide) (by rfl) (pa_cons (pv 5) (pa_cons (pe_slice sl_str (pv 0) (po_some (pv 3)) (po_some (pe_op op_add (pv 3) pe_int))) pa_nil)))))
                (pss_one (ps_raise rfl (takes_of rfl rfl rfl rfl) (pmk_at T.x_BadStep (ok_init T) hr (by decide) (by rfl) (pa_cons (pv 4) pa_nil))))
                pss_nil)
              (pss_one (ps_aug (i := 3) nd rfl (.inl rfl) pe_int ip_add)))
            pss_nil)
          (pss_one (ps_if (pt_cmpR op_ne (pe_ix (ixt (K := K)) (pv 5) pe_int (fun _ _ => rfl)) pe_str (nomark _))
            (pss_one (ps_expr (pe_bm PySem.F.plainAttrs_list PySem.F.slot_list_append PySem.F.type_list_append mt_append (pv 2) (pa_cons (pe_ix (ixt (K := K)) (pv 5) (pe_un un_neg pe_int) (fun _ _ => rfl)) pa_nil))))
            pss_nil))))
      (pss_cons (ps_if (pt_cmpR op_lt (pv 3) (pe_callB call_len_str (by rfl) T.b_len PySem.boot_len (pa_cons (pv 0) pa_nil)) (nomark _))
        (pss_one (ps_raise rfl (takes_of rfl rfl rfl rfl) (pmk_at T.x_BadStep (ok_init T) hr (by decide) (by rfl) (pa_cons (pe_callB call_len_seq (by rfl) T.b_len PySem.boot_len (pa_cons (pv 1) pa_nil)) pa_nil))))
        pss_nil)
      (pss_one (ps_ret (pe_join pe_str (pv 2)))))))), ?_⟩
    have za : (TL.tl a).length = a.length := rfl
    have as : a.length ≤ sizeLine := Nat.le_trans al (by decide)
    have ql := srefs_len S
    refine ⟨Nat.zero_le _, fun D nD => ?_⟩
    have s0 := same_new (o := .lst []) nD
    refine ⟨_, rfl, p, _, rfl, s0.seq hP, ?_⟩
    refine for_it (walk_enum (K := K) (a := p) (xs := srefs S)) (fun k σ H' => ∃ (at_ : Nat) (wd : List Nat) (y4 y5 : Option V), σ = [some (.str a), some (.ref p), some (.ref D), some (.int (at_ : Int)), y4, y5] ∧ Same H H' ∧ H' D = some (.lst (wd.map fun c => V.str (s1 c))) ∧ at_ ≤ a.length ∧ wd.length ≤ k ∧
        ali (TL.tl a) (S.map (·.2)) 0 = (ali ((TL.tl a).drop at_) ((S.map (·.2)).drop k) k).map (wd ++ ·))
      ⟨0, [], none, none, rfl, s0, upd_same, Nat.zero_le _, Nat.zero_le _, ?_⟩ (fun k σ H' _ hW => ?_) (fun k x σ Ha Hb hk hW y => ?_) (fun σ H' hW => ?_)
    · show ali (TL.tl a) (S.map (·.2)) 0 = (ali (TL.tl a) (S.map (·.2)) 0).map ([] ++ ·)
      cases ali (TL.tl a) (S.map (·.2)) 0 <;> rfl
    · obtain ⟨at_, wd, y4, y5, rfl, sm, _⟩ := hW
      exact sm.seq hP
    · obtain ⟨at_, wd, y4, y5, rfl, sm, atD, ha, hw, eA⟩ := hW
      obtain ⟨u, xk, xs, rfl, nu, rfl, hxk, hxs⟩ := y
      obtain rfl : V.int (k : Int) = xk := Option.some.inj hxk
      obtain ⟨st, hst, stm, rfl⟩ := srefs_get hxs
      rw [ql] at hk
      have hst2 : (S.map (·.2))[k]? = some st.2 := by rw [List.getElem?_map, hst]; rfl
      have dS : (S.map (·.2)).drop k = st.2 :: (S.map (·.2)).drop (k + 1) := by
        obtain ⟨h1, h2⟩ := List.getElem?_eq_some_iff.mp hst2
        rw [List.drop_eq_getElem_cons h1, h2]
      rw [dS, ali_step] at eA
      have su := same_new (o := .tup [.int (k : Int), .ref st.1]) nu
      have smu := sm.trans su
      have hu := same_tup smu (hS st stm)
      have atD2 := su _ _ atD
      refine ⟨u, _, rfl, .inl (.inl upd_same), rfl, _, _, rfl, _, _, rfl, rfl, ?_⟩
      generalize upd Ha u (.tup [.int (k : Int), .ref st.1]) = Hc at smu hu atD2 ⊢
      have szD : ∀ n : Nat, n ≤ 1000 → n < sizeLine := fun n h => Nat.lt_of_le_of_lt h (by decide)
      have app : ∀ c : Nat, Same H (upd Hc D (.lst (wd.map (fun c => V.str (s1 c)) ++ [.str (s1 c)]))) ∧ (upd Hc D (.lst (wd.map (fun c => V.str (s1 c)) ++ [.str (s1 c)]))) D = some (.lst ((wd ++ [c]).map fun c => V.str (s1 c))) := fun c => ⟨same_mut smu nD, by rw [upd_same, List.map_append]; rfl⟩
      refine ⟨_, rfl, st.1, _, _, _, rfl, rfl, hu, tag_at st.2, rfl, _, rfl, ?_⟩
      rw [tag_put]
      cases hp : isPut st.2 with
      | true =>
        rw [hp, if_pos rfl] at eA
        have ho : isOut st.2 = false := by cases h : st.2 <;> rw [h] at hp <;> first | rfl | cases hp
        refine iteF ⟨_, rfl, st.1, _, _, _, rfl, rfl, hu, tag_at st.2, rfl, _, rfl, ?_⟩
        rw [tag_out, ho]
        refine iteT ⟨_, rfl, .inl ⟨rfl, _, SqL.of atD2⟩, _, rfl, _, rfl, st.1, _, _, _, rfl, rfl, hu, lst_at st.2, D, _, _, rfl, rfl, atD2, szD _ (by rw [List.length_map]; omega), ?_⟩
        refine ⟨at_, wd ++ [lst1 st.2], _, _, rfl, (app _).1, (app _).2, ha, by rw [List.length_append]; show wd.length + 1 ≤ _; omega, ?_⟩
        rw [eA]
        exact map_map_ex _ wd [lst1 st.2]
      | false =>
        rw [hp, if_neg Bool.false_ne_true] at eA
        have cm : cutS a (some (at_ : Int)) (some ((at_ : Int) + 1)) = ⟨(((TL.tl a).drop at_).take 1).toArray⟩ := str_ext (cut_mid (n := 1) ha)
        refine iteT ⟨_, rfl, _, rfl, _, rfl, at_, rfl, _, rfl, _, _, rfl, rfl, _, rfl, a, rfl, as, st.1, st.2, _, rfl, hu, hp, ?_⟩
        rw [cm]
        refine ⟨_, rfl, ?_⟩
        cases hf : fitB st.2 ⟨(((TL.tl a).drop at_).take 1).toArray⟩ with
        | false =>
          rw [hf, if_neg Bool.false_ne_true] at eA
          refine iteT ⟨_, rfl, ?_⟩
          exact mk_at T.x_BadStep.o T.x_BadStep.no (small_of (by omega) (by omega)) ((x1 k eA).same smu)
        | true =>
          rw [hf, if_pos rfl] at eA
          have ne := fit_ne hp hf
          have lt : at_ < a.length := by
            rcases Nat.lt_or_ge at_ a.length with c | c
            · exact c
            · exact absurd (List.drop_eq_nil_of_le (by rw [za]; exact c)) ne
          have tl : ((TL.tl a).drop at_).tail = (TL.tl a).drop (at_ + 1) := by simp
          rw [tl] at eA
          refine iteF ⟨_, rfl, _, _, rfl, rfl, ?_⟩
          refine ⟨_, rfl, st.1, _, _, _, rfl, rfl, hu, tag_at st.2, rfl, _, rfl, ?_⟩
          rw [tag_out]
          cases ho : isOut st.2 with
          | true =>
            rw [ho, if_pos rfl] at eA
            exact iteF ⟨at_ + 1, wd, _, _, rfl, smu, atD2, by omega, by omega, eA⟩
          | false =>
            rw [ho, if_neg Bool.false_ne_true] at eA
            refine iteT ⟨_, rfl, .inl ⟨rfl, _, SqL.of atD2⟩, _, rfl, _, rfl, st.1, _, _, _, rfl, rfl, hu, lst_at st.2, D, _, _, rfl, rfl, atD2, szD _ (by rw [List.length_map]; omega), ?_⟩
            refine ⟨at_ + 1, wd ++ [lst1 st.2], _, _, rfl, (app _).1, (app _).2, by omega, by rw [List.length_append]; show wd.length + 1 ≤ _; omega, ?_⟩
            rw [eA]
            exact map_map_ex _ wd [lst1 st.2]
    · obtain ⟨at_, wd, y4, y5, rfl, sm, atD, ha, hw, eA⟩ := hW
      rw [ql] at hw
      have dS0 : (S.map (·.2)).drop (srefs S).length = [] := List.drop_eq_nil_of_le (by rw [List.length_map, ql]; exact Nat.le_refl _)
      rw [dS0] at eA
      refine ⟨_, rfl, _, rfl, a, rfl, as, _, _, rfl, rfl, _, rfl, ?_⟩
      by_cases c : at_ < a.length
      · rw [decide_eq_true (by omega)]
        have e1 : ali (TL.tl a) (S.map (·.2)) 0 = .error S.length := by
          rw [eA, drop_cons (by rw [za]; exact c)]
          show Except.error _ = _
          rw [ql]
        refine ⟨_, rfl, p, _, rfl, .inl (sm.seq hP), ?_⟩
        rw [ql]
        exact mk_at T.x_BadStep.o T.x_BadStep.no (small_of (by omega) (by omega)) ((x1 _ e1).same sm)
      · rw [decide_eq_false (by omega)]
        have e1 : ali (TL.tl a) (S.map (·.2)) 0 = .ok wd := by
          have da0 : (TL.tl a).drop at_ = [] := List.drop_eq_nil_of_le (by rw [za]; omega)
          rw [eA, da0]
          show Except.ok (wd ++ []) = _
          rw [List.append_nil]
        have jn : Txt.join "" (wd.map fun c => (⟨#[c]⟩ : Str)) = ⟨wd.toArray⟩ := str_ext (tl_join_ones wd)
        refine ⟨⟨_, rfl⟩, _, rfl, "", D, wd.map fun c => (⟨#[c]⟩ : Str), rfl, rfl, .inl (SqL.of ?_), ?_, ?_⟩
        · rw [atD, List.map_map]
          rfl
        · rw [sum_ones, List.length_map]
          show wd.length + wd.length * 0 ≤ 16777216
          omega
        · rw [jn]
          exact q wd e1 H' sm
end

end SH
set_option Elab.async false
set_option linter.all false
set_option maxRecDepth 100000
set_option maxHeartbeats 4000000
namespace SH
open PySem PySem.Spec PyProof.Rows L2
section
variable {P : Program} {w : World} {K : PySem.W.Frag} {mg : Str → Option Value} {base : Heap} {ea : Ea}
/-- a cell of a table from below -/
def spLowAt : Sp := fun vs H Q _ => ∃ (a b : Str) (t : Addr) (rs : List Addr) (M : List (List Int)) (i j : Nat), vs = [.str a, .str b, .ref t, .int i, .int j] ∧ a.length ≤ 200 ∧ b.length ≤ 200 ∧ TabAt H t rs M ∧ Shape (TL.tl a) (TL.tl b) M ∧ i ≤ a.length ∧ j ≤ b.length ∧
  ∀ k : Bool, (k = true ↔ CellOk (TL.tl a) (TL.tl b) M i j) → Q (.bl k) H
theorem iff_dec {p q : Prop} [Decidable p] (h : p ↔ q) : decide p = true ↔ q := ⟨fun z => h.mp (of_decide_eq_true z), fun z => decide_eq_true (h.mpr z)⟩
theorem sc__is_low_at : FnScope ["one", "two", "table", "i", "j", "value"] ["one", "two", "table", "i", "j"] (defScope s__is_low_at) := ⟨rfl, rfl, rfl, by decide +kernel, rfl, by decide +kernel, by decide +kernel⟩
theorem ok__is_low_at (T : Txt K mg ea) : Cl P w K mg base 1 "_is_low_at" spLowAt := by
  have nd := sc__is_low_at.nd
  refine cl_of T.d__is_low_at sc__is_low_at (fun vs H Q E h => ?_) (fun f cdv A outer s H vs Q E0 hr h => ?_)
  · obtain ⟨a, b, t, rs, M, i, j, rfl, _⟩ := h
    rfl
  · obtain ⟨a, b, t, rs, M, i, j, rfl, al, bl, tb, sh, hi, hj, q⟩ := h
    refine ⟨_, (pss_cons (ps_set (i := 5) nd rfl (.inl rfl) (pe_ix (ixl (K := K)) (pe_ix (ixl (K := K)) (pv 2) (pv 3) (fun _ _ => rfl)) (pv 4) (fun _ _ => rfl)))
      (C8.pss_cut (ps_if (PW.pt (pw_and (pt_cmpR op_lt (pv 3) (pe_callB call_len_str (by rfl) T.b_len PySem.boot_len (pa_cons (pv 0) pa_nil)) (nomark _)) (pw_and1 (pt_cmpR op_gt (pv 5) (pe_op op_add (pe_ix (ixl (K := K)) (pe_ix (ixl (K := K)) (pv 2) (pe_op op_add (pv 3) pe_int) (fun _ _ => rfl)) (pv 4) (fun _ _ => rfl)) pe_int) (nomark _)))))
        (pss_one (ps_ret pe_bl))
        pss_nil)
      (C8.pss_cut (ps_if (PW.pt (pw_and (pt_cmpR op_lt (pv 4) (pe_callB call_len_str (by rfl) T.b_len PySem.boot_len (pa_cons (pv 1) pa_nil)) (nomark _)) (pw_and1 (pt_cmpR op_gt (pv 5) (pe_op op_add (pe_ix (ixl (K := K)) (pe_ix (ixl (K := K)) (pv 2) (pv 3) (fun _ _ => rfl)) (pe_op op_add (pv 4) pe_int) (fun _ _ => rfl)) pe_int) (nomark _)))))
        (pss_one (ps_ret pe_bl))
        pss_nil)
      (C8.pss_cut (ps_if (PW.pt (pw_or (pt_cmpR op_eq (pv 3) (pe_callB call_len_str (by rfl) T.b_len PySem.boot_len (pa_cons (pv 0) pa_nil)) (nomark _)) (pw_or1 (pt_cmpR op_eq (pv 4) (pe_callB call_len_str (by rfl) T.b_len PySem.boot_len (pa_cons (pv 1) pa_nil)) (nomark _)))))
        (pss_one (ps_ret pe_bl))
        pss_nil)
      (pss_cons (ps_if (pt_cmpR op_eq (pe_ix ix_str (pv 0) (pv 3) (fun _ _ => rfl)) (pe_ix ix_str (pv 1) (pv 4) (fun _ _ => rfl)) (nomark _))
        (pss_one (ps_ret (pe_cmpR op_le (pv 5) (pe_ix (ixl (K := K)) (pe_ix (ixl (K := K)) (pv 2) (pe_op op_add (pv 3) pe_int) (fun _ _ => rfl)) (pe_op op_add (pv 4) pe_int) (fun _ _ => rfl)) (nomark _))))
        pss_nil)
      (pss_one (ps_ret (pe_cmpR op_le (pv 5) (pe_op op_add (pe_ix (ixl (K := K)) (pe_ix (ixl (K := K)) (pv 2) (pe_op op_add (pv 3) pe_int) (fun _ _ => rfl)) (pe_op op_add (pv 4) pe_int) (fun _ _ => rfl)) pe_int) (nomark _))))))))), ?_⟩
    have za : (TL.tl a).length = a.length := rfl
    have zb : (TL.tl b).length = b.length := rfl
    have as : a.length ≤ sizeLine := Nat.le_trans al (by decide)
    have bs : b.length ≤ sizeLine := Nat.le_trans bl (by decide)
    have e1 : (i : Int) + 1 = ((i + 1 : Nat) : Int) := by omega
    have e2 : (j : Int) + 1 = ((j + 1 : Nat) : Int) := by omega
    obtain ⟨r, l, p1, p2, p3⟩ := tb.get sh (i := i) (j := j) hi hj
    refine ⟨_, rfl, _, rfl, t, _, _, _, rfl, rfl, SqL.of tb.at_, p1, _, rfl, r, _, _, _, rfl, rfl, SqL.of p2, p3, ?_⟩
    refine ⟨fun σ H' => H' = H ∧ σ = [some (.str a), some (.str b), some (.ref t), some (.int (i : Int)), some (.int (j : Int)), some (.int (cell M i j))] ∧ (i < a.length → cell M i j ≤ cell M (i + 1) j + 1), ?_, ?_⟩
    · refine ⟨_, rfl, _, rfl, a, rfl, as, _, _, rfl, rfl, _, rfl, ?_⟩
      by_cases c : i < a.length
      · rw [decide_eq_true (by omega)]
        obtain ⟨r1, l1, g1, g2, g3⟩ := tb.get sh (i := i + 1) (j := j) (by omega) hj
        refine ⟨_, rfl, _, rfl, _, rfl, _, _, rfl, rfl, t, _, _, _, rfl, rfl, SqL.of tb.at_, by rw [e1]; exact g1, _, rfl, r1, _, _, _, rfl, rfl, SqL.of g2, g3, _, _, rfl, rfl, _, _, rfl, rfl, _, rfl, ite2 (fun e => ?_) (fun e => ?_)⟩
        · have d := of_decide_eq_true e
          exact q false ⟨(fun z => nomatch z), fun z => by have := z.1 c; omega⟩
        · exact ⟨rfl, rfl, fun _ => by have : ¬ _ < _ := fun z => e (decide_eq_true z); omega⟩
      · rw [decide_eq_false (by omega)]
        exact iteF ⟨rfl, rfl, fun z => absurd z c⟩
    rintro σ' H' ⟨rfl, rfl, k1⟩
    refine ⟨fun σ H2 => H2 = H' ∧ σ = [some (.str a), some (.str b), some (.ref t), some (.int (i : Int)), some (.int (j : Int)), some (.int (cell M i j))] ∧ (j < b.length → cell M i j ≤ cell M i (j + 1) + 1), ?_, ?_⟩
    · refine ⟨_, rfl, _, rfl, b, rfl, bs, _, _, rfl, rfl, _, rfl, ?_⟩
      by_cases c : j < b.length
      · rw [decide_eq_true (by omega)]
        obtain ⟨r1, l1, g1, g2, g3⟩ := tb.get sh (i := i) (j := j + 1) hi (by omega)
        refine ⟨_, rfl, _, rfl, _, rfl, t, _, _, _, rfl, rfl, SqL.of tb.at_, g1, _, rfl, _, _, rfl, rfl, r1, _, _, _, rfl, rfl, SqL.of g2, by rw [e2]; exact g3, _, _, rfl, rfl, _, _, rfl, rfl, _, rfl, ite2 (fun e => ?_) (fun e => ?_)⟩
        · have d := of_decide_eq_true e
          exact q false ⟨(fun z => nomatch z), fun z => by have := z.2.1 c; omega⟩
        · exact ⟨rfl, rfl, fun _ => by have : ¬ _ < _ := fun z => e (decide_eq_true z); omega⟩
      · rw [decide_eq_false (by omega)]
        exact iteF ⟨rfl, rfl, fun z => absurd z c⟩
    rintro σ' H2 ⟨rfl, rfl, k2⟩
    refine ⟨fun σ H3 => H3 = H2 ∧ σ = [some (.str a), some (.str b), some (.ref t), some (.int (i : Int)), some (.int (j : Int)), some (.int (cell M i j))] ∧ i < a.length ∧ j < b.length, ?_, ?_⟩
    · have yes : ¬ (i < a.length ∧ j < b.length) → Q (.bl true) H2 := fun c => q true ⟨fun _ => ⟨k1, k2, fun c1 c2 => absurd ⟨c1, c2⟩ c⟩, fun _ => rfl⟩
      refine ⟨_, rfl, _, rfl, a, rfl, as, rfl, _, rfl, ite2 (fun e => ?_) (fun e => ?_)⟩
      · have d := V.int.inj (of_decide_eq_true e)
        exact yes (by omega)
      · have d : i ≠ a.length := fun z => e (decide_eq_true (by rw [z]))
        refine ⟨_, rfl, _, rfl, b, rfl, bs, rfl, _, rfl, ite2 (fun e => ?_) (fun e => ?_)⟩
        · have d := V.int.inj (of_decide_eq_true e)
          exact yes (by omega)
        · have d2 : j ≠ b.length := fun z => e (decide_eq_true (by rw [z]))
          exact ⟨rfl, rfl, by omega, by omega⟩
    rintro σ' H3 ⟨rfl, rfl, c1, c2⟩
    obtain ⟨r1, l1, g1, g2, g3⟩ := tb.get sh (i := i + 1) (j := j + 1) (by omega) (by omega)
    have ga : (TL.tl a)[i]? = some ((TL.tl a)[i]'(by omega)) := List.getElem?_eq_getElem (by omega)
    have gb : (TL.tl b)[j]? = some ((TL.tl b)[j]'(by omega)) := List.getElem?_eq_getElem (by omega)
    generalize (TL.tl a)[i]'(by omega) = ca at ga
    generalize (TL.tl b)[j]'(by omega) = cb at gb
    have ec : (V.str (⟨#[ca]⟩ : Str) = V.str ⟨#[cb]⟩) ↔ ((TL.tl a)[i]? = (TL.tl b)[j]?) := by
      rw [ga, gb]
      refine ⟨fun z => ?_, fun z => by rw [Option.some.inj z]⟩
      have := Str.mk.inj (V.str.inj z)
      simp at this
      rw [this]
    refine ⟨_, rfl, _, rfl, a, _, _, rfl, rfl, as, atI_nat ga, _, rfl, _, rfl, b, _, _, rfl, rfl, bs, atI_nat gb, rfl, _, rfl, ite2 (fun e => ?_) (fun e => ?_)⟩
    · have d := ec.mp (of_decide_eq_true e)
      refine ⟨_, rfl, _, rfl, _, rfl, _, _, rfl, rfl, t, _, _, _, rfl, rfl, SqL.of tb.at_, by rw [e1]; exact g1, _, rfl, _, _, rfl, rfl, r1, _, _, _, rfl, rfl, SqL.of g2, by rw [e2]; exact g3, _, _, rfl, rfl, ?_⟩
      refine q _ (iff_dec ⟨fun z => ⟨k1, k2, fun _ _ => ?_⟩, fun z => ?_⟩)
      · rw [if_pos d]
        omega
      · have := z.2.2 c1 c2
        rw [if_pos d] at this
        omega
    · have d : ¬ (TL.tl a)[i]? = (TL.tl b)[j]? := fun z => e (decide_eq_true (ec.mpr z))
      refine ⟨_, rfl, _, rfl, _, rfl, _, _, rfl, rfl, t, _, _, _, rfl, rfl, SqL.of tb.at_, by rw [e1]; exact g1, _, rfl, _, _, rfl, rfl, r1, _, _, _, rfl, rfl, SqL.of g2, by rw [e2]; exact g3, _, _, rfl, rfl, _, _, rfl, rfl, ?_⟩
      refine q _ (iff_dec ⟨fun z => ⟨k1, k2, fun _ _ => ?_⟩, fun z => ?_⟩)
      · rw [if_neg d]
        omega
      · have := z.2.2 c1 c2
        rw [if_neg d] at this
        omega
/-- whether a table is low -/
def spLow (K : PySem.W.Frag) : Sp := fun vs H Q _ => ∃ (a b : Str) (t : Addr) (rs : List Addr) (M : List (List Int)), vs = [.str a, .str b, .ref t] ∧ a.length ≤ 200 ∧ b.length ≤ 200 ∧ TabAt H t rs M ∧ M.length ≤ 1000 ∧ (∀ l ∈ M, l.length ≤ 1000) ∧
  ∀ (k : Bool) (H' : Hp), Same H H' → (k = true ↔ Low (TL.tl a) (TL.tl b) M) → Q (.bl k) H'
theorem sc_is_low : FnScope ["one", "two", "table", "row", "i", "j"] ["one", "two", "table"] (defScope s_is_low) := ⟨rfl, rfl, rfl, by decide +kernel, rfl, by decide +kernel, by decide +kernel⟩
theorem ok_is_low (T : Txt K mg ea) (c__is_low_at : Cl P w K mg base 1 "_is_low_at" spLowAt) : Cl P w K mg base 2 "is_low" (spLow K) := by
  have nd := sc_is_low.nd
  refine cl_of T.d_is_low sc_is_low (fun vs H Q E h => ?_) (fun f cdv A outer s H vs Q E0 hr h => ?_)
  · obtain ⟨a, b, t, rs, M, rfl, _⟩ := h
    rfl
  · obtain ⟨a, b, t, rs, M, rfl, al, bl, tb, ml, ll, q⟩ := h
    refine ⟨_, (pss_cons (ps_if (PW.pt (pw_or (pt_cmpR op_ne (pe_callB call_len_seq (by rfl) T.b_len PySem.boot_len (pa_cons (pv 2) pa_nil)) (pe_op op_add (pe_callB call_len_str (by rfl) T.b_len PySem.boot_len (pa_cons (pv 0) pa_nil)) pe_int) (nomark _)) (pw_or1 (pt_not (pt_val (pe_callB (cr_all rfl) (by rfl) T.b_all (by decide +kernel) (pa_cons (pe_lc (own := [("row", 3)]) (g := (gName 3)) rfl nd (pi_listK (K := K) (pv 2)) (blkOk_by (own := [("row", 3)]) (N := ["one", "two", "table", "row", "i", "j"]) (sc := defScope s_is_low) (by decide +kernel)) (fun _ _ _ _ _ => (pg_name (i := 3) nd rfl (.inl rfl))) (fun _ _ _ _ _ => pts_nil) (fun _ _ _ _ _ => (pe_cmpR op_eq (pe_callB (call_len_seqK (K := K)) (by rfl) T.b_len PySem.boot_len (pa_cons (pv 3) pa_nil)) (pe_op op_add (pe_callB call_len_str (by rfl) T.b_len PySem.boot_len (pa_cons (pv 1) pa_nil)) pe_int) (nomark _)))) pa_nil)))))))
        (pss_one (ps_ret pe_bl))
        pss_nil)
      (pss_cons (ps_if (pt_cmpR op_gt (pe_ix (ixl (K := K)) (pe_ix (ixl (K := K)) (pv 2) (pe_un un_neg pe_int) (fun _ _ => rfl)) (pe_un un_neg pe_int) (fun _ _ => rfl)) pe_int (nomark _))
        (pss_one (ps_ret pe_bl))
        pss_nil)
      (pss_one (ps_ret (pe_callB (cr_all rfl) (by rfl) T.b_all (by decide +kernel) (pa_cons (pe_lc2 (own := [("i", 4), ("j", 5)]) (vs1 := [5]) (g := (gName 4)) (g1 := (gName 5)) rfl nd (pi_range1 rfl T.b_range (pa_cons (pe_op op_add (pe_callB call_len_str (by rfl) T.b_len PySem.boot_len (pa_cons (pv 0) pa_nil)) pe_int) pa_nil)) (blkOk_by (own := [("i", 4), ("j", 5)]) (N := ["one", "two", "table", "row", "i", "j"]) (sc := defScope s_is_low) (by decide +kernel)) (by decide) (fun _ _ _ _ _ => (pg_name (i := 4) nd rfl (.inl rfl))) (fun _ _ _ _ _ => pts_nil) (fun _ _ _ _ _ => (pi_range1 rfl T.b_range (pa_cons (pe_op op_add (pe_callB call_len_str (by rfl) T.b_len PySem.boot_len (pa_cons (pv 1) pa_nil)) pe_int) pa_nil))) (fun _ _ _ _ _ => (pg_name (i := 5) nd rfl (.inl rfl))) (fun _ _ _ _ _ => pts_nil) (fun _ _ _ _ _ => (C8.pe_c c__is_low_at hr (by decide) (by rfl) (pa_cons (pv 0) (pa_cons (pv 1) (pa_cons (pv 2) (pa_cons (pv 4) (pa_cons (pv 5) pa_nil)))))))) pa_nil)))))), ?_⟩
    have za : (TL.tl a).length = a.length := rfl
    have zb : (TL.tl b).length = b.length := rfl
    have as : a.length ≤ sizeLine := Nat.le_trans al (by decide)
    have bs : b.length ≤ sizeLine := Nat.le_trans bl (by decide)
    have rl : (rs.map V.ref).length = M.length := by rw [List.length_map, tb.len]
    refine ⟨_, rfl, t, _, rfl, .inl (SqL.of tb.at_), _, rfl, a, rfl, as, _, _, rfl, rfl, rfl, _, rfl, ?_⟩
    by_cases c1 : M.length = a.length + 1
    · have d1 : (!decide (V.int ((rs.map V.ref).length : Int) = V.int ((a.length : Int) + 1))) = false := by
        rw [decide_eq_true (by rw [rl, c1]; rfl)]
        rfl
      rw [d1]
      refine iteF ⟨_, rfl, t, rfl, ⟨_, SqL.of tb.at_⟩, fun D nD => ?_⟩
      refine lc_w (walk_list (xs := rs.map V.ref)) nD (by omega) (fun H' e => SqL.of (e _ _ tb.at_)) (fun i acc _ => acc = ((M.take i).map fun l => decide (l.length = b.length + 1)).map V.bl) (fun _ _ => rfl) (fun _ _ _ _ _ _ _ r => r) (fun i H x H' y => by rw [y.1]; exact Same.refl _) (fun i x acc Ha Hb Qn Qf hi sm y r at_ kn kf => ?_) (fun acc H1 s1 at_ _ r => ?_)
      · obtain ⟨rfl, hx⟩ := y
        rw [List.getElem?_map] at hx
        rw [rl] at hi
        have e1 : rs[i]? = some (rs[i]'(by rw [tb.len]; exact hi)) := List.getElem?_eq_getElem _
        have e2 : M[i]? = some M[i] := List.getElem?_eq_getElem hi
        rw [e1] at hx
        obtain rfl := Option.some.inj hx
        refine ⟨rfl, _, rfl, _, _, rfl, .inl (SqL.of (sm _ _ (tb.row i _ _ e1 e2))), _, rfl, b, rfl, bs, _, _, rfl, rfl, rfl, kn _ _ (Same.refl _) ?_⟩
        rw [r, take_snoc e2, List.map_append, List.map_append]
        show _ = _ ++ [V.bl _]
        congr 2
        rw [List.length_map]
        congr 1
        exact decide_eq_decide.mpr ⟨fun z => by have := V.int.inj z; omega, fun z => by rw [z]; rfl⟩
      rw [List.take_of_length_le (by omega)] at r
      subst r
      refine ⟨D, _, rfl, SqL.of at_, ?_⟩
      refine ⟨_, rfl, ?_⟩
      cases hA : (M.map fun l => decide (l.length = b.length + 1)).all id with
      | true =>
        have c2 : ∀ l ∈ M, l.length = b.length + 1 := fun l hl => of_decide_eq_true (List.all_eq_true.mp hA _ (List.mem_map_of_mem hl))
        have sh : Shape (TL.tl a) (TL.tl b) M := ⟨c1, c2⟩
        have tb1 := tb.same s1
        obtain ⟨r, l, p1, p2, p3, ll0⟩ := tb1.getL sh (i := a.length) (j := b.length) (Nat.le_refl _) (Nat.le_refl _)
        have m1 : atI (rs.map V.ref) (-1) = some (.ref r) := by rw [← p1]; exact atI_m1 (by rw [rl, c1])
        have ll : (l.map V.int).length = b.length + 1 := by
          rw [List.length_map]
          exact ll0
        have m2 : atI (l.map V.int) (-1) = some (.int (cell M a.length b.length)) := by rw [← p3]; exact atI_m1 ll
        refine iteF ⟨_, rfl, _, rfl, t, _, _, _, rfl, rfl, SqL.of tb1.at_, m1, _, rfl, r, _, _, _, rfl, rfl, SqL.of p2, m2, _, _, rfl, rfl, _, rfl, ite2 (fun e => ?_) (fun e => ?_)⟩
        · have d := of_decide_eq_true e
          exact q false H1 s1 ⟨(fun z => nomatch z), fun z => by have := z.last; rw [za, zb] at this; omega⟩
        · have d : cell M a.length b.length ≤ 0 := by
            have : ¬ _ < _ := fun z => e (decide_eq_true z)
            omega
          refine ⟨_, rfl, a, rfl, as, _, _, rfl, rfl, _, rfl, by omega, by omega, fun D2 nD2 => ?_⟩
          refine wk (walk_range (lo := 0) (n := ((a.length : Int) + 1).toNat)) (fun i H' => Same H1 H' ∧ ∃ ks : List Bool, H' D2 = some (.lst (ks.map V.bl)) ∧ ks.length = i * (b.length + 1) ∧ ((∀ k ∈ ks, k = true) ↔ ∀ u, u < i → ∀ v, v ≤ b.length → CellOk (TL.tl a) (TL.tl b) M u v))
            ⟨same_new nD2, [], upd_same, by simp, by simp⟩ (fun _ _ _ _ => trivial) (fun i x H2 H3 hi hP y => ?_) (fun H2 hP => ?_)
          · obtain ⟨sm, ks, atk, kl, hk⟩ := hP
            obtain ⟨rfl, rfl⟩ := y
            have ez : (0 : Int) + (i : Int) = (i : Int) := Int.zero_add _
            simp only [ez]
            refine ⟨rfl, _, rfl, b, rfl, bs, _, _, rfl, rfl, _, rfl, by omega, by omega, ?_⟩
            refine wk (walk_range (lo := 0) (n := ((b.length : Int) + 1).toNat)) (fun j H' => Same H1 H' ∧ ∃ ks : List Bool, H' D2 = some (.lst (ks.map V.bl)) ∧ ks.length = i * (b.length + 1) + j ∧ ((∀ k ∈ ks, k = true) ↔ (∀ u, u < i → ∀ v, v ≤ b.length → CellOk (TL.tl a) (TL.tl b) M u v) ∧ ∀ v, v < j → CellOk (TL.tl a) (TL.tl b) M i v))
              ⟨sm, ks, atk, by omega, by rw [hk]; exact ⟨fun z => ⟨z, fun v h => absurd h (by omega)⟩, fun z => z.1⟩⟩ (fun _ _ _ _ => trivial) (fun j x H4 H5 hj hP2 y => ?_) (fun H4 hP2 => ?_)
            · obtain ⟨sm2, ks2, atk2, kl2, hk2⟩ := hP2
              obtain ⟨rfl, rfl⟩ := y
              have ez2 : (0 : Int) + (j : Int) = (j : Int) := Int.zero_add _
              simp only [ez2]
              refine ⟨rfl, _, rfl, _, rfl, _, rfl, _, rfl, _, rfl, a, b, t, rs, M, i, j, rfl, al, bl, tb1.same sm2, sh, by omega, by omega, fun k hk3 => ?_⟩
              have kb : (ks2.map V.bl).length < sizeLine := by
                rw [List.length_map, kl2]
                have h1 : i * (b.length + 1) ≤ 200 * 201 := Nat.mul_le_mul (by omega) (by omega)
                exact Nat.lt_of_le_of_lt (by omega : _ ≤ 100000) (by decide)
              refine ⟨_, atk2, kb, same_mut sm2 nD2, ks2 ++ [k], by rw [upd_same, List.map_append]; rfl, by rw [List.length_append, kl2]; rfl, ?_⟩
              refine ⟨fun z => ?_, fun z x hx => ?_⟩
              · obtain ⟨z1, z2⟩ := hk2.mp fun x m => z x (List.mem_append_left _ m)
                refine ⟨z1, fun v hv => ?_⟩
                rcases Nat.lt_or_ge v j with c | c
                · exact z2 v c
                · rw [show v = j by omega]
                  exact hk3.mp (z k (by simp))
              · rcases List.mem_append.mp hx with m | m
                · exact hk2.mpr ⟨z.1, fun v hv => z.2 v (by omega)⟩ x m
                · rw [List.mem_singleton.mp m]
                  exact hk3.mpr (z.2 j (by omega))
            · obtain ⟨sm2, ks2, atk2, kl2, hk2⟩ := hP2
              refine ⟨sm2, ks2, atk2, ?_, ?_⟩
              · rw [kl2, Nat.succ_mul]
                omega
              · rw [hk2]
                refine ⟨fun z u hu v hv => ?_, fun z => ⟨fun u hu => z u (by omega), fun v hv => z i (by omega) v (by omega)⟩⟩
                rcases Nat.lt_or_ge u i with c | c
                · exact z.1 u c v hv
                · rw [show u = i by omega]
                  exact z.2 v (by omega)
          · obtain ⟨sm, ks, atk, kl, hk⟩ := hP
            refine ⟨D2, ks, rfl, SqL.of atk, q _ H2 (s1.trans sm) ?_⟩
            rw [List.all_eq_true]
            refine ⟨fun z => ⟨sh, d, fun i j hi hj => hk.mp z i (by omega) j hj⟩, fun z => hk.mpr fun u hu v hv => z.cells u v (by omega) hv⟩
      | false =>
        have c2 : ¬ ∀ l ∈ M, l.length = b.length + 1 := fun z => by
          rw [List.all_eq_true.mpr fun k hk => by
            obtain ⟨l, hl, rfl⟩ := List.mem_map.mp hk
            exact decide_eq_true (z l hl)] at hA
          cases hA
        exact iteT (q false H1 s1 ⟨(fun z => nomatch z), fun z => absurd z.shape.row c2⟩)
    · have d1 : (!decide (V.int ((rs.map V.ref).length : Int) = V.int ((a.length : Int) + 1))) = true := by
        rw [decide_eq_false (fun z => c1 (by have := V.int.inj z; omega))]
        rfl
      rw [d1]
      exact iteT (q false H (Same.refl _) ⟨(fun z => nomatch z), fun z => absurd z.shape.len (by rw [za]; exact c1)⟩)
end

end SH
set_option Elab.async false
set_option linter.all false
set_option maxRecDepth 100000
set_option maxHeartbeats 4000000
namespace SH
open PySem PySem.Spec PyProof.Rows L2
section
variable {P : Program} {w : World} {K : PySem.W.Frag} {mg : Str → Option Value} {base : Heap} {ea : Ea}
/-- the price of steps -/
def spPrice (K : PySem.W.Frag) : Sp := fun vs H Q _ => ∃ (p : Addr) (S : ST), vs = [.ref p] ∧ SqL K H p (srefs S) ∧ StAt K H S ∧ S.length ≤ 1000 ∧ ∀ H', Same H H' → Q (.int (price (S.map (·.2)) : Nat)) H'
theorem price_map (S : ST) : price (S.map (·.2)) = (S.filter fun s => !isKeep s.2).length := by
  unfold price
  rw [List.filter_map, List.length_map]
  rfl
theorem sc__price : FnScope ["steps", "step"] ["steps"] (defScope s__price) := ⟨rfl, rfl, rfl, by decide +kernel, rfl, by decide +kernel, by decide +kernel⟩
theorem ok__price (T : Txt K mg ea) : Cl P w K mg base 1 "_price" (spPrice K) := by
  have nd := sc__price.nd
  refine cl_of T.d__price sc__price (fun vs H Q E h => ?_) (fun f cdv A outer s H vs Q E hr h => ?_)
  · obtain ⟨p, S, rfl, _⟩ := h
    rfl
  · obtain ⟨p, S, rfl, hP, hS, sl, q⟩ := h
    refine ⟨_, (pss_one (ps_ret (pe_callB call_len_seq (by rfl) T.b_len PySem.boot_len (pa_cons (pe_lc (own := [("step", 1)]) (g := (gName 1)) rfl nd (pi_listK (K := K) (pv 0)) (blkOk_by (own := [("step", 1)]) (N := ["steps", "step"]) (sc := defScope s__price) (by decide +kernel)) (fun _ _ _ _ _ => (pg_name (i := 1) nd rfl (.inl rfl))) (fun _ _ _ _ _ => pts_one (pt_cmpR op_ne (pe_ix (ixt (K := K)) (pv 1) pe_int (fun _ _ => rfl)) pe_str (nomark _))) (fun _ _ _ _ _ => (pv 1))) pa_nil)))), ?_⟩
    have ql := srefs_len S
    refine ⟨_, rfl, p, rfl, ⟨_, hP⟩, fun D nD => ?_⟩
    refine lc_w (walk_list (xs := srefs S)) nD (by omega) (fun H' e => e.seq hP) (fun i acc _ => acc.length = ((S.take i).filter fun s => !isKeep s.2).length) (fun _ _ => rfl) (fun _ _ _ _ _ _ _ r => r) (fun i H x H' y => by rw [y.1]; exact Same.refl _) (fun i x acc Ha Hb Qn Qf hi sm y r at_ kn kf => ?_) (fun acc H9 s9 at9 _ r => ?_)
    · obtain ⟨rfl, hx⟩ := y
      obtain ⟨st, hst, stm, rfl⟩ := srefs_get hx
      have hu := same_tup sm (hS st stm)
      refine ⟨rfl, _, rfl, st.1, _, _, _, rfl, rfl, hu, tag_at st.2, rfl, _, rfl, ?_⟩
      rw [tag_keep]
      have tk := take_snoc hst
      cases hk : isKeep st.2 with
      | true =>
        refine iteF (kf _ (Same.refl _) ?_)
        rw [r, tk, List.filter_append, List.filter_cons_of_neg (by rw [hk]; decide), List.length_append]
        rfl
      | false =>
        refine iteT ⟨_, rfl, kn _ _ (Same.refl _) ?_⟩
        rw [List.length_append, r, tk, List.filter_append, List.filter_cons_of_pos (by rw [hk]; rfl), List.length_append]
        rfl
    have pr : acc.length = price (S.map (·.2)) := by
      rw [r, List.take_of_length_le (by rw [ql]; exact Nat.le_refl _), price_map]
    refine ⟨_, _, rfl, .inl (SqL.of at9), ?_⟩

    rw [pr]
    exact q _ s9
/-- a distance checked -/
def spCheck (K : PySem.W.Frag) : Sp := fun vs H Q _ => ∃ (a b : Str) (n : Int) (p : Addr) (S : ST) (t : Addr) (rs : List Addr) (M : List (List Int)), vs = [.str a, .str b, .int n, .ref p, .ref t] ∧ a.length ≤ 200 ∧ b.length ≤ 200 ∧ SqL K H p (srefs S) ∧ StAt K H S ∧ S.length ≤ 1000 ∧ TabAt H t rs M ∧ M.length ≤ 1000 ∧ (∀ l ∈ M, l.length ≤ 1000) ∧
  ∀ (k : Bool) (H' : Hp), Same H H' → (k = true ↔ Chk (TL.tl a) (TL.tl b) n (S.map (·.2)) M) → Q (.bl k) H'
theorem no_iff {p : Prop} (h : ¬ p) : (false = true ↔ p) := ⟨(fun z => nomatch z), fun z => absurd z h⟩
theorem sc_check_distance : FnScope ["one", "two", "number", "steps", "table", "word"] ["one", "two", "number", "steps", "table"] (defScope s_check_distance) := ⟨rfl, rfl, rfl, by decide +kernel, rfl, by decide +kernel, by decide +kernel⟩
theorem ok_check_distance (T : Txt K mg ea) (c_is_low : Cl P w K mg base 2 "is_low" (spLow K)) (c_aligned : ClX P w K mg base 3 "aligned" (spAligned K ea)) (c__price : Cl P w K mg base 1 "_price" (spPrice K)) : Cl P w K mg base 4 "check_distance" (spCheck K) := by
  have nd := sc_check_distance.nd
  refine cl_of T.d_check_distance sc_check_distance (fun vs H Q E h => ?_) (fun f cdv A outer s H vs Q E hr h => ?_)
  · obtain ⟨a, b, n, p, S, t, rs, M, rfl, _⟩ := h
    rfl
  · obtain ⟨a, b, n, p, S, t, rs, M, rfl, al, bl, hP, hS, sl, tb, ml, ll, q⟩ := h
    refine ⟨_, (pss_cons (ps_if (PW.pt (pw_or (pt_not (pt_val (C8.pe_c c_is_low hr (by decide) (by rfl) (pa_cons (pv 0) (pa_cons (pv 1) (pa_cons (pv 4) pa_nil)))))) (pw_or1 (pt_cmpR op_ne (pe_ix (ixl (K := K)) (pe_ix (ixl (K := K)) (pv 4) pe_int (fun _ _ => rfl)) pe_int (fun _ _ => rfl)) (pv 2) (nomark _)))))
        (pss_one (ps_ret pe_bl))
        pss_nil)
      (pss_cons (ps_try_hds rfl rfl takes0 (fun W pn xe tk _ => (pss_one (ps_set (i := 5) nd rfl (.inl rfl) (pe_cx c_aligned hr (by decide) (fun σ => passAt tk σ) (by rfl) (pa_cons (pv 0) (pa_cons (pv 3) pa_nil))))))
        (HdsN.cons ⟨rfl, by decide, Or.inl T.x_BadStep.g⟩ (fun a o c d l hz hf => (pss_one (ps_ret pe_bl)))
        HdsN.nil))
      (pss_one (ps_ret (pe_and (pe_cmpR op_eq (pv 5) (pv 1) (nomark _)) (pe_one (pe_cmpR op_eq (C8.pe_c c__price hr (by decide) (by rfl) (pa_cons (pv 3) pa_nil)) (pv 2) (nomark _)))))))), ?_⟩
    refine ⟨_, rfl, _, rfl, _, rfl, a, b, t, rs, M, rfl, al, bl, tb, ml, ll, fun k H1 s1 hk => ⟨_, rfl, ?_⟩⟩
    cases k with
    | false => exact iteT (q false H1 s1 (no_iff fun z => by have := hk.mpr z.low; cases this))
    | true =>
      have lw := hk.mp rfl
      have tb1 := tb.same s1
      obtain ⟨r, l, p1, p2, p3⟩ := tb1.get lw.shape (i := 0) (j := 0) (Nat.zero_le _) (Nat.zero_le _)
      refine iteF ⟨_, rfl, t, _, _, _, rfl, rfl, SqL.of tb1.at_, p1, r, _, _, _, rfl, rfl, SqL.of p2, p3, _, rfl, rfl, _, rfl, ?_⟩
      by_cases c : cell M 0 0 = n
      · rw [decide_eq_true (by rw [c])]
        refine iteF ?_
        refine ⟨_, rfl, _, rfl, a, p, S, rfl, al, s1.seq hP, hS.same s1, sl, fun k e d H2 s2 nd2 e3 => ?_, fun wd e H2 s2 => ?_⟩
        · refine wHds_take T.e_BadStep_BadStep fun a0 na => ?_
          exact q false H2 (s1.trans s2) (no_iff fun z => by have := z.ali; rw [e] at this; cases this)
        · have sm := s1.trans s2
          refine ⟨_, rfl, _, rfl, rfl, _, rfl, ?_⟩
          by_cases c2 : (⟨wd.toArray⟩ : Str) = b
          · rw [decide_eq_true (by rw [c2])]
            refine iteT ⟨_, rfl, p, S, rfl, sm.seq hP, hS.same sm, sl, fun H3 s3 => ⟨_, rfl, rfl, ?_⟩⟩
            have ew : wd = TL.tl b := by rw [← c2]
            refine q _ H3 (sm.trans s3) (iff_dec ⟨fun z => ⟨lw, c, by rw [e, ew], V.int.inj z⟩, fun z => by rw [z.price]⟩)
          · rw [decide_eq_false (fun z => c2 (V.str.inj z))]
            refine iteF (q false H2 sm (no_iff fun z => c2 ?_))
            have := z.ali
            rw [e] at this
            cases this
            rfl
      · rw [decide_eq_false (fun z => c (V.int.inj z))]
        exact iteT (q false H1 s1 (no_iff fun z => c z.at_))
def spLeads (K : PySem.W.Frag) : Sp := fun vs H Q _ => ∃ (a b : Str) (p : Addr) (S : ST), vs = [.str a, .str b, .ref p] ∧ a.length ≤ 200 ∧ SqL K H p (srefs S) ∧ StAt K H S ∧ S.length ≤ 1000 ∧
  ∀ (k : Bool) (H' : Hp), Same H H' → (k = true ↔ ali (TL.tl a) (S.map (·.2)) 0 = .ok (TL.tl b)) → Q (.bl k) H'
theorem sc__law_leads : FnScope ["one", "two", "steps"] ["one", "two", "steps"] (defScope s__law_leads) := ⟨rfl, rfl, rfl, by decide +kernel, rfl, by decide +kernel, by decide +kernel⟩
theorem ok__law_leads (T : Txt K mg ea) (c_aligned : ClX P w K mg base 3 "aligned" (spAligned K ea)) : Cl P w K mg base 4 "_law_leads" (spLeads K) := by
  have nd := sc__law_leads.nd
  refine cl_of T.d__law_leads sc__law_leads (fun vs H Q E h => ?_) (fun f cdv A outer s H vs Q E hr h => ?_)
  · obtain ⟨a, b, p, S, rfl, _⟩ := h
    rfl
  · obtain ⟨a, b, p, S, rfl, al, hP, hS, sl, q⟩ := h
    refine ⟨_, (pss_one (ps_try_hds rfl rfl takes0 (fun W pn xe tk _ => (pss_one (ps_ret (pe_cmpR op_eq (pe_cx c_aligned hr (by decide) (fun σ => passAt tk σ) (by rfl) (pa_cons (pv 0) (pa_cons (pv 2) pa_nil))) (pv 1) (nomark _)))))
        (HdsN.cons ⟨rfl, by decide, Or.inl T.x_HouseError.g⟩ (fun a o c d l hz hf => (pss_one (ps_ret pe_bl)))
        HdsN.nil))), ?_⟩
    refine ⟨_, rfl, _, rfl, a, p, S, rfl, al, hP, hS, sl, fun k e d H2 s2 nd2 e3 => ?_, fun wd e H2 s2 => ?_⟩
    · refine wHds_take T.e_BadStep_HouseError fun a0 na => ?_
      exact q false H2 s2 (no_iff fun z => by rw [e] at z; cases z)
    · refine ⟨_, rfl, rfl, q _ H2 s2 (iff_dec ⟨fun z => ?_, fun z => ?_⟩)⟩
      · rw [e, ← V.str.inj z]
      · rw [e] at z
        cases z
        rfl
theorem sc__law_due : FnScope ["one", "two", "number", "steps", "table", "step"] ["one", "two", "number", "steps", "table"] (defScope s__law_due) := ⟨rfl, rfl, rfl, by decide +kernel, rfl, by decide +kernel, by decide +kernel⟩
theorem ok__law_due (T : Txt K mg ea) (c_is_low : Cl P w K mg base 2 "is_low" (spLow K)) (c__law_leads : Cl P w K mg base 4 "_law_leads" (spLeads K)) : Cl P w K mg base 5 "_law_due" (spCheck K) := by
  have nd := sc__law_due.nd
  refine cl_of T.d__law_due sc__law_due (fun vs H Q E h => ?_) (fun f cdv A outer s H vs Q E hr h => ?_)
  · obtain ⟨a, b, n, p, S, t, rs, M, rfl, _⟩ := h
    rfl
  · obtain ⟨a, b, n, p, S, t, rs, M, rfl, al, bl, hP, hS, sl, tb, ml, ll, q⟩ := h
    refine ⟨_, (pss_cons (ps_if (PW.pt (pw_or (pt_not (pt_val (C8.pe_c c_is_low hr (by decide) (by rfl) (pa_cons (pv 0) (pa_cons (pv 1) (pa_cons (pv 4) pa_nil)))))) (pw_or (pt_not (pt_val (C8.pe_c c__law_leads hr (by decide) (by rfl) (pa_cons (pv 0) (pa_cons (pv 1) (pa_cons (pv 3) pa_nil)))))) (pw_or1 (pt_cmpR op_ne (pe_ix (ixl (K := K)) (pe_ix (ixl (K := K)) (pv 4) pe_int (fun _ _ => rfl)) pe_int (fun _ _ => rfl)) (pv 2) (nomark _))))))
        (pss_one (ps_ret pe_bl))
        pss_nil)
      (pss_one (ps_ret (pe_cmpR op_eq (pe_callB call_len_seq (by rfl) T.b_len PySem.boot_len (pa_cons (pe_lc (own := [("step", 5)]) (g := (gName 5)) rfl nd (pi_listK (K := K) (pv 3)) (blkOk_by (own := [("step", 5)]) (N := ["one", "two", "number", "steps", "table", "step"]) (sc := defScope s__law_due) (by decide +kernel)) (fun _ _ _ _ _ => (pg_name (i := 5) nd rfl (.inl rfl))) (fun _ _ _ _ _ => pts_one (pt_cmpR op_ne (pe_ix (ixt (K := K)) (pv 5) pe_int (fun _ _ => rfl)) pe_str (nomark _))) (fun _ _ _ _ _ => (pv 5))) pa_nil)) (pv 2) (nomark _))))), ?_⟩
    refine ⟨_, rfl, _, rfl, _, rfl, a, b, t, rs, M, rfl, al, bl, tb, ml, ll, fun k H1 s1 hk => ⟨_, rfl, ?_⟩⟩
    cases k with
    | false => exact iteT (q false H1 s1 (no_iff fun z => by have := hk.mpr z.low; cases this))
    | true =>
      have lw := hk.mp rfl
      refine iteF ⟨_, rfl, _, rfl, _, rfl, a, b, p, S, rfl, al, s1.seq hP, hS.same s1, sl, fun k H2 s2 hk2 => ⟨_, rfl, ?_⟩⟩
      have sm := s1.trans s2
      cases k with
      | false => exact iteT (q false H2 sm (no_iff fun z => by have := hk2.mpr z.ali; cases this))
      | true =>
        have ld := hk2.mp rfl
        have tb1 := tb.same sm
        obtain ⟨r, l, p1, p2, p3⟩ := tb1.get lw.shape (i := 0) (j := 0) (Nat.zero_le _) (Nat.zero_le _)
        refine iteF ⟨_, rfl, t, _, _, _, rfl, rfl, SqL.of tb1.at_, p1, r, _, _, _, rfl, rfl, SqL.of p2, p3, _, rfl, rfl, _, rfl, ?_⟩
        by_cases c : cell M 0 0 = n
        · rw [decide_eq_true (by rw [c])]
          refine iteF ?_
          replace hP := sm.seq hP
          replace hS := hS.same sm
          have ql := srefs_len S
          clear hk hk2 tb p1 p2 p3 tb1
          have q' : ∀ (k : Bool) (H' : Hp), Same H2 H' → (k = true ↔ (price (S.map (·.2)) : Int) = n) → Q (.bl k) H' := fun k H' s' h => q k H' (sm.trans s') ⟨fun z => ⟨lw, c, ld, h.mp z⟩, fun z => h.mpr z.price⟩
          refine ⟨_, rfl, p, rfl, ⟨_, hP⟩, fun D nD => ?_⟩
          refine lc_w (walk_list (xs := srefs S)) nD (by omega) (fun H' e => e.seq hP) (fun i acc _ => acc.length = ((S.take i).filter fun s => !isKeep s.2).length) (fun _ _ => rfl) (fun _ _ _ _ _ _ _ r => r) (fun i H x H' y => by rw [y.1]; exact Same.refl _) (fun i x acc Ha Hb Qn Qf hi sm y r at_ kn kf => ?_) (fun acc H9 s9 at9 _ r => ?_)
          · obtain ⟨rfl, hx⟩ := y
            obtain ⟨st, hst, stm, rfl⟩ := srefs_get hx
            have hu := same_tup sm (hS st stm)
            refine ⟨rfl, _, rfl, st.1, _, _, _, rfl, rfl, hu, tag_at st.2, rfl, _, rfl, ?_⟩
            rw [tag_keep]
            have tk := take_snoc hst
            cases hk : isKeep st.2 with
            | true =>
              refine iteF (kf _ (Same.refl _) ?_)
              rw [r, tk, List.filter_append, List.filter_cons_of_neg (by rw [hk]; decide), List.length_append]
              rfl
            | false =>
              refine iteT ⟨_, rfl, kn _ _ (Same.refl _) ?_⟩
              rw [List.length_append, r, tk, List.filter_append, List.filter_cons_of_pos (by rw [hk]; rfl), List.length_append]
              rfl
          have pr : acc.length = price (S.map (·.2)) := by
            rw [r, List.take_of_length_le (by rw [ql]; exact Nat.le_refl _), price_map]
          refine ⟨_, _, rfl, .inl (SqL.of at9), ?_⟩

          refine ⟨_, rfl, rfl, q' _ H9 s9 (iff_dec ⟨fun z => ?_, fun z => ?_⟩)⟩
          · have := V.int.inj z
            rw [pr] at this
            exact this
          · rw [pr, z]
        · rw [decide_eq_false (fun z => c (V.int.inj z))]
          exact iteT (q false H2 sm (no_iff fun z => c z.at_))
end

end SH
set_option Elab.async false
set_option linter.all false
set_option maxRecDepth 100000
set_option maxHeartbeats 4000000
namespace SH
open PySem PySem.Spec PyProof.Rows L2
section
variable {P : Program} {w : World} {K : PySem.W.Frag} {mg : Str → Option Value} {base : Heap} {ea : Ea}
def spLaw (K : PySem.W.Frag) : Sp := fun vs H Q _ => ∃ (a : Addr) (ns : List Int), vs = [.ref a] ∧ SqL K H a (ns.map V.int) ∧ ns.length ≤ 63 ∧ ∀ H', Q (.bl true) H'
theorem let_mem {z : Str} (h : IsLet z) : ∀ c ∈ TL.tl z, okc c = true := fun c m => List.all_eq_true.mp h c m
theorem srefs_cut (S : ST) (lo hi : Option Int) : ∃ S2 : ST, cutV (srefs S) lo hi = srefs S2 ∧ (∀ s ∈ S2, s ∈ S) ∧ S2.length ≤ S.length := by
  refine ⟨(S.drop (HT.sIx (srefs S).length 0 lo)).take (HT.sIx (srefs S).length (srefs S).length hi - HT.sIx (srefs S).length 0 lo), ?_, fun s m => List.mem_of_mem_drop (List.mem_of_mem_take m), ?_⟩
  · unfold cutV srefs
    rw [List.map_take, List.map_drop]
  · rw [List.length_take, List.length_drop]
    omega
theorem srefs_app (S T : ST) : srefs S ++ srefs T = srefs (S ++ T) := by unfold srefs; rw [List.map_append]
/-- steps that are checked, and a table -/
structure Arg (K : PySem.W.Frag) (H0 H : Hp) (p : Addr) (S : ST) (t : Addr) (rs : List Addr) (M : List (List Int)) : Prop where
  sm : Same H0 H
  seq : SqL K H p (srefs S)
  st : StAt K H S
  ok : ∀ s ∈ S, stOk s.2
  len : S.length ≤ 100
  tab : TabAt H t rs M
  ml : M.length ≤ 100
  ll : ∀ l ∈ M, l.length ≤ 100 ∧ ∀ n ∈ l, n.natAbs < 10 ^ 12
theorem Arg.same {H0 H H' : Hp} {p t : Addr} {S : ST} {rs : List Addr} {M : List (List Int)} (s : Same H H') (h : Arg K H0 H p S t rs M) : Arg K H0 H' p S t rs M := ⟨h.sm.trans s, s.seq h.seq, h.st.same s, h.ok, h.len, h.tab.same s, h.ml, h.ll⟩
theorem Arg.shw {H0 H : Hp} {p t : Addr} {S : ST} {rs : List Addr} {M : List (List Int)} (h : Arg K H0 H p S t rs M) : Shw (.tuple [dSt (S.map (·.2)), dM M]) 3 860002 := by
  have h1 : Shw (dSt (S.map (·.2))) 2 430000 := (shw_St (l := S.map (·.2)) (fun s m => by
    obtain ⟨x, hx, rfl⟩ := List.mem_map.mp m
    exact h.ok x hx) (by rw [List.length_map]; have := h.len; omega)).mono (Nat.le_refl _) (by decide)
  exact shw_two h1 (shw_M h.ll h.ml)
theorem Arg.dp {H0 H : Hp} {p t u : Addr} {S : ST} {rs : List Addr} {M : List (List Int)} (h : Arg K H0 H p S t rs M) (nu : H u = none) : Dp K (upd H u (.tup [.ref p, .ref t])) (.ref u) (.tuple [dSt (S.map (·.2)), dM M]) := by
  have h2 := h.same (same_new (o := .tup [.ref p, .ref t]) nu)
  exact .tup (.inl (.inl upd_same)) (.cons (dp_st h2.seq h2.st) (.cons (dp_tab h2.tab) .nil))
theorem Arg.put {H0 H H' : Hp} {p q t : Addr} {S S2 : ST} {rs : List Addr} {M : List (List Int)} (h : Arg K H0 H p S t rs M) (s : Same H H') (hq : H' q = some (.lst (srefs S2))) (hm : ∀ x ∈ S2, x ∈ S ∨ (SqT K H' x.1 (stV x.2) ∧ stOk x.2)) (hl : S2.length ≤ 100) : Arg K H0 H' q S2 t rs M :=
  ⟨h.sm.trans s, SqL.of hq, fun x m => (hm x m).elim (fun y => same_tup s (h.st x y)) (fun y => y.1), fun x m => (hm x m).elim (h.ok x) (fun y => y.2), hl, h.tab.same s, h.ml, h.ll⟩
theorem sc_law : FnScope ["script", "draws", "one", "two", "number", "turn", "steps", "table", "cell", "many", "kind", "place", "kept", "told", "letter"] ["script"] (defScope s_law) := ⟨rfl, rfl, rfl, by decide +kernel, rfl, by decide +kernel, by decide +kernel⟩
theorem ok_law (T : Txt K mg ea) {f : Addr} {fd : FuncData} (F0 : Fun K "law" "law" s_law f fd) (c__law_draws : Cl P w K mg base 1 "_law_draws" (spDraws K)) (c__law_at : Cl P w K mg base 1 "_law_at" (spDraw K)) (c__law_word : Cl P w K mg base 2 "_law_word" (spWord3 K)) (c__law_near : Cl P w K mg base 2 "_law_near" (spNear K))
    (c_distance : Cl P w K mg base 3 "distance" spDist) (c_alignment : Cl P w K mg base 3 "alignment" (spSteps K)) (c_distance_table : Cl P w K mg base 2 "distance_table" spTable) (c_check_distance : Cl P w K mg base 4 "check_distance" (spCheck K)) (c__law_due : Cl P w K mg base 5 "_law_due" (spCheck K)) :
    FnG P w K mg base 8 f fd ["script"] (spLaw K) := by
  have nd := sc_law.nd
  refine okG F0 sc_law (fun vs H Q E h => ?_) (fun cdv A outer s H vs Q E hg hr h => ?_)
  · obtain ⟨a, ns, rfl, _⟩ := h
    rfl
  · obtain ⟨a, ns, rfl, hS, hl, q⟩ := h
    refine ⟨_, (pss_cons (ps_set (i := 1) nd rfl (.inl rfl) (C8.pe_c c__law_draws hr (by decide) (by rfl) (pa_cons (pv 0) pa_nil)))
      (pss_cons (ps_set (i := 2) nd rfl (.inl rfl) (C8.pe_c c__law_word hr (by decide) (by rfl) (pa_cons (pv 1) (pa_cons pe_int (pa_cons pe_int pa_nil)))))
      (pss_cons (ps_set (i := 3) nd rfl (.inl rfl) (C8.pe_c c__law_near hr (by decide) (by rfl) (pa_cons (pv 1) (pa_cons pe_int (pa_cons (pv 2) pa_nil)))))
      (pss_cons (ps_set (i := 4) nd rfl (.inl rfl) (C8.pe_c c_distance hr (by decide) (by rfl) (pa_cons (pv 2) (pa_cons (pv 3) pa_nil))))
      (pss_cons (ps_if (pt_cmpR op_isnot_bl (C8.pe_c c_check_distance hr (by decide) (by rfl) (pa_cons (pv 2) (pa_cons (pv 3) (pa_cons (pv 4) (pa_cons (C8.pe_c c_alignment hr (by decide) (by rfl) (pa_cons (pv 2) (pa_cons (pv 3) pa_nil))) (pa_cons (C8.pe_c c_distance_table hr (by decide) (by rfl) (pa_cons (pv 2) (pa_cons (pv 3) pa_nil))) pa_nil)))))) pe_bl (nomark _))
        (pss_one (ps_ret pe_bl))
        pss_nil)
      (pss_cons (ps_for PassesOwn.never rfl (pi_range1 rfl T.b_range (pa_cons pe_int pa_nil)) (pg_name (i := 5) nd rfl (.inl rfl))
        (pss_cons (ps_set (i := 6) nd rfl (.inl rfl) (C8.pe_c c_alignment hr (by decide) (by rfl) (pa_cons (pv 2) (pa_cons (pv 3) pa_nil))))
          (pss_cons (ps_set (i := 7) nd rfl (.inl rfl) (C8.pe_c c_distance_table hr (by decide) (by rfl) (pa_cons (pv 2) (pa_cons (pv 3) pa_nil))))
          (pss_cons (ps_set (i := 8) nd rfl (.inl rfl) (C8.pe_c c__law_at hr (by decide) (by rfl) (pa_cons (pv 1) (pa_cons (pe_op op_add pe_int (pv 5)) (pa_cons pe_int pa_nil)))))
          (pss_cons (ps_set (i := 9) nd rfl (.inl rfl) (pe_op op_add (pv 4) (pe_ix (ixl (K := K)) (pe_lst (pa_cons pe_int (pa_cons pe_int (pa_cons pe_int (pa_cons pe_int (pa_cons (pe_un un_neg pe_int) pa_nil)))))) (pe_op op_mod (pe_callTy call_int1 (by rfl) T.b_int (by decide +kernel) (pa_cons (pv 8) pa_nil)) pe_int) (fun _ _ => rfl))))
          (pss_cons (ps_set (i := 10) nd rfl (.inl rfl) (pe_op op_mod (pe_callTy call_int1 (by rfl) T.b_int (by decide +kernel) (pa_cons (pe_op op_fdiv (pv 8) pe_int) pa_nil)) pe_int))
          (pss_cons (ps_set (i := 11) nd rfl (.inl rfl) (pe_op op_mod (pe_callTy call_int1 (by rfl) T.b_int (by decide +kernel) (pa_cons (pe_op op_fdiv (pv 8) pe_int) pa_nil)) (pe_op op_add (pe_callB call_len_seq (by rfl) T.b_len PySem.boot_len (pa_cons (pv 6) pa_nil)) pe_int)))
          (C8.pss_cut (ps_if (pt_cmpR op_eq (pv 10) pe_int (nomark _))
            (pss_one (ps_set (i := 6) nd rfl (.inl rfl) (pe_op op_cat (pe_slice sl_list (pv 6) po_none (po_some (pv 11))) (pe_slice sl_list (pv 6) (po_some (pe_op op_add (pv 11) pe_int)) po_none))))
            (pss_one (ps_if (pt_cmpR op_eq (pv 10) pe_int (nomark _))
                (pss_one (ps_set (i := 6) nd rfl (.inl rfl) (pe_op op_cat (pe_op op_cat (pe_slice sl_list (pv 6) po_none (po_some (pv 11))) (pe_lst (pa_cons (pe_tup (pa_cons pe_str (pa_cons pe_str pa_nil))) pa_nil))) (pe_slice sl_list (pv 6) (po_some (pv 11)) po_none))))
                (pss_one (ps_if (pt_cmpR op_eq (pv 10) pe_int (nomark _))
                    (pss_cons (ps_set (i := 6) nd rfl (.inl rfl) (pe_op op_cat (pe_lc (own := [("letter", 14)]) (g := (gName 14)) rfl nd (pi_str (pv 3)) (blkOk_by (own := [("letter", 14)]) (N := ["script", "draws", "one", "two", "number", "turn", "steps", "table", "cell", "many", "kind", "place", "kept", "told", "letter"]) (sc := defScope s_law) (by decide +kernel)) (fun _ _ _ _ _ => (pg_name (i := 14) nd rfl (.inl rfl))) (fun _ _ _ _ _ => pts_nil) (fun _ _ _ _ _ => (pe_tup (pa_cons pe_str (pa_cons (pv 14) pa_nil))))) (pe_lc (own := [("letter", 14)]) (g := (gName 14)) rfl nd (pi_str (pv 2)) (blkOk_by (own := [("letter", 14)]) (N := ["script", "draws", "one", "two", "number", "turn", "steps", "table", "cell", "many", "kind", "place", "kept", "told", "letter"]) (sc := defScope s_law) (by decide +kernel)) (fun _ _ _ _ _ => (pg_name (i := 14) nd rfl (.inl rfl))) (fun _ _ _ _ _ => pts_nil) (fun _ _ _ _ _ => (pe_tup (pa_cons pe_str (pa_cons (pv 14) pa_nil)))))))
                      (pss_one (ps_set (i := 9) nd rfl (.inl rfl) (pe_ix (ixl (K := K)) (pe_lst (pa_cons (pv 9) (pa_cons (pe_op op_add (pe_callB call_len_str (by rfl) T.b_len PySem.boot_len (pa_cons (pv 2) pa_nil)) (pe_callB call_len_str (by rfl) T.b_len PySem.boot_len (pa_cons (pv 3) pa_nil))) pa_nil))) (pe_op op_mod (pe_callTy call_int1 (by rfl) T.b_int (by decide +kernel) (pa_cons (pe_op op_fdiv (pv 8) pe_int) pa_nil)) pe_int) (fun _ _ => rfl)))))
                    (pss_one (ps_if (pt_cmpR op_eq (pv 10) pe_int (nomark _))
                        (pss_cons (ps_asg (pe_op op_add (pe_ix (ixl (K := K)) (pe_ix (ixl (K := K)) (pv 7) pe_int (fun _ _ => rfl)) pe_int (fun _ _ => rfl)) (pe_ix (ixl (K := K)) (pe_lst (pa_cons pe_int (pa_cons (pe_un un_neg pe_int) pa_nil))) (pe_op op_mod (pe_callTy call_int1 (by rfl) T.b_int (by decide +kernel) (pa_cons (pe_op op_fdiv (pv 8) pe_int) pa_nil)) pe_int) (fun _ _ => rfl))) (pg_sub (pe_ix (ixl (K := K)) (pv 7) pe_int (fun _ _ => rfl)) pe_int set_list))
                          (pss_one (ps_set (i := 9) nd rfl (.inl rfl) (pe_ix (ixl (K := K)) (pe_ix (ixl (K := K)) (pv 7) pe_int (fun _ _ => rfl)) pe_int (fun _ _ => rfl)))))
                        (pss_one (ps_if (pt_cmpR op_eq (pv 10) pe_int (nomark _))
                            (pss_one (ps_set (i := 7) nd rfl (.inl rfl) (pe_slice sl_list (pv 7) po_none (po_some (pe_un un_neg pe_int)))))
                            pss_nil)))))))))
          (pss_cons (ps_set (i := 12) nd rfl (.inl rfl) (pe_callB (call_reprK (K := K) hg hr.units) (by rfl) T.b_repr (by decide +kernel) (pa_cons (pe_tup (pa_cons (pv 6) (pa_cons (pv 7) pa_nil))) pa_nil)))
          (pss_cons (ps_set (i := 13) nd rfl (.inl rfl) (C8.pe_c c_check_distance hr (by decide) (by rfl) (pa_cons (pv 2) (pa_cons (pv 3) (pa_cons (pv 9) (pa_cons (pv 6) (pa_cons (pv 7) pa_nil)))))))
          (pss_cons (ps_if (PW.pt (pw_or (pt_not (pt_val (pe_callB call_isi (by rfl) T.b_isinstance (by decide +kernel) (pa_cons (pv 13) (pa_cons (pe_bltn (v := .ty "bool") (by rfl) T.b_bool (by decide +kernel) rfl) pa_nil))))) (pw_or (pt_cmpR op_ne (pv 13) (C8.pe_c c__law_due hr (by decide) (by rfl) (pa_cons (pv 2) (pa_cons (pv 3) (pa_cons (pv 9) (pa_cons (pv 6) (pa_cons (pv 7) pa_nil)))))) (nomark _)) (pw_or1 (pt_cmpR op_ne (pe_callB (call_reprK (K := K) hg hr.units) (by rfl) T.b_repr (by decide +kernel) (pa_cons (pe_tup (pa_cons (pv 6) (pa_cons (pv 7) pa_nil))) pa_nil)) (pv 12) (nomark _))))))
            (pss_one (ps_ret pe_bl))
            pss_nil)
          (pss_one (ps_if (PW.pt (pw_and (pt_val (pv 13)) (pw_and1 (pt_cmpR op_ne (pv 9) (pv 4) (nomark _)))))
            (pss_one (ps_ret pe_bl))
            pss_nil)))))))))))))
      (pss_one (ps_ret pe_bl)))))))), ?_⟩
    have sz2 : 2 ≤ sizeLine := by decide
    have sz1 : 1 ≤ sizeLine := by decide
    have sz5 : 5 ≤ sizeLine := by decide
    have b1000 : ∀ n : Nat, n ≤ 1000 → n ≤ sizeLine := fun n h => Nat.le_trans h (by decide)
    refine ⟨_, rfl, a, ns, rfl, hS, hl, fun dr ds H1 s1' nd1 at1 hD => ?_⟩
    have dr1 : SqL K H1 dr (ds.map V.int) := SqL.of at1
    repeat (first | refine ⟨_, rfl, ?_⟩ | refine ⟨rfl, ?_⟩ | refine ⟨_, _, rfl, rfl, ?_⟩ | refine ⟨_, _, _, rfl, rfl, ?_⟩)
    refine ⟨dr, ds, 1, 6, rfl, dr1, hD, by omega, by omega, by omega, fun one H3 s3 ol on => ?_⟩
    repeat (first | refine ⟨_, rfl, ?_⟩ | refine ⟨rfl, ?_⟩ | refine ⟨_, _, rfl, rfl, ?_⟩ | refine ⟨_, _, _, rfl, rfl, ?_⟩)
    refine ⟨dr, ds, 14, one, rfl, s3.seq dr1, hD, by omega, by omega, ol, by omega, fun two H4 s4 tl tn => ?_⟩
    have o200 : one.length ≤ 200 := by omega
    have t200 : two.length ≤ 200 := by omega
    have os : one.length ≤ sizeLine := b1000 _ (by omega)
    have ts : two.length ≤ sizeLine := b1000 _ (by omega)
    have z1 : (TL.tl one).length = one.length := rfl
    have z2 : (TL.tl two).length = two.length := rfl
    have made : ∀ {H H' : Hp} {p t : Addr} {S : ST} {rs : List Addr}, Same H H' → SqL K H' p (srefs S) → StAt K H' S → S.map (·.2) = tst (TL.tl one) (TL.tl two) → TabAt H' t rs (tabE (TL.tl one) (TL.tl two)) → Arg K H H' p S t rs (tabE (TL.tl one) (TL.tl two)) := fun {H H' p t S rs} sm h1 h2 h3 h4 => by
      have sl := congrArg List.length h3
      have sn := tst_len (TL.tl one) (TL.tl two)
      rw [List.length_map] at sl
      refine ⟨sm, h1, h2, fun s m => tst_ok (let_mem ol) (let_mem tl) s.2 (by rw [← h3]; exact List.mem_map_of_mem m), by omega, h4, by rw [tabE_len]; omega, fun l m => ⟨by rw [(tabE_shape _ _).row l m]; omega, fun n hn => ?_⟩⟩
      unfold tabE at m
      obtain ⟨i, _, rfl⟩ := List.mem_map.mp m
      unfold rowE at hn
      obtain ⟨j, _, rfl⟩ := List.mem_map.mp hn
      have := ed_le ((TL.tl one).drop i) ((TL.tl two).drop j)
      rw [List.length_drop, List.length_drop] at this
      have e12 : (10 : Nat) ^ 12 = 1000000000000 := by decide
      omega
    refine ⟨_, rfl, _, rfl, one, two, rfl, o200, t200, fun H5 s5 => ?_⟩
    -- what is told is right
    repeat (first | refine ⟨_, rfl, ?_⟩ | refine ⟨rfl, ?_⟩ | refine ⟨_, _, rfl, rfl, ?_⟩ | refine ⟨_, _, _, rfl, rfl, ?_⟩)
    refine ⟨one, two, rfl, o200, t200, fun p0 S0 H6 s6 n6 at6 st6 e6 => ?_⟩
    refine ⟨_, rfl, _, rfl, one, two, rfl, o200, t200, fun t0 r0 H7 s7 nt7 => ?_⟩
    have a0 := made (H := H7) (Same.refl _) (s7.seq (SqL.of at6)) (st6.same s7) e6 nt7.1
    refine ⟨one, two, _, p0, S0, t0, r0, _, rfl, o200, t200, a0.seq, a0.st, by have := a0.len; omega, a0.tab, by have := a0.ml; omega, fun l m => by have := (a0.ll l m).1; omega, fun k H8 s8 hk => ?_⟩
    obtain rfl : k = true := hk.mpr (by rw [e6]; exact chk_told _ _)
    refine ⟨_, _, rfl, rfl, _, rfl, iteF ?_⟩
    have dr8 : SqL K H8 dr (ds.map V.int) := (s3.trans (s4.trans (s5.trans (s6.trans (s7.trans s8))))).seq dr1
    clear hk a0 nt7 e6 st6 at6 n6
    refine ⟨5, rfl, by decide, by decide, ?_⟩
    refine for_range (lo := 0) (n := 5) (fun i σ H' => Same H8 H' ∧ ∃ y5 y6 y7 y8 y9 y10 y11 y12 y13 y14 : Option V, σ = [some (.ref a), some (.ref dr), some (.str one), some (.str two), some (.int (ed (TL.tl one) (TL.tl two) : Nat)), y5, y6, y7, y8, y9, y10, y11, y12, y13, y14])
      ⟨Same.refl _, none, none, none, none, none, none, none, none, none, none, rfl⟩ (fun i σ H' hi hW => ?_) (fun σ H' hW => q _)
    obtain ⟨sm, y5, y6, y7, y8, y9, y10, y11, y12, y13, y14, rfl⟩ := hW
    refine ⟨_, rfl, _, rfl, one, two, rfl, o200, t200, fun p S Ha sa na ata sta ea => ?_⟩
    refine ⟨_, rfl, _, rfl, one, two, rfl, o200, t200, fun t rs Hb sb ntb => ?_⟩
    have s15 : S.length ≤ 15 := by
      have sl := congrArg List.length ea
      have sn := tst_len (TL.tl one) (TL.tl two)
      rw [List.length_map] at sl
      omega
    have A0 := made (H := H8) (sm.trans (sa.trans sb)) (sb.seq (SqL.of ata)) (sta.same sb) ea ntb.1
    have mt := (ntb.made sb).mono (sm.trans sa)
    repeat (first | refine ⟨_, rfl, ?_⟩ | refine ⟨rfl, ?_⟩ | refine ⟨_, _, rfl, rfl, ?_⟩ | refine ⟨_, _, _, rfl, rfl, ?_⟩)
    refine ⟨dr, ds, _, 60000, rfl, A0.sm.seq dr8, hD, by omega, by omega, by omega, fun g g0 g1 => ?_⟩
    refine ⟨_, rfl, _, rfl, sz5, fun l nl => ?_⟩
    have fl : Same Hb (upd Hb l (.lst [.int 0, .int 0, .int 0, .int 1, (fun i => V.int (-i)) 1])) := same_new nl
    repeat (first | refine ⟨_, rfl, ?_⟩ | refine ⟨rfl, ?_⟩ | refine ⟨_, _, rfl, rfl, ?_⟩ | refine ⟨_, _, _, rfl, rfl, ?_⟩)
    refine .inl ⟨_, rfl, _, _, rfl, rfl, (by show (0 : Int) < 5; decide), ?_⟩
    obtain ⟨dv, hdv, _⟩ := at_map V.int (xs := [0, 0, 0, 1, -1]) (i := g % 5) (Int.emod_nonneg _ (by decide)) (by show _ % 5 < (5 : Int); exact Int.emod_lt_of_pos _ (by decide))
    refine ⟨l, _, _, _, rfl, rfl, .inl (.inl upd_same), hdv, _, _, rfl, rfl, ?_⟩
    have A1 := A0.same fl
    have mt1 := mt.same fl
    have dr9 := fl.seq (A0.sm.seq dr8)
    clear A0 mt hdv
    generalize upd Hb l (.lst [.int 0, .int 0, .int 0, .int 1, (fun i => V.int (-i)) 1]) = Hc at fl A1 mt1 dr9 ⊢
    repeat (first | refine ⟨_, rfl, ?_⟩ | refine ⟨rfl, ?_⟩ | refine ⟨_, _, rfl, rfl, ?_⟩ | refine ⟨_, _, _, rfl, rfl, ?_⟩)
    refine ⟨⟨by decide, by decide⟩, .inl ⟨_, rfl, _, _, rfl, rfl, (by show (0 : Int) < 6; decide), ?_⟩⟩
    refine ⟨_, rfl, _, _, rfl, rfl, ⟨by decide, by decide⟩, .inl ⟨_, rfl, _, rfl, p, _, rfl, .inl A1.seq, _, _, rfl, rfl, _, _, rfl, rfl, (by omega), ?_⟩⟩
    refine ⟨fun σ H' => ∃ (p t : Addr) (S : ST) (rs : List Addr) (M : List (List Int)) (many : Int), Arg K H8 H' p S t rs M ∧ ∃ y8 y10 y11 y12 y13 y14 : Option V, σ = [some (.ref a), some (.ref dr), some (.str one), some (.str two), some (.int (ed (TL.tl one) (TL.tl two) : Nat)), some (.int (0 + (i : Int))), some (.ref p), some (.ref t), y8, some (.int many), y10, y11, y12, y13, y14], ?_, ?_⟩
    · have ql := srefs_len S
      have sl := A1.len
      refine ⟨_, rfl, rfl, _, rfl, ite2 (fun e0 => ?_) (fun e0 => ?_)⟩
      · refine ⟨_, rfl, _, rfl, _, rfl, p, _, rfl, A1.seq, fun q1 nq1 => ?_⟩
        generalize hc1 : cutV (srefs S) _ _ = X1
        obtain ⟨C1, rfl, m1, l1⟩ : ∃ S2 : ST, X1 = srefs S2 ∧ (∀ s ∈ S2, s ∈ S) ∧ S2.length ≤ S.length := by rw [← hc1]; exact srefs_cut S _ _
        have k1 := same_new (o := .lst (srefs C1)) nq1
        have tq1 : (upd Hc q1 (.lst (srefs C1))) q1 = some (.lst (srefs C1)) := upd_same
        generalize upd Hc q1 (.lst (srefs C1)) = Hd at k1 tq1 ⊢
        refine ⟨_, rfl, _, rfl, _, _, rfl, rfl, _, rfl, p, _, rfl, k1.seq A1.seq, fun q2 nq2 => ?_⟩
        generalize hc2 : cutV (srefs S) _ _ = X2
        obtain ⟨C2, rfl, m2, l2⟩ : ∃ S2 : ST, X2 = srefs S2 ∧ (∀ s ∈ S2, s ∈ S) ∧ S2.length ≤ S.length := by rw [← hc2]; exact srefs_cut S _ _
        have k2 := same_new (o := .lst (srefs C2)) nq2
        have tq2 : (upd Hd q2 (.lst (srefs C2))) q2 = some (.lst (srefs C2)) := upd_same
        generalize upd Hd q2 (.lst (srefs C2)) = He at k2 tq2 ⊢
        refine ⟨q1, q2, _, _, rfl, rfl, k2 _ _ tq1, tq2, b1000 _ (by rw [srefs_len, srefs_len]; omega), fun q3 nq3 => ?_⟩
        rw [srefs_app]
        exact ⟨q3, t, C1 ++ C2, rs, _, _, A1.put (k1.trans (k2.trans (same_new nq3))) upd_same (fun x m => .inl ((List.mem_append.mp m).elim (m1 x) (m2 x))) (by rw [List.length_append]; omega), _, _, _, _, _, _, rfl⟩
      · refine ⟨_, rfl, rfl, _, rfl, ite2 (fun e0 => ?_) (fun e0 => ?_)⟩
        · refine ⟨_, rfl, _, rfl, _, rfl, p, _, rfl, A1.seq, fun q1 nq1 => ?_⟩
          generalize hc1 : cutV (srefs S) _ _ = X1
          obtain ⟨C1, rfl, m1, l1⟩ : ∃ S2 : ST, X1 = srefs S2 ∧ (∀ s ∈ S2, s ∈ S) ∧ S2.length ≤ S.length := by rw [← hc1]; exact srefs_cut S _ _
          have k1 := same_new (o := .lst (srefs C1)) nq1
          have tq1 : (upd Hc q1 (.lst (srefs C1))) q1 = some (.lst (srefs C1)) := upd_same
          generalize upd Hc q1 (.lst (srefs C1)) = Hd at k1 tq1 ⊢
          refine ⟨sz2, fun v nv => ?_⟩
          have ea1 : ("a" : Str) = s1 97 := by decide +kernel
          rw [ea1]
          have k2 := same_new (o := .tup (stV (.put 97))) nv
          have tv : (upd Hd v (.tup (stV (.put 97)))) v = some (.tup (stV (.put 97))) := upd_same
          generalize eh : upd Hd v (.tup (stV (.put 97))) = He at k2 tv
          rw [show upd Hd v (.tup [V.str "put", .str (s1 97)]) = He from eh]
          clear eh
          refine ⟨sz1, fun l2 nl2 => ?_⟩
          have k3 := same_new (o := .lst (srefs [(v, Stp.put 97)])) nl2
          have tl2 : (upd He l2 (.lst (srefs [(v, Stp.put 97)]))) l2 = some (.lst (srefs [(v, Stp.put 97)])) := upd_same
          generalize eh : upd He l2 (.lst (srefs [(v, Stp.put 97)])) = Hf at k3 tl2
          rw [show upd He l2 (.lst [V.ref v]) = Hf from eh]
          clear eh
          refine ⟨q1, l2, _, _, rfl, rfl, k3 _ _ (k2 _ _ tq1), tl2, b1000 _ (by rw [srefs_len, srefs_len]; show C1.length + 1 ≤ 1000; omega), fun q2 nq2 => ?_⟩
          rw [srefs_app]
          have k4 := same_new (o := .lst (srefs (C1 ++ [(v, Stp.put 97)]))) nq2
          have tq2 : (upd Hf q2 (.lst (srefs (C1 ++ [(v, Stp.put 97)])))) q2 = some (.lst (srefs (C1 ++ [(v, Stp.put 97)]))) := upd_same
          generalize upd Hf q2 (.lst (srefs (C1 ++ [(v, Stp.put 97)]))) = Hg at k4 tq2 ⊢
          have k14 := k1.trans (k2.trans (k3.trans k4))
          refine ⟨_, rfl, _, rfl, _, rfl, p, _, rfl, k14.seq A1.seq, fun q3 nq3 => ?_⟩
          generalize hc2 : cutV (srefs S) _ _ = X2
          obtain ⟨C2, rfl, m2, l3⟩ : ∃ S2 : ST, X2 = srefs S2 ∧ (∀ s ∈ S2, s ∈ S) ∧ S2.length ≤ S.length := by rw [← hc2]; exact srefs_cut S _ _
          have k5 := same_new (o := .lst (srefs C2)) nq3
          have tq3 : (upd Hg q3 (.lst (srefs C2))) q3 = some (.lst (srefs C2)) := upd_same
          generalize upd Hg q3 (.lst (srefs C2)) = Hh at k5 tq3 ⊢
          refine ⟨q2, q3, _, _, rfl, rfl, k5 _ _ tq2, tq3, b1000 _ (by rw [srefs_len, srefs_len, List.length_append]; show C1.length + 1 + C2.length ≤ 1000; omega), fun q4 nq4 => ?_⟩
          rw [srefs_app]
          have k6 := same_new (o := .lst (srefs (C1 ++ [(v, Stp.put 97)] ++ C2))) nq4
          refine ⟨q4, t, C1 ++ [(v, Stp.put 97)] ++ C2, rs, _, _, A1.put (k14.trans (k5.trans k6)) upd_same (fun x m => ?_) (by rw [List.length_append, List.length_append]; show C1.length + 1 + C2.length ≤ 100; omega), _, _, _, _, _, _, rfl⟩
          rcases List.mem_append.mp m with m | m
          · rcases List.mem_append.mp m with m | m
            · exact .inl (m1 x m)
            · rw [List.mem_singleton.mp m]
              exact .inr ⟨.inl (.inl (k6 _ _ (k5 _ _ (k4 _ _ (k3 _ _ tv))))), (by decide : okc 97 = true)⟩
          · exact .inl (m2 x m)
        · refine ⟨_, rfl, rfl, _, rfl, ite2 (fun e0 => ?_) (fun e0 => ?_)⟩
          · refine ⟨_, rfl, two, rfl, fun D1 nD1 => ?_⟩
            refine lc_w (walk_str (z := two)) nD1 (by show two.length ≤ _; omega) (fun _ _ => trivial) (fun i acc H' => ∃ S2 : ST, acc = srefs S2 ∧ StAt K H' S2 ∧ (∀ s ∈ S2, stOk s.2) ∧ S2.length = i) (fun _ _ => ⟨[], rfl, (fun _ m => nomatch m), (fun _ m => nomatch m), rfl⟩)
              (fun i acc Ha Hb l hD e r => by obtain ⟨S2, r1, r2, r3⟩ := r; exact ⟨S2, r1, fun z m => but_tup hD e (r2 z m), r3⟩) (fun i H x H' y => by rw [y.1]; exact Same.refl _) (fun i x acc Ha Hb Qn Qf hi sm y r at_ kn kf => ?_) (fun acc1 Hd sd at1 _ r1 => ?_)
            · obtain ⟨rfl, c, hc, rfl⟩ := y
              obtain ⟨S2, rfl, r2, r3, r4⟩ := r
              refine ⟨rfl, _, rfl, sz2, fun v nv => ?_⟩
              have hc2 : (TL.tl two)[i]? = some c := by show two.cps.toList[i]? = _; rw [Array.getElem?_toList]; exact hc
              refine kn _ _ (same_new nv) ⟨S2 ++ [(v, .put c)], by unfold srefs; rw [List.map_append]; rfl, (r2.same (same_new nv)).snoc upd_same, fun x m => ?_, by rw [List.length_append, r4]; rfl⟩
              rcases List.mem_append.mp m with m | m
              · exact r3 x m
              · rw [List.mem_singleton.mp m]
                exact let_mem tl c (List.mem_of_getElem? hc2)
            obtain ⟨P1, rfl, p2, p3, p4⟩ := r1
            refine ⟨_, rfl, one, rfl, fun D2 nD2 => ?_⟩
            refine lc_w (walk_str (z := one)) nD2 (by show one.length ≤ _; omega) (fun _ _ => trivial) (fun i acc H' => ∃ S2 : ST, acc = srefs S2 ∧ StAt K H' S2 ∧ (∀ s ∈ S2, stOk s.2) ∧ S2.length = i) (fun _ _ => ⟨[], rfl, (fun _ m => nomatch m), (fun _ m => nomatch m), rfl⟩)
              (fun i acc Ha Hb l hD e r => by obtain ⟨S2, r1, r2, r3⟩ := r; exact ⟨S2, r1, fun z m => but_tup hD e (r2 z m), r3⟩) (fun i H x H' y => by rw [y.1]; exact Same.refl _) (fun i x acc Ha Hb Qn Qf hi sm y r at_ kn kf => ?_) (fun acc2 He se at2 _ r2 => ?_)
            · obtain ⟨rfl, c, hc, rfl⟩ := y
              obtain ⟨S2, rfl, r2, r3, r4⟩ := r
              refine ⟨rfl, _, rfl, sz2, fun v nv => ?_⟩
              have hc2 : (TL.tl one)[i]? = some c := by show one.cps.toList[i]? = _; rw [Array.getElem?_toList]; exact hc
              refine kn _ _ (same_new nv) ⟨S2 ++ [(v, .out c)], by unfold srefs; rw [List.map_append]; rfl, (r2.same (same_new nv)).snoc upd_same, fun x m => ?_, by rw [List.length_append, r4]; rfl⟩
              rcases List.mem_append.mp m with m | m
              · exact r3 x m
              · rw [List.mem_singleton.mp m]
                exact let_mem ol c (List.mem_of_getElem? hc2)
            obtain ⟨P2, rfl, o2, o3, o4⟩ := r2
            have h1 : two.cps.size = two.length := rfl
            have h2 : one.cps.size = one.length := rfl
            refine ⟨D1, D2, _, _, rfl, rfl, se _ _ at1, at2, b1000 _ (by rw [srefs_len, srefs_len]; omega), fun q3 nq3 => ?_⟩
            rw [srefs_app]
            have k3 := same_new (o := .lst (srefs (P1 ++ P2))) nq3
            have B : Arg K H8 (upd He q3 (.lst (srefs (P1 ++ P2)))) q3 (P1 ++ P2) t rs (tabE (TL.tl one) (TL.tl two)) := A1.put (sd.trans (se.trans k3)) upd_same (fun x m => .inr ((List.mem_append.mp m).elim (fun y => ⟨same_tup (se.trans k3) (p2 x y), p3 x y⟩) (fun y => ⟨same_tup k3 (o2 x y), o3 x y⟩))) (by rw [List.length_append]; omega)
            generalize upd He q3 (.lst (srefs (P1 ++ P2))) = Hf at B ⊢
            refine ⟨_, rfl, _, rfl, one, rfl, os, _, rfl, two, rfl, ts, _, _, rfl, rfl, sz2, fun l2 nl2 => ?_⟩
            have k4 := same_new (o := .lst (([(ed (TL.tl one) (TL.tl two) : Nat) + dv, (one.length : Int) + (two.length : Int)] : List Int).map V.int)) nl2
            repeat (first | refine ⟨_, rfl, ?_⟩ | refine ⟨rfl, ?_⟩ | refine ⟨_, _, rfl, rfl, ?_⟩ | refine ⟨_, _, _, rfl, rfl, ?_⟩)
            refine ⟨⟨by decide, by decide⟩, .inl ⟨_, rfl, _, _, rfl, rfl, (by show (0 : Int) < 2; decide), ?_⟩⟩
            obtain ⟨mv, hmv, _⟩ := at_map V.int (xs := [((ed (TL.tl one) (TL.tl two) : Nat) : Int) + dv, (one.length : Int) + (two.length : Int)]) (i := g / 30 % 2) (Int.emod_nonneg _ (by decide)) (by show _ % 2 < (2 : Int); exact Int.emod_lt_of_pos _ (by decide))
            refine ⟨l2, _, _, _, rfl, rfl, .inl (.inl upd_same), hmv, ?_⟩
            exact ⟨q3, t, P1 ++ P2, rs, _, mv, B.same k4, _, _, _, _, _, _, rfl⟩
          · refine ⟨_, rfl, rfl, _, rfl, ite2 (fun e0 => ?_) (fun e0 => ?_)⟩
            · obtain ⟨r, h1, h2, h3, h4⟩ := tab00 A1.tab
              refine ⟨_, rfl, t, _, _, _, rfl, rfl, SqL.of A1.tab.at_, h3, r, _, _, _, rfl, rfl, SqL.of h2, h4, _, rfl, sz2, fun l2 nl2 => ?_⟩
              have k1 : Same Hc (upd Hc l2 (.lst [.int 1, (fun i => V.int (-i)) 1])) := same_new nl2
              repeat (first | refine ⟨_, rfl, ?_⟩ | refine ⟨rfl, ?_⟩ | refine ⟨_, _, rfl, rfl, ?_⟩ | refine ⟨_, _, _, rfl, rfl, ?_⟩)
              refine ⟨⟨by decide, by decide⟩, .inl ⟨_, rfl, _, _, rfl, rfl, (by show (0 : Int) < 2; decide), ?_⟩⟩
              obtain ⟨mv, hmv, hmm⟩ := at_map V.int (xs := [1, -1]) (i := g / 30 % 2) (Int.emod_nonneg _ (by decide)) (by show _ % 2 < (2 : Int); exact Int.emod_lt_of_pos _ (by decide))
              have hmb : mv = 1 ∨ mv = -1 := by
                rcases List.mem_cons.mp hmm with e | m
                · exact .inl e
                · exact .inr (List.mem_singleton.mp m)
              refine ⟨l2, _, _, _, rfl, rfl, .inl (.inl upd_same), hmv, _, _, rfl, rfl, ?_⟩
              have B := A1.same k1
              have mt2 := mt1.same k1
              have h2b := k1 _ _ h2
              generalize upd Hc l2 (.lst [.int 1, (fun i => V.int (-i)) 1]) = Hd at k1 B mt2 h2b ⊢
              have lp : 0 < (rowE (TL.tl one) (TL.tl two)).length := by rw [rowE_len]; omega
              refine ⟨_, rfl, t, _, _, _, rfl, rfl, SqL.of B.tab.at_, h3, r, _, _, 0, rfl, rfl, h2b, ixN_nat (j := 0) (by rw [List.length_map]; exact lp), ?_⟩
              have mt3 := mt2.setRow h1 ((rowE (TL.tl one) (TL.tl two)).set 0 ((ed (TL.tl one) (TL.tl two) : Nat) + mv))
              rw [List.map_set] at mt3
              have h2c : (upd Hd r (.lst (((rowE (TL.tl one) (TL.tl two)).map V.int).set 0 (.int ((ed (TL.tl one) (TL.tl two) : Nat) + mv))))) r = some (.lst (((rowE (TL.tl one) (TL.tl two)).map V.int).set 0 (.int ((ed (TL.tl one) (TL.tl two) : Nat) + mv)))) := upd_same
              have rH : Ha r = none := ntb.2.2 r (List.mem_of_getElem? h1)
              have aH : Same Ha (upd Hd r (.lst (((rowE (TL.tl one) (TL.tl two)).map V.int).set 0 (.int ((ed (TL.tl one) (TL.tl two) : Nat) + mv))))) := same_mut (sb.trans (fl.trans k1)) rH
              generalize upd Hd r (.lst (((rowE (TL.tl one) (TL.tl two)).map V.int).set 0 (.int ((ed (TL.tl one) (TL.tl two) : Nat) + mv)))) = He at mt3 h2c aH ⊢
              have hv : atI (((rowE (TL.tl one) (TL.tl two)).map V.int).set 0 (.int ((ed (TL.tl one) (TL.tl two) : Nat) + mv))) 0 = some (.int ((ed (TL.tl one) (TL.tl two) : Nat) + mv)) := atI_nat (j := 0) (List.getElem?_set_self (by rw [List.length_map]; exact lp))
              refine ⟨_, rfl, t, _, _, _, rfl, rfl, SqL.of mt3.tab.at_, h3, r, _, _, _, rfl, rfl, SqL.of h2c, hv, ?_⟩
              have rm : rowE (TL.tl one) (TL.tl two) ∈ tabE (TL.tl one) (TL.tl two) := List.mem_of_getElem? (tabE_at (x := TL.tl one) (y := TL.tl two) (i := 0) (Nat.zero_le _))
              refine ⟨p, t, S, rs, _, _, ⟨mt3.sm, SqL.of (aH _ _ ata), sta.same aH, A1.ok, A1.len, mt3.tab, by rw [List.length_set]; exact A1.ml, fun l m => ?_⟩, _, _, _, _, _, _, rfl⟩
              rcases mem_set m with h | h
              · exact A1.ll l h
              · subst h
                refine ⟨by rw [List.length_set]; exact (A1.ll _ rm).1, fun n hn => ?_⟩
                rcases List.mem_or_eq_of_mem_set hn with h | h
                · exact (A1.ll _ rm).2 n h
                · have := ed_le (TL.tl one) (TL.tl two)
                  have e12 : (10 : Nat) ^ 12 = 1000000000000 := by decide
                  rw [h]
                  rcases hmb with e | e <;> rw [e] <;> omega
            · refine ⟨_, rfl, rfl, _, rfl, ite2 (fun e0 => ?_) (fun e0 => ?_)⟩
              · refine ⟨_, rfl, _, rfl, _, rfl, t, _, rfl, SqL.of A1.tab.at_, fun q1 nq1 => ?_⟩
                generalize hc1 : cutV (rs.map V.ref) _ _ = X1
                obtain ⟨rs2, M2, rfl, ml2, mm2, tab2⟩ : ∃ (rs2 : List Addr) (M2 : List (List Int)), X1 = rs2.map V.ref ∧ M2.length ≤ (tabE (TL.tl one) (TL.tl two)).length ∧ (∀ l ∈ M2, l ∈ tabE (TL.tl one) (TL.tl two)) ∧ ∀ (H' : Hp) (q : Addr), Same Hc H' → H' q = some (.lst (rs2.map V.ref)) → TabAt H' q rs2 M2 := by rw [← hc1]; exact A1.tab.cut _ _
                have k1 := same_new (o := .lst (rs2.map V.ref)) nq1
                have B := A1.same k1
                exact ⟨p, q1, S, rs2, M2, _, ⟨B.sm, B.seq, B.st, B.ok, B.len, tab2 _ _ k1 upd_same, Nat.le_trans ml2 B.ml, fun l m => B.ll l (mm2 l m)⟩, _, _, _, _, _, _, rfl⟩
              · exact ⟨p, t, S, rs, _, _, A1, _, _, _, _, _, _, rfl⟩
    rintro σ' Hd ⟨p, t, S, rs, M, many, A2, y8, y10, y11, y12, y13, y14, rfl⟩
    clear A1 mt1
    have sl := A2.len
    have ml := A2.ml
    refine ⟨_, rfl, _, rfl, sz2, fun u nu => ?_⟩
    have fu := same_new (o := .tup [.ref p, .ref t]) nu
    refine ⟨u, _, 3, 860002, rfl, A2.dp nu, A2.shw, by decide, by decide, ?_⟩
    have A3 := A2.same fu
    generalize upd Hd u (.tup [.ref p, .ref t]) = He at fu A3 ⊢
    repeat (first | refine ⟨_, rfl, ?_⟩ | refine ⟨rfl, ?_⟩ | refine ⟨_, _, rfl, rfl, ?_⟩ | refine ⟨_, _, _, rfl, rfl, ?_⟩)
    refine ⟨one, two, many, p, S, t, rs, M, rfl, o200, t200, A3.seq, A3.st, by omega, A3.tab, by omega, fun l m => by have := (A3.ll l m).1; omega, fun k Hf sf hk => ?_⟩
    have A4 := A3.same sf
    refine ⟨_, rfl, _, _, _, _, true, rfl, .ty "bool", .base (.bl k), kit_ty (by decide +kernel), _, rfl, iteF ?_⟩
    repeat (first | refine ⟨_, rfl, ?_⟩ | refine ⟨rfl, ?_⟩ | refine ⟨_, _, rfl, rfl, ?_⟩ | refine ⟨_, _, _, rfl, rfl, ?_⟩)
    refine ⟨one, two, many, p, S, t, rs, M, rfl, o200, t200, A4.seq, A4.st, by omega, A4.tab, by omega, fun l m => by have := (A4.ll l m).1; omega, fun k2 Hg sg hk2 => ?_⟩
    have A5 := A4.same sg
    have ek : k = k2 := by rw [Bool.eq_iff_iff, hk, hk2]
    subst ek
    refine ⟨rfl, _, rfl, ?_⟩
    rw [decide_eq_true rfl]
    refine iteF ?_
    refine ⟨_, rfl, _, rfl, sz2, fun u2 nu2 => ?_⟩
    have fu2 := same_new (o := .tup [.ref p, .ref t]) nu2
    refine ⟨u2, _, 3, 860002, rfl, A5.dp nu2, A5.shw, by decide, by decide, ?_⟩
    have A6 := A5.same fu2
    refine ⟨_, rfl, rfl, _, rfl, ?_⟩
    rw [decide_eq_true rfl]
    refine iteF ?_
    cases k with
    | false => exact ⟨_, rfl, _, rfl, iteF ⟨A6.sm, _, _, _, _, _, _, _, _, _, _, rfl⟩⟩
    | true =>
      have hd := (hk.mp rfl).dist
      refine ⟨_, rfl, _, rfl, iteT ?_⟩
      refine ⟨_, rfl, _, rfl, rfl, _, rfl, ?_⟩
      rw [decide_eq_true (by rw [hd])]
      exact iteF ⟨A6.sm, _, _, _, _, _, _, _, _, _, _, rfl⟩
end

end SH
set_option Elab.async false
set_option linter.all false
set_option maxRecDepth 100000
set_option maxHeartbeats 4000000
namespace SH
open PySem PySem.Spec PyProof.Rows L2
theorem law_all {P : Program} {w : World} {K : PySem.W.Frag} {mg : Str → Option Value} {base : Heap} {ea : Ea} {f : Addr} {fd : FuncData} (T : Txt K mg ea) (F : Fun K "law" "law" s_law f fd) : FnG P w K mg base 8 f fd ["script"] (spLaw K) :=
  have at_ := ok__law_at (P := P) (w := w) (base := base) T
  have dt := ok_distance_table T (ok__row_above (P := P) (w := w) (base := base) T)
  have al := ok_aligned T (ok__fits (P := P) (w := w) (base := base) T)
  have lo := ok_is_low T (ok__is_low_at (P := P) (w := w) (base := base) T)
  ok_law T F (ok__law_draws T) at_ (ok__law_word T at_) (ok__law_near T at_) (ok_distance T dt) (ok_alignment T dt (ok__told_step T)) dt (ok_check_distance T lo al (ok__price T)) (ok__law_due T lo (ok__law_leads T al))
theorem all_mk {P : Program} {w : World} {K : PySem.W.Frag} {h : Heap} {mg : Str → Option Value} {fa : Addr} (X : K.In h) (G : h.Ns mainGlobals mg) (hfa : mg "law" = some (.ref fa))
    {f_distance f_distance_table f_alignment f_aligned f_is_low f_check_distance f__row_above f__told_step f__fits f__price f__is_low_at f__law_draws f__law_at f__law_word f__law_near f__law_leads f__law_due f_law : Addr}
    {od_distance an_distance od_distance_table an_distance_table od_alignment an_alignment od_aligned an_aligned od_is_low an_is_low od_check_distance an_check_distance od__row_above an__row_above od__told_step an__told_step od__fits an__fits od__price an__price od__is_low_at an__is_low_at od__law_draws an__law_draws od__law_at an__law_at od__law_word an__law_word od__law_near an__law_near od__law_leads an__law_leads od__law_due an__law_due od_law an_law : Option Addr}
    {sl_distance sl_distance_table sl_alignment sl_aligned sl_is_low sl_check_distance sl__row_above sl__told_step sl__fits sl__price sl__is_low_at sl__law_draws sl__law_at sl__law_word sl__law_near sl__law_leads sl__law_due sl_law : Array (Option Value)}
    {oc_distance kV_distance dc_distance pm_distance cd_distance ct_distance oc_distance_table kV_distance_table dc_distance_table pm_distance_table cd_distance_table ct_distance_table oc_alignment kV_alignment dc_alignment pm_alignment cd_alignment ct_alignment oc_aligned kV_aligned dc_aligned pm_aligned cd_aligned ct_aligned oc_is_low kV_is_low dc_is_low pm_is_low cd_is_low ct_is_low oc_check_distance kV_check_distance dc_check_distance pm_check_distance cd_check_distance ct_check_distance oc__row_above kV__row_above dc__row_above pm__row_above cd__row_above ct__row_above oc__told_step kV__told_step dc__told_step pm__told_step cd__told_step ct__told_step oc__fits kV__fits dc__fits pm__fits cd__fits ct__fits oc__price kV__price dc__price pm__price cd__price ct__price oc__is_low_at kV__is_low_at dc__is_low_at pm__is_low_at cd__is_low_at ct__is_low_at oc__law_draws kV__law_draws dc__law_draws pm__law_draws cd__law_draws ct__law_draws oc__law_at kV__law_at dc__law_at pm__law_at cd__law_at ct__law_at oc__law_word kV__law_word dc__law_word pm__law_word cd__law_word ct__law_word oc__law_near kV__law_near dc__law_near pm__law_near cd__law_near ct__law_near oc__law_leads kV__law_leads dc__law_leads pm__law_leads cd__law_leads ct__law_leads oc__law_due kV__law_due dc__law_due pm__law_due cd__law_due ct__law_due oc_law kV_law dc_law pm_law cd_law ct_law : Value}
    {fI : Addr} {odI anI : Option Addr} {slI : Array (Option Value)} {ocI kVI dcI pmI cdI ctI : Value}
    {C_HouseError N_HouseError C_BadStep N_BadStep : Addr}
    {nm_HouseError q_HouseError : Str} {bs_HouseError : List Value} {sn_HouseError : List Str} {sub_HouseError : List Value} {ab_HouseError : Bool} {col_HouseError : Option Bool} {dd_HouseError : Option Addr} {m0_HouseError m1_HouseError m2_HouseError m3_HouseError m5_HouseError : Option Value}
    {nm_BadStep q_BadStep : Str} {bs_BadStep : List Value} {sn_BadStep : List Str} {sub_BadStep : List Value} {ab_BadStep : Bool} {col_BadStep : Option Bool} {dd_BadStep : Option Addr} {m0_BadStep m1_BadStep m2_BadStep m3_BadStep m5_BadStep : Option Value}
    (z_abs : PySem.W.nsIn K mainGlobals "abs" = some none)
    (z_all : PySem.W.nsIn K mainGlobals "all" = some none)
    (z_bool : PySem.W.nsIn K mainGlobals "bool" = some none)
    (z_enumerate : PySem.W.nsIn K mainGlobals "enumerate" = some none)
    (z_int : PySem.W.nsIn K mainGlobals "int" = some none)
    (z_isinstance : PySem.W.nsIn K mainGlobals "isinstance" = some none)
    (z_len : PySem.W.nsIn K mainGlobals "len" = some none)
    (z_list : PySem.W.nsIn K mainGlobals "list" = some none)
    (z_min : PySem.W.nsIn K mainGlobals "min" = some none)
    (z_range : PySem.W.nsIn K mainGlobals "range" = some none)
    (z_repr : PySem.W.nsIn K mainGlobals "repr" = some none)
    (a_distance : PySem.W.nsIn K mainGlobals "distance" = some (some (.ref f_distance)))
    (l_distance : K.lookup f_distance = some ⟨oc_distance, od_distance, .func (PySem.W.fnOf "distance" "distance" (defArgs s_distance) (defBody s_distance) (defScope s_distance) .none kV_distance dc_distance pm_distance an_distance cd_distance ct_distance), sl_distance⟩)
    (c_distance : PySem.W.codeIn K cd_distance "distance" = true)
    (k_distance : PySem.W.keepIn K (.ref f_distance) = true)
    (a_distance_table : PySem.W.nsIn K mainGlobals "distance_table" = some (some (.ref f_distance_table)))
    (l_distance_table : K.lookup f_distance_table = some ⟨oc_distance_table, od_distance_table, .func (PySem.W.fnOf "distance_table" "distance_table" (defArgs s_distance_table) (defBody s_distance_table) (defScope s_distance_table) .none kV_distance_table dc_distance_table pm_distance_table an_distance_table cd_distance_table ct_distance_table), sl_distance_table⟩)
    (c_distance_table : PySem.W.codeIn K cd_distance_table "distance_table" = true)
    (k_distance_table : PySem.W.keepIn K (.ref f_distance_table) = true)
    (a_alignment : PySem.W.nsIn K mainGlobals "alignment" = some (some (.ref f_alignment)))
    (l_alignment : K.lookup f_alignment = some ⟨oc_alignment, od_alignment, .func (PySem.W.fnOf "alignment" "alignment" (defArgs s_alignment) (defBody s_alignment) (defScope s_alignment) .none kV_alignment dc_alignment pm_alignment an_alignment cd_alignment ct_alignment), sl_alignment⟩)
    (c_alignment : PySem.W.codeIn K cd_alignment "alignment" = true)
    (k_alignment : PySem.W.keepIn K (.ref f_alignment) = true)
    (a_aligned : PySem.W.nsIn K mainGlobals "aligned" = some (some (.ref f_aligned)))
    (l_aligned : K.lookup f_aligned = some ⟨oc_aligned, od_aligned, .func (PySem.W.fnOf "aligned" "aligned" (defArgs s_aligned) (defBody s_aligned) (defScope s_aligned) .none kV_aligned dc_aligned pm_aligned an_aligned cd_aligned ct_aligned), sl_aligned⟩)
    (c_aligned : PySem.W.codeIn K cd_aligned "aligned" = true)
    (k_aligned : PySem.W.keepIn K (.ref f_aligned) = true)
    (a_is_low : PySem.W.nsIn K mainGlobals "is_low" = some (some (.ref f_is_low)))
    (l_is_low : K.lookup f_is_low = some ⟨oc_is_low, od_is_low, .func (PySem.W.fnOf "is_low" "is_low" (defArgs s_is_low) (defBody s_is_low) (defScope s_is_low) .none kV_is_low dc_is_low pm_is_low an_is_low cd_is_low ct_is_low), sl_is_low⟩)
    (c_is_low : PySem.W.codeIn K cd_is_low "is_low" = true)
    (k_is_low : PySem.W.keepIn K (.ref f_is_low) = true)
    (a_check_distance : PySem.W.nsIn K mainGlobals "check_distance" = some (some (.ref f_check_distance)))
    (l_check_distance : K.lookup f_check_distance = some ⟨oc_check_distance, od_check_distance, .func (PySem.W.fnOf "check_distance" "check_distance" (defArgs s_check_distance) (defBody s_check_distance) (defScope s_check_distance) .none kV_check_distance dc_check_distance pm_check_distance an_check_distance cd_check_distance ct_check_distance), sl_check_distance⟩)
    (c_check_distance : PySem.W.codeIn K cd_check_distance "check_distance" = true)
    (k_check_distance : PySem.W.keepIn K (.ref f_check_distance) = true)
    (a__row_above : PySem.W.nsIn K mainGlobals "_row_above" = some (some (.ref f__row_above)))
    (l__row_above : K.lookup f__row_above = some ⟨oc__row_above, od__row_above, .func (PySem.W.fnOf "_row_above" "_row_above" (defArgs s__row_above) (defBody s__row_above) (defScope s__row_above) .none kV__row_above dc__row_above pm__row_above an__row_above cd__row_above ct__row_above), sl__row_above⟩)
    (c__row_above : PySem.W.codeIn K cd__row_above "_row_above" = true)
    (k__row_above : PySem.W.keepIn K (.ref f__row_above) = true)
    (a__told_step : PySem.W.nsIn K mainGlobals "_told_step" = some (some (.ref f__told_step)))
    (l__told_step : K.lookup f__told_step = some ⟨oc__told_step, od__told_step, .func (PySem.W.fnOf "_told_step" "_told_step" (defArgs s__told_step) (defBody s__told_step) (defScope s__told_step) .none kV__told_step dc__told_step pm__told_step an__told_step cd__told_step ct__told_step), sl__told_step⟩)
    (c__told_step : PySem.W.codeIn K cd__told_step "_told_step" = true)
    (k__told_step : PySem.W.keepIn K (.ref f__told_step) = true)
    (a__fits : PySem.W.nsIn K mainGlobals "_fits" = some (some (.ref f__fits)))
    (l__fits : K.lookup f__fits = some ⟨oc__fits, od__fits, .func (PySem.W.fnOf "_fits" "_fits" (defArgs s__fits) (defBody s__fits) (defScope s__fits) .none kV__fits dc__fits pm__fits an__fits cd__fits ct__fits), sl__fits⟩)
    (c__fits : PySem.W.codeIn K cd__fits "_fits" = true)
    (k__fits : PySem.W.keepIn K (.ref f__fits) = true)
    (a__price : PySem.W.nsIn K mainGlobals "_price" = some (some (.ref f__price)))
    (l__price : K.lookup f__price = some ⟨oc__price, od__price, .func (PySem.W.fnOf "_price" "_price" (defArgs s__price) (defBody s__price) (defScope s__price) .none kV__price dc__price pm__price an__price cd__price ct__price), sl__price⟩)
    (c__price : PySem.W.codeIn K cd__price "_price" = true)
    (k__price : PySem.W.keepIn K (.ref f__price) = true)
    (a__is_low_at : PySem.W.nsIn K mainGlobals "_is_low_at" = some (some (.ref f__is_low_at)))
    (l__is_low_at : K.lookup f__is_low_at = some ⟨oc__is_low_at, od__is_low_at, .func (PySem.W.fnOf "_is_low_at" "_is_low_at" (defArgs s__is_low_at) (defBody s__is_low_at) (defScope s__is_low_at) .none kV__is_low_at dc__is_low_at pm__is_low_at an__is_low_at cd__is_low_at ct__is_low_at), sl__is_low_at⟩)
    (c__is_low_at : PySem.W.codeIn K cd__is_low_at "_is_low_at" = true)
    (k__is_low_at : PySem.W.keepIn K (.ref f__is_low_at) = true)
    (a__law_draws : PySem.W.nsIn K mainGlobals "_law_draws" = some (some (.ref f__law_draws)))
    (l__law_draws : K.lookup f__law_draws = some ⟨oc__law_draws, od__law_draws, .func (PySem.W.fnOf "_law_draws" "_law_draws" (defArgs s__law_draws) (defBody s__law_draws) (defScope s__law_draws) .none kV__law_draws dc__law_draws pm__law_draws an__law_draws cd__law_draws ct__law_draws), sl__law_draws⟩)
    (c__law_draws : PySem.W.codeIn K cd__law_draws "_law_draws" = true)
    (k__law_draws : PySem.W.keepIn K (.ref f__law_draws) = true)
    (a__law_at : PySem.W.nsIn K mainGlobals "_law_at" = some (some (.ref f__law_at)))
    (l__law_at : K.lookup f__law_at = some ⟨oc__law_at, od__law_at, .func (PySem.W.fnOf "_law_at" "_law_at" (defArgs s__law_at) (defBody s__law_at) (defScope s__law_at) .none kV__law_at dc__law_at pm__law_at an__law_at cd__law_at ct__law_at), sl__law_at⟩)
    (c__law_at : PySem.W.codeIn K cd__law_at "_law_at" = true)
    (k__law_at : PySem.W.keepIn K (.ref f__law_at) = true)
    (a__law_word : PySem.W.nsIn K mainGlobals "_law_word" = some (some (.ref f__law_word)))
    (l__law_word : K.lookup f__law_word = some ⟨oc__law_word, od__law_word, .func (PySem.W.fnOf "_law_word" "_law_word" (defArgs s__law_word) (defBody s__law_word) (defScope s__law_word) .none kV__law_word dc__law_word pm__law_word an__law_word cd__law_word ct__law_word), sl__law_word⟩)
    (c__law_word : PySem.W.codeIn K cd__law_word "_law_word" = true)
    (k__law_word : PySem.W.keepIn K (.ref f__law_word) = true)
    (a__law_near : PySem.W.nsIn K mainGlobals "_law_near" = some (some (.ref f__law_near)))
    (l__law_near : K.lookup f__law_near = some ⟨oc__law_near, od__law_near, .func (PySem.W.fnOf "_law_near" "_law_near" (defArgs s__law_near) (defBody s__law_near) (defScope s__law_near) .none kV__law_near dc__law_near pm__law_near an__law_near cd__law_near ct__law_near), sl__law_near⟩)
    (c__law_near : PySem.W.codeIn K cd__law_near "_law_near" = true)
    (k__law_near : PySem.W.keepIn K (.ref f__law_near) = true)
    (a__law_leads : PySem.W.nsIn K mainGlobals "_law_leads" = some (some (.ref f__law_leads)))
    (l__law_leads : K.lookup f__law_leads = some ⟨oc__law_leads, od__law_leads, .func (PySem.W.fnOf "_law_leads" "_law_leads" (defArgs s__law_leads) (defBody s__law_leads) (defScope s__law_leads) .none kV__law_leads dc__law_leads pm__law_leads an__law_leads cd__law_leads ct__law_leads), sl__law_leads⟩)
    (c__law_leads : PySem.W.codeIn K cd__law_leads "_law_leads" = true)
    (k__law_leads : PySem.W.keepIn K (.ref f__law_leads) = true)
    (a__law_due : PySem.W.nsIn K mainGlobals "_law_due" = some (some (.ref f__law_due)))
    (l__law_due : K.lookup f__law_due = some ⟨oc__law_due, od__law_due, .func (PySem.W.fnOf "_law_due" "_law_due" (defArgs s__law_due) (defBody s__law_due) (defScope s__law_due) .none kV__law_due dc__law_due pm__law_due an__law_due cd__law_due ct__law_due), sl__law_due⟩)
    (c__law_due : PySem.W.codeIn K cd__law_due "_law_due" = true)
    (k__law_due : PySem.W.keepIn K (.ref f__law_due) = true)
    (a_law : PySem.W.nsIn K mainGlobals "law" = some (some (.ref f_law)))
    (l_law : K.lookup f_law = some ⟨oc_law, od_law, .func (PySem.W.fnOf "law" "law" (defArgs s_law) (defBody s_law) (defScope s_law) .none kV_law dc_law pm_law an_law cd_law ct_law), sl_law⟩)
    (c_law : PySem.W.codeIn K cd_law "law" = true)
    (k_law : PySem.W.keepIn K (.ref f_law) = true)
    (xg_HouseError : PySem.W.nsIn K mainGlobals "HouseError" = some (some (.ref C_HouseError)))
    (xx_HouseError : K.lookup C_HouseError = some (excClassObj nm_HouseError q_HouseError C_HouseError N_HouseError bs_HouseError [.type "ValueError", .type "Exception", .type "BaseException", .type "object"] true sn_HouseError sub_HouseError ab_HouseError col_HouseError dd_HouseError m0_HouseError m1_HouseError m2_HouseError m3_HouseError m5_HouseError "ValueError.__new__"))
    (xs_HouseError : PySem.W.findIn K (.ref C_HouseError) "__setattr__" = some (some (.builtin "object.__setattr__")))
    (xga_HouseError : PySem.W.findIn K (.ref C_HouseError) "__getattribute__" = some (some (.builtin "BaseException.__getattribute__")))
    (xgg_HouseError : PySem.W.findIn K (.ref C_HouseError) "__getattr__" = some none)
    (xat_HouseError : PySem.W.findIn K (.ref C_HouseError) "at" = some none)
    (xi_HouseError : PySem.W.findIn K (.ref C_HouseError) "__init__" = some (some (.ref fI)))
    (xb_HouseError : PySem.W.subIn K (.ref C_HouseError) (.type "BaseException") = some true)
    (xt_HouseError : PySem.W.typeIn K (.ref C_HouseError) = some (.type "type"))
    (xh_HouseError : PySem.W.hasDictIn K C_HouseError = true)
    (xk_HouseError : PySem.W.keepIn K (.ref C_HouseError) = true)
    (xis_HouseError : PySem.W.isClsIn K C_HouseError = true)
    (xg_BadStep : PySem.W.nsIn K mainGlobals "BadStep" = some (some (.ref C_BadStep)))
    (xx_BadStep : K.lookup C_BadStep = some (excClassObj nm_BadStep q_BadStep C_BadStep N_BadStep bs_BadStep (.ref C_HouseError :: [.type "ValueError", .type "Exception", .type "BaseException", .type "object"]) true sn_BadStep sub_BadStep ab_BadStep col_BadStep dd_BadStep m0_BadStep m1_BadStep m2_BadStep m3_BadStep m5_BadStep "ValueError.__new__"))
    (xs_BadStep : PySem.W.findIn K (.ref C_BadStep) "__setattr__" = some (some (.builtin "object.__setattr__")))
    (xga_BadStep : PySem.W.findIn K (.ref C_BadStep) "__getattribute__" = some (some (.builtin "BaseException.__getattribute__")))
    (xgg_BadStep : PySem.W.findIn K (.ref C_BadStep) "__getattr__" = some none)
    (xat_BadStep : PySem.W.findIn K (.ref C_BadStep) "at" = some none)
    (xi_BadStep : PySem.W.findIn K (.ref C_BadStep) "__init__" = some (some (.ref fI)))
    (xb_BadStep : PySem.W.subIn K (.ref C_BadStep) (.type "BaseException") = some true)
    (xt_BadStep : PySem.W.typeIn K (.ref C_BadStep) = some (.type "type"))
    (xh_BadStep : PySem.W.hasDictIn K C_BadStep = true)
    (xk_BadStep : PySem.W.keepIn K (.ref C_BadStep) = true)
    (xis_BadStep : PySem.W.isClsIn K C_BadStep = true)
    (l_I : K.lookup fI = some ⟨ocI, odI, .func (PySem.W.fnOf "__init__" "HouseError.__init__" (defArgs s_init) (defBody s_init) (defScope s_init) .none kVI dcI pmI anI cdI ctI), slI⟩)
    (c_I : PySem.W.codeIn K cdI "HouseError.__init__" = true)
    (k_I : PySem.W.keepIn K (.ref fI) = true)
    (t_I : PySem.W.typeIn K (.ref fI) = some (.type "function"))
    (e_BadStep_BadStep : PySem.W.subIn K (.ref C_BadStep) (.ref C_BadStep) = some true)
    (e_BadStep_HouseError : PySem.W.subIn K (.ref C_BadStep) (.ref C_HouseError) = some true)
    : ∃ fd : FuncData, (∀ (s : Shared) (v : Value), BindsTo s fd ⟨[v], []⟩ [("script", v)]) ∧ ∀ base : Heap, K.In base → base.Ns mainGlobals mg → FnG P w K mg base 8 fa fd ["script"] (spLaw K) := by
  have e := hfa.symm.trans (PySem.W.mg_of X G a_law)
  cases e
  have T : Txt K mg ⟨fI, C_HouseError, C_BadStep⟩ := ⟨PySem.W.mg_none_of X G z_abs, PySem.W.mg_none_of X G z_all, PySem.W.mg_none_of X G z_bool, PySem.W.mg_none_of X G z_enumerate, PySem.W.mg_none_of X G z_int, PySem.W.mg_none_of X G z_isinstance, PySem.W.mg_none_of X G z_len, PySem.W.mg_none_of X G z_list, PySem.W.mg_none_of X G z_min, PySem.W.mg_none_of X G z_range, PySem.W.mg_none_of X G z_repr, ⟨_, _, fun_mk (st := s_distance) l_distance c_distance k_distance, PySem.W.mg_of X G a_distance, (fun_mk (st := s_distance) l_distance c_distance k_distance).binds (ps := ["one", "two"]) fun _ _ _ _ _ _ us hl => match us, hl with | [_, _], _ => rfl⟩, ⟨_, _, fun_mk (st := s_distance_table) l_distance_table c_distance_table k_distance_table, PySem.W.mg_of X G a_distance_table, (fun_mk (st := s_distance_table) l_distance_table c_distance_table k_distance_table).binds (ps := ["one", "two"]) fun _ _ _ _ _ _ us hl => match us, hl with | [_, _], _ => rfl⟩, ⟨_, _, fun_mk (st := s_alignment) l_alignment c_alignment k_alignment, PySem.W.mg_of X G a_alignment, (fun_mk (st := s_alignment) l_alignment c_alignment k_alignment).binds (ps := ["one", "two"]) fun _ _ _ _ _ _ us hl => match us, hl with | [_, _], _ => rfl⟩, ⟨_, _, fun_mk (st := s_aligned) l_aligned c_aligned k_aligned, PySem.W.mg_of X G a_aligned, (fun_mk (st := s_aligned) l_aligned c_aligned k_aligned).binds (ps := ["one", "steps"]) fun _ _ _ _ _ _ us hl => match us, hl with | [_, _], _ => rfl⟩, ⟨_, _, fun_mk (st := s_is_low) l_is_low c_is_low k_is_low, PySem.W.mg_of X G a_is_low, (fun_mk (st := s_is_low) l_is_low c_is_low k_is_low).binds (ps := ["one", "two", "table"]) fun _ _ _ _ _ _ us hl => match us, hl with | [_, _, _], _ => rfl⟩, ⟨_, _, fun_mk (st := s_check_distance) l_check_distance c_check_distance k_check_distance, PySem.W.mg_of X G a_check_distance, (fun_mk (st := s_check_distance) l_check_distance c_check_distance k_check_distance).binds (ps := ["one", "two", "number", "steps", "table"]) fun _ _ _ _ _ _ us hl => match us, hl with | [_, _, _, _, _], _ => rfl⟩, ⟨_, _, fun_mk (st := s__row_above) l__row_above c__row_above k__row_above, PySem.W.mg_of X G a__row_above, (fun_mk (st := s__row_above) l__row_above c__row_above k__row_above).binds (ps := ["below", "letter", "two"]) fun _ _ _ _ _ _ us hl => match us, hl with | [_, _, _], _ => rfl⟩, ⟨_, _, fun_mk (st := s__told_step) l__told_step c__told_step k__told_step, PySem.W.mg_of X G a__told_step, (fun_mk (st := s__told_step) l__told_step c__told_step k__told_step).binds (ps := ["one", "two", "table", "i", "j"]) fun _ _ _ _ _ _ us hl => match us, hl with | [_, _, _, _, _], _ => rfl⟩, ⟨_, _, fun_mk (st := s__fits) l__fits c__fits k__fits, PySem.W.mg_of X G a__fits, (fun_mk (st := s__fits) l__fits c__fits k__fits).binds (ps := ["step", "letter"]) fun _ _ _ _ _ _ us hl => match us, hl with | [_, _], _ => rfl⟩, ⟨_, _, fun_mk (st := s__price) l__price c__price k__price, PySem.W.mg_of X G a__price, (fun_mk (st := s__price) l__price c__price k__price).binds (ps := ["steps"]) fun _ _ _ _ _ _ us hl => match us, hl with | [_], _ => rfl⟩, ⟨_, _, fun_mk (st := s__is_low_at) l__is_low_at c__is_low_at k__is_low_at, PySem.W.mg_of X G a__is_low_at, (fun_mk (st := s__is_low_at) l__is_low_at c__is_low_at k__is_low_at).binds (ps := ["one", "two", "table", "i", "j"]) fun _ _ _ _ _ _ us hl => match us, hl with | [_, _, _, _, _], _ => rfl⟩, ⟨_, _, fun_mk (st := s__law_draws) l__law_draws c__law_draws k__law_draws, PySem.W.mg_of X G a__law_draws, (fun_mk (st := s__law_draws) l__law_draws c__law_draws k__law_draws).binds (ps := ["script"]) fun _ _ _ _ _ _ us hl => match us, hl with | [_], _ => rfl⟩, ⟨_, _, fun_mk (st := s__law_at) l__law_at c__law_at k__law_at, PySem.W.mg_of X G a__law_at, (fun_mk (st := s__law_at) l__law_at c__law_at k__law_at).binds (ps := ["draws", "k", "many"]) fun _ _ _ _ _ _ us hl => match us, hl with | [_, _, _], _ => rfl⟩, ⟨_, _, fun_mk (st := s__law_word) l__law_word c__law_word k__law_word, PySem.W.mg_of X G a__law_word, (fun_mk (st := s__law_word) l__law_word c__law_word k__law_word).binds (ps := ["draws", "first", "most"]) fun _ _ _ _ _ _ us hl => match us, hl with | [_, _, _], _ => rfl⟩, ⟨_, _, fun_mk (st := s__law_near) l__law_near c__law_near k__law_near, PySem.W.mg_of X G a__law_near, (fun_mk (st := s__law_near) l__law_near c__law_near k__law_near).binds (ps := ["draws", "first", "word"]) fun _ _ _ _ _ _ us hl => match us, hl with | [_, _, _], _ => rfl⟩, ⟨_, _, fun_mk (st := s__law_leads) l__law_leads c__law_leads k__law_leads, PySem.W.mg_of X G a__law_leads, (fun_mk (st := s__law_leads) l__law_leads c__law_leads k__law_leads).binds (ps := ["one", "two", "steps"]) fun _ _ _ _ _ _ us hl => match us, hl with | [_, _, _], _ => rfl⟩, ⟨_, _, fun_mk (st := s__law_due) l__law_due c__law_due k__law_due, PySem.W.mg_of X G a__law_due, (fun_mk (st := s__law_due) l__law_due c__law_due k__law_due).binds (ps := ["one", "two", "number", "steps", "table"]) fun _ _ _ _ _ _ us hl => match us, hl with | [_, _, _, _, _], _ => rfl⟩, ⟨_, _, fun_mk (st := s_law) l_law c_law k_law, PySem.W.mg_of X G a_law, (fun_mk (st := s_law) l_law c_law k_law).binds (ps := ["script"]) fun _ _ _ _ _ _ us hl => match us, hl with | [_], _ => rfl⟩, ⟨_, fun_mk (st := s_init) l_I c_I k_I, (fun_mk (st := s_init) l_I c_I k_I).binds (ps := ["self", "at"]) (fun _ _ _ _ _ _ us hl => match us, hl with | [_, _], _ => rfl), t_I⟩, { g := PySem.W.mg_of X G xg_HouseError, o := ⟨⟨nm_HouseError, q_HouseError, N_HouseError, bs_HouseError, _, sn_HouseError, sub_HouseError, ab_HouseError, col_HouseError, dd_HouseError, m0_HouseError, m1_HouseError, m2_HouseError, m3_HouseError, m5_HouseError, xx_HouseError, by first | decide +kernel | rfl⟩, xs_HouseError, xb_HouseError, xt_HouseError, xk_HouseError⟩, i := xi_HouseError, no := xat_HouseError, f := ⟨xga_HouseError, xgg_HouseError, xb_HouseError, xh_HouseError⟩ }, { g := PySem.W.mg_of X G xg_BadStep, o := ⟨⟨nm_BadStep, q_BadStep, N_BadStep, bs_BadStep, _, sn_BadStep, sub_BadStep, ab_BadStep, col_BadStep, dd_BadStep, m0_BadStep, m1_BadStep, m2_BadStep, m3_BadStep, m5_BadStep, xx_BadStep, by first | decide +kernel | rfl⟩, xs_BadStep, xb_BadStep, xt_BadStep, xk_BadStep⟩, i := xi_BadStep, no := xat_BadStep, f := ⟨xga_BadStep, xgg_BadStep, xb_BadStep, xh_BadStep⟩ }, exm_of xb_BadStep xis_BadStep xt_BadStep e_BadStep_BadStep, exm_of xb_HouseError xis_HouseError xt_HouseError e_BadStep_HouseError⟩
  exact ⟨PySem.W.fnOf "law" "law" (defArgs s_law) (defBody s_law) (defScope s_law) .none kV_law dc_law pm_law an_law cd_law ct_law, fun s v => .of_eq rfl, fun base _ _ => law_all T (fun_mk (st := s_law) l_law c_law k_law)⟩
end SH
open PySem PySem.W PyProof.Rows
set_option maxHeartbeats 0 in
theorem PySem.Challenge.cw_suffixhouse_k34_checks_of_distances_holds : PySem.Challenge.rw_suffixhouse_k34_checks_of_distances.Holds := by
  w_on; o_law; k_head; (case hw => w_witness2)
  k_fill
  refine SH.walk_ofG (l := PySem.Challenge.rw_suffixhouse_k34_checks_of_distances) (n := 63) (k := 8) (x := "script") (sp := fun w => SH.spLaw _) rfl (by decide) rfl ⟨rfl, by decide, by decide⟩ (fun w h Y => PySem.W.kIn_of Y) ?F (fun _ _ a ns hl _ hS => ⟨a, ns, rfl, hS, hl, fun _ => rfl⟩)
  case F =>
    intro w mg fa h KX G hmg
    refine' SH.all_mk KX G hmg ?z_abs ?z_all ?z_bool ?z_enumerate ?z_int ?z_isinstance ?z_len ?z_list ?z_min ?z_range ?z_repr ?a_distance ?l_distance ?c_distance ?k_distance ?a_distance_table ?l_distance_table ?c_distance_table ?k_distance_table ?a_alignment ?l_alignment ?c_alignment ?k_alignment ?a_aligned ?l_aligned ?c_aligned ?k_aligned ?a_is_low ?l_is_low ?c_is_low ?k_is_low ?a_check_distance ?l_check_distance ?c_check_distance ?k_check_distance ?a__row_above ?l__row_above ?c__row_above ?k__row_above ?a__told_step ?l__told_step ?c__told_step ?k__told_step ?a__fits ?l__fits ?c__fits ?k__fits ?a__price ?l__price ?c__price ?k__price ?a__is_low_at ?l__is_low_at ?c__is_low_at ?k__is_low_at ?a__law_draws ?l__law_draws ?c__law_draws ?k__law_draws ?a__law_at ?l__law_at ?c__law_at ?k__law_at ?a__law_word ?l__law_word ?c__law_word ?k__law_word ?a__law_near ?l__law_near ?c__law_near ?k__law_near ?a__law_leads ?l__law_leads ?c__law_leads ?k__law_leads ?a__law_due ?l__law_due ?c__law_due ?k__law_due ?a_law ?l_law ?c_law ?k_law ?xg_HouseError ?xx_HouseError ?xs_HouseError ?xga_HouseError ?xgg_HouseError ?xat_HouseError ?xi_HouseError ?xb_HouseError ?xt_HouseError ?xh_HouseError ?xk_HouseError ?xis_HouseError ?xg_BadStep ?xx_BadStep ?xs_BadStep ?xga_BadStep ?xgg_BadStep ?xat_BadStep ?xi_BadStep ?xb_BadStep ?xt_BadStep ?xh_BadStep ?xk_BadStep ?xis_BadStep ?l_I ?c_I ?k_I ?t_I ?e_BadStep_BadStep ?e_BadStep_HouseError
    (case z_abs => first | k_is | rfl)
    (case z_all => first | k_is | rfl)
    (case z_bool => first | k_is | rfl)
    (case z_enumerate => first | k_is | rfl)
    (case z_int => first | k_is | rfl)
    (case z_isinstance => first | k_is | rfl)
    (case z_len => first | k_is | rfl)
    (case z_list => first | k_is | rfl)
    (case z_min => first | k_is | rfl)
    (case z_range => first | k_is | rfl)
    (case z_repr => first | k_is | rfl)
    (case a_distance => first | k_is | rfl)
    (case l_distance => first | k_is | rfl)
    (case c_distance => first | k_is | rfl)
    (case k_distance => first | k_is | rfl)
    (case a_distance_table => first | k_is | rfl)
    (case l_distance_table => first | k_is | rfl)
    (case c_distance_table => first | k_is | rfl)
    (case k_distance_table => first | k_is | rfl)
    (case a_alignment => first | k_is | rfl)
    (case l_alignment => first | k_is | rfl)
    (case c_alignment => first | k_is | rfl)
    (case k_alignment => first | k_is | rfl)
    (case a_aligned => first | k_is | rfl)
    (case l_aligned => first | k_is | rfl)
    (case c_aligned => first | k_is | rfl)
    (case k_aligned => first | k_is | rfl)
    (case a_is_low => first | k_is | rfl)
    (case l_is_low => first | k_is | rfl)
    (case c_is_low => first | k_is | rfl)
    (case k_is_low => first | k_is | rfl)
    (case a_check_distance => first | k_is | rfl)
    (case l_check_distance => first | k_is | rfl)
    (case c_check_distance => first | k_is | rfl)
    (case k_check_distance => first | k_is | rfl)
    (case a__row_above => first | k_is | rfl)
    (case l__row_above => first | k_is | rfl)
    (case c__row_above => first | k_is | rfl)
    (case k__row_above => first | k_is | rfl)
    (case a__told_step => first | k_is | rfl)
    (case l__told_step => first | k_is | rfl)
    (case c__told_step => first | k_is | rfl)
    (case k__told_step => first | k_is | rfl)
    (case a__fits => first | k_is | rfl)
    (case l__fits => first | k_is | rfl)
    (case c__fits => first | k_is | rfl)
    (case k__fits => first | k_is | rfl)
    (case a__price => first | k_is | rfl)
    (case l__price => first | k_is | rfl)
    (case c__price => first | k_is | rfl)
    (case k__price => first | k_is | rfl)
    (case a__is_low_at => first | k_is | rfl)
    (case l__is_low_at => first | k_is | rfl)
    (case c__is_low_at => first | k_is | rfl)
    (case k__is_low_at => first | k_is | rfl)
    (case a__law_draws => first | k_is | rfl)
    (case l__law_draws => first | k_is | rfl)
    (case c__law_draws => first | k_is | rfl)
    (case k__law_draws => first | k_is | rfl)
    (case a__law_at => first | k_is | rfl)
    (case l__law_at => first | k_is | rfl)
    (case c__law_at => first | k_is | rfl)
    (case k__law_at => first | k_is | rfl)
    (case a__law_word => first | k_is | rfl)
    (case l__law_word => first | k_is | rfl)
    (case c__law_word => first | k_is | rfl)
    (case k__law_word => first | k_is | rfl)
    (case a__law_near => first | k_is | rfl)
    (case l__law_near => first | k_is | rfl)
    (case c__law_near => first | k_is | rfl)
    (case k__law_near => first | k_is | rfl)
    (case a__law_leads => first | k_is | rfl)
    (case l__law_leads => first | k_is | rfl)
    (case c__law_leads => first | k_is | rfl)
    (case k__law_leads => first | k_is | rfl)
    (case a__law_due => first | k_is | rfl)
    (case l__law_due => first | k_is | rfl)
    (case c__law_due => first | k_is | rfl)
    (case k__law_due => first | k_is | rfl)
    (case a_law => first | k_is | rfl)
    (case l_law => first | k_is | rfl)
    (case c_law => first | k_is | rfl)
    (case k_law => first | k_is | rfl)
    (case xg_HouseError => first | k_is | rfl)
    (case xx_HouseError => first | k_is | rfl)
    (case xs_HouseError => first | k_is | rfl)
    (case xga_HouseError => first | k_is | rfl)
    (case xgg_HouseError => first | k_is | rfl)
    (case xat_HouseError => first | k_is | rfl)
    (case xi_HouseError => first | k_is | rfl)
    (case xb_HouseError => first | k_is | rfl)
    (case xt_HouseError => first | k_is | rfl)
    (case xh_HouseError => first | k_is | rfl)
    (case xk_HouseError => first | k_is | rfl)
    (case xis_HouseError => first | k_is | rfl)
    (case xg_BadStep => first | k_is | rfl)
    (case xx_BadStep => first | k_is | rfl)
    (case xs_BadStep => first | k_is | rfl)
    (case xga_BadStep => first | k_is | rfl)
    (case xgg_BadStep => first | k_is | rfl)
    (case xat_BadStep => first | k_is | rfl)
    (case xi_BadStep => first | k_is | rfl)
    (case xb_BadStep => first | k_is | rfl)
    (case xt_BadStep => first | k_is | rfl)
    (case xh_BadStep => first | k_is | rfl)
    (case xk_BadStep => first | k_is | rfl)
    (case xis_BadStep => first | k_is | rfl)
    (case l_I => first | k_is | rfl)
    (case c_I => first | k_is | rfl)
    (case k_I => first | k_is | rfl)
    (case t_I => first | k_is | rfl)
    (case e_BadStep_BadStep => first | k_is | rfl)
    (case e_BadStep_HouseError => first | k_is | rfl)
