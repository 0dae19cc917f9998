import PyProof.Rows.All
import Wide.All
import OpenK.AllK
import Wide.FinOn
import PyProof.EqAt
import PyProof.EqKinds
import PyProof.TupleCall
import HandS.ForMost
import HandS.Wide
import HandS.Codes
import HandS.TupLe
import HandS.Star
import HandS.StrMore
import HandS.FStr
import HandS.Evl
import HandS.Exc
import HandS.TryMany
import HandS.ExcInit
import HandS.ExcField
import HandS.WideBits
import HandS.WordsExc
import HandS.Walk
import HandS.SortRule
import KE.SortData
import HandS.Dict
import KE.GoesEnum
import HandS.IsInst
import HandS.DictComp
import HandS.More
import PySem.Challenge.RW_suffixhouse_k18_whole_ranges_are_places
set_option Elab.async false
set_option linter.all false
set_option maxRecDepth 100000
set_option maxHeartbeats 4000000
namespace SH
open PySem PySem.Spec PyProof.Rows L2
section
variable {P : Program} {w : World} {K : PySem.W.Frag} {mg : Str → Option Value} {base : Heap}
/-- a def of the top as it stands: its text, its name's value, how it binds -/
structure Dd (K : PySem.W.Frag) (mg : Str → Option Value) (x : Str) (st : Stmt) (ps : List Str) : Prop where
  ex : ∃ (f : Addr) (fd : FuncData), Fun K x x st f fd ∧ mg x = some (.ref f) ∧ Binds K fd ps []
/-- a def that lets nothing out, callable by its name -/
abbrev Cl (P : Program) (w : World) (K : PySem.W.Frag) (mg : Str → Option Value) (base : Heap) (k : Nat) (x : Str) (sp : Sp) : Prop := C8.Cal P w K mg base k x sp []
/-- a def that may raise -/
structure ClX (P : Program) (w : World) (K : PySem.W.Frag) (mg : Str → Option Value) (base : Heap) (k : Nat) (x : Str) (sp : Sp) : Prop where
  ex : ∃ (f : Addr) (fd : FuncData) (ps : List Str), FnOk P w K mg base (L2.CX P w) k f fd ps sp ∧ mg x = some (.ref f) ∧ PySem.W.keepIn K (.ref f) = true ∧ Binds K fd ps []
theorem cl_of {x : Str} {st : Stmt} {ps N : List Str} {k : Nat} {sp : Sp} (D : Dd K mg x st ps) (S : FnScope N ps (defScope st)) (len : ∀ vs H Q E, sp vs H Q E → vs.length = ps.length)
    (hbody : ∀ (f : Addr) (cdv : Value) (A : Around) (outer : List Env) (s : Shared) (H : Hp) (vs : List V) (Q : VK) (E : XK), Room k (A.deeper (envOfC x (defScope st) s.heap.objs.size f cdv)) → sp vs H Q E →
      ∃ t, PSs (cxOf CX0 P w K mg base N x (defScope st) f cdv A outer s H E).nox (defBody st) t ∧ t { nx := fun _ H' => Q .non H', rt := Q } (start N vs) H) : Cl P w K mg base (k + 1) x sp := by
  obtain ⟨f, fd, F, hm, b⟩ := D.ex
  exact ⟨f, fd, ps, [], F.ok S len (fun cdv A outer s H vs Q E hr h => hbody f cdv A outer s H vs Q E hr h), hm, F.kp, b, .nil⟩
theorem clx_of {x : Str} {st : Stmt} {ps N : List Str} {k : Nat} {sp : Sp} (D : Dd K mg x st ps) (S : FnScope N ps (defScope st)) (len : ∀ vs H Q E, sp vs H Q E → vs.length = ps.length)
    (hbody : ∀ (f : Addr) (cdv : Value) (A : Around) (outer : List Env) (s : Shared) (H : Hp) (vs : List V) (Q : VK) (E : XK), Room k (A.deeper (envOfC x (defScope st) s.heap.objs.size f cdv)) → sp vs H Q E →
      ∃ t, PSs (cxOf (L2.CX P w) P w K mg base N x (defScope st) f cdv A outer s H E) (defBody st) t ∧ t { nx := fun _ H' => Q .non H', rt := Q } (start N vs) H) : ClX P w K mg base (k + 1) x sp := by
  obtain ⟨f, fd, F, hm, b⟩ := D.ex
  exact ⟨f, fd, ps, F.okX S len (fun cdv A outer s H vs Q E hr h => hbody f cdv A outer s H vs Q E hr h), hm, F.kp, b⟩
end
section
variable {X : Cx} {k j : Nat} {x : Str} {sp : Sp} {p pos : Pos} {e : Expr} {es : List Expr} {t : TA}
/-- f(e, ..) of a def that may raise, in a try's body or where it passes on -/
theorem pe_cx (c : ClX X.prog X.w X.K X.mg X.base k x sp) {E : L2.St → XK} (hr : Room j X.A) (hk : k ≤ j) (hx : ∀ σ, PassesAt (L2.CX X.prog X.w) X σ (E σ)) (hg : Gl X x) (ha : PA X (e :: es) t)
    (hdb : (x == ("__debug__" : Str)) = false := by decide) (he : starEach (e :: es) X.env = (false, eval e X.env) :: starEach es X.env := by rfl) (hpl : (backTo pos (starEach es X.env)).any (·.1) = false := by rfl) :
    PE X (.Call (.Name x p) (e :: es) [] pos) (tCallS sp E t) := by
  obtain ⟨f, fd, ps, F, hm, kp, b⟩ := c.ex
  exact pe_callS F (hr.mono hk) hg hm kp b hx ha hdb he hpl
end
theorem ixt {X : Cx} {K : PySem.W.Frag} (h : X.K = K := by rfl) : IxR X (rIxT K) := h ▸ ix_tup
theorem ixl {X : Cx} {K : PySem.W.Frag} (h : X.K = K := by rfl) : IxR X (rIxL K) := h ▸ ix_list
/-- a module's number -/
theorem pe_k {X : Cx} {x : Str} {pos : Pos} {v : Int} (h : ∃ t, X.mg x = some (.int v t)) (hg : Gl X x := by rfl) (hdb : (x == ("__debug__" : Str)) = false := by decide) : PE X (.Name x pos) (tC (.int v)) := by
  obtain ⟨t, h⟩ := h
  exact pe_glob hg h ⟨t, rfl⟩ hdb
/-! ### numbers drawn: a list of small numbers -/
def Dr (ns : List Int) : Prop := ns.length ≤ 4000 ∧ ∀ n ∈ ns, 0 ≤ n ∧ n < 65536
/-- r(draws, k, many): a number from 0 below many -/
def spDraw (K : PySem.W.Frag) : Sp := fun vs H Q _ => ∃ (a : Addr) (ns : List Int) (k many : Int), vs = [.ref a, .int k, .int many] ∧ SqL K H a (ns.map V.int) ∧ Dr ns ∧ 0 ≤ k ∧ k < 100000 ∧ 0 < many ∧ ∀ r : Int, 0 ≤ r → r < many → Q (.int r) H
theorem at_ints {ns : List Int} {i : Int} (h0 : 0 ≤ i) (h1 : i < ns.length) : ∃ z, atI (ns.map V.int) i = some (.int z) ∧ z ∈ ns := by
  obtain ⟨j, rfl⟩ : ∃ j : Nat, i = j := ⟨i.toNat, by omega⟩
  have hj : j < ns.length := by omega
  refine ⟨ns[j], ?_, List.getElem_mem hj⟩
  refine atI_nat ?_
  rw [List.getElem?_map, List.getElem?_eq_getElem hj]
  rfl
/-! ### heaps -/
theorem same_new {H : Hp} {p : Addr} {o : HO} (h : H p = none) : Same H (upd H p o) := fun b x e => by
  rw [upd_ne (ne_of_none e h)]
  exact e
theorem same_mut {H H' : Hp} {p : Addr} {o : HO} (e : Same H H') (h : H p = none) : Same H (upd H' p o) := fun b x hb => by
  rw [upd_ne (ne_of_none hb h)]
  exact e b x hb
theorem same_tup {K : PySem.W.Frag} {H H' : Hp} {a : Addr} {xs : List V} (e : Same H H') (h : SqT K H a xs) : SqT K H' a xs := by
  rcases h with (h | ⟨o, h⟩) | h
  · exact .inl (.inl (e _ _ h))
  · exact .inl (.inr ⟨o, e _ _ h⟩)
  · exact .inr h
/-! ### texts of letters -/
def okc (c : Nat) : Bool := decide (32 ≤ c) && (decide (c ≤ 126) && decide (c ≠ 37))
def IsLet (z : Str) : Prop := z.cps.toList.all okc = true
instance (z : Str) : Decidable (IsLet z) := inferInstanceAs (Decidable (_ = true))
theorem str_at {z : Str} {i : Int} (h0 : 0 ≤ i) (h1 : i < (z.cps.toList.length : Int)) : ∃ c, atI z.cps.toList i = some c ∧ c ∈ z.cps.toList := by
  obtain ⟨j, rfl⟩ : ∃ j : Nat, i = j := ⟨i.toNat, by omega⟩
  have hj : j < z.cps.toList.length := by omega
  exact ⟨z.cps.toList[j], atI_nat (List.getElem?_eq_getElem hj), List.getElem_mem hj⟩
theorem let_at {z : Str} {c : Nat} (h : IsLet z) (hc : c ∈ z.cps.toList) : IsLet ⟨#[c]⟩ := by
  have := List.all_eq_true.mp h c hc
  show ([c].all okc) = true
  simp [this]
theorem let_app {a b : Str} (ha : IsLet a) (hb : IsLet b) : IsLet (a ++ b) := by
  have e : (a ++ b).cps.toList = a.cps.toList ++ b.cps.toList := TL.tl_append a b
  show (a ++ b).cps.toList.all okc = true
  rw [e, List.all_append, Bool.and_eq_true]
  exact ⟨ha, hb⟩
theorem len_app (a b : Str) : (a ++ b).length = a.length + b.length := by
  have e : (a ++ b).cps.toList = a.cps.toList ++ b.cps.toList := TL.tl_append a b
  have e2 := congrArg List.length e
  rw [List.length_append] at e2
  simpa [Str.length] using e2
theorem at_map {α : Type} (f : α → V) {xs : List α} {i : Int} (h0 : 0 ≤ i) (h1 : i < xs.length) : ∃ x, atI (xs.map f) i = some (f x) ∧ x ∈ xs := by
  obtain ⟨j, rfl⟩ : ∃ j : Nat, i = j := ⟨i.toNat, by omega⟩
  have hj : j < xs.length := by omega
  refine ⟨xs[j], ?_, List.getElem_mem hj⟩
  refine atI_nat ?_
  rw [List.getElem?_map, List.getElem?_eq_getElem hj]
  rfl
theorem ixs_let {z : Str} {j : Int} {H : Hp} {Q : VK} (hz : IsLet z) (hl : z.length ≤ sizeLine) (h0 : 0 ≤ j) (h1 : j < (z.cps.toList.length : Int)) (h : ∀ c, okc c = true → Q (.str ⟨#[c]⟩) H) : rIxS (.str z) (.int j) H Q := by
  obtain ⟨c, hc, hm⟩ := str_at h0 h1
  exact ⟨z, j, c, rfl, rfl, hl, hc, h c (List.all_eq_true.mp hz c hm)⟩
theorem let_one {c : Nat} (h : okc c = true) : IsLet ⟨#[c]⟩ := by
  show ([c].all okc) = true
  simp [h]
/-! ### houses: pairs of a number and a text, each at its address -/
abbrev PL := List (Addr × Int × Str)
def refs (L : PL) : List V := L.map fun q => V.ref q.1
def PairsAt (K : PySem.W.Frag) (H : Hp) (L : PL) : Prop := ∀ q ∈ L, SqT K H q.1 [.int q.2.1, .str q.2.2]
def HsAt (K : PySem.W.Frag) (H : Hp) (a : Addr) (L : PL) : Prop := SqL K H a (refs L) ∧ PairsAt K H L
theorem PairsAt.same {K : PySem.W.Frag} {H H' : Hp} {L : PL} (e : Same H H') (h : PairsAt K H L) : PairsAt K H' L := fun q hq => same_tup e (h q hq)
theorem HsAt.same {K : PySem.W.Frag} {H H' : Hp} {a : Addr} {L : PL} (e : Same H H') (h : HsAt K H a L) : HsAt K H' a L := ⟨e.seq h.1, h.2.same e⟩
/-- numbers ascending from 0 to 99, texts of at most m letters -/
structure IsHs (m : Nat) (h : List (Int × Str)) : Prop where
  asc : (h.map (·.1)).Pairwise (· < ·)
  num : ∀ q ∈ h, 0 ≤ q.1 ∧ q.1 ≤ 99
  txt : ∀ q ∈ h, IsLet q.2 ∧ q.2.length ≤ m
/-- == of data, the frame said -/
theorem op_eqDK {X : Cx} {K : PySem.W.Frag} (hu : X.A.units + 64 < cLine) (h : X.K = K := by rfl) : OpR X (compareOp .Eq) (rEqD K) := h ▸ op_eqD hu
theorem op_neDK {X : Cx} {K : PySem.W.Frag} (hu : X.A.units + 64 < cLine) (h : X.K = K := by rfl) : OpR X (compareOp .NotEq) (rNeD K) := h ▸ op_neD hu
end SH
set_option Elab.async false
set_option linter.all false
set_option maxRecDepth 100000
set_option maxHeartbeats 4000000
/-! except clauses, any number, with and without a name -/
namespace SH
open PySem PySem.Spec PyProof.Rows L2
abbrev Suite := Addr → Value → Option Addr → TS
/-- behind a suite whose name is forgotten -/
def gone (i : Nat) (D : Ends) : Ends :=
  ⟨fun τ G => D.nx (τ.set i none) G, D.rt, fun τ G => D.bk (τ.set i none) G, fun τ G => D.ct (τ.set i none) G⟩
/-- how a suite is entered: with its name in slot i, or without one -/
def enter (o : Option Nat) (ts : Suite) (a : Addr) (c : Value) (d : Option Addr) (D : Ends) (τ : L2.St) (G : Hp) : Prop :=
  match o with
  | none => ts a c d D τ G
  | some i => ts a c d (gone i D) (τ.set i (some (.ref a))) G
/-- the clauses' wishes: the first that matches -/
def wHds (K : PySem.W.Frag) (Wo : WX) (D : Ends) : List (Value × Option Nat × Suite) → WX
  | [] => Wo
  | q :: r => fun c d τ G => ∃ b, PySem.W.exmOne K c q.1 = some b ∧ (b = true → ∀ a, G a = none → enter q.2.1 q.2.2 a c d D τ G) ∧ (b = false → wHds K Wo D r c d τ G)
/-- a suite's text does what ts says -/
def SuiteOk (X : Cx) (sts : List Stmt) (ts : Suite) : Prop :=
  ∀ (a : Addr) (o : Obj) (c : Value) (d : Option Addr) (l : List (Addr × Obj)), Zc c d o → (∃ f, o.data = .fields f) → PSs (X.suite a ((a, o) :: l)) sts (ts a c d)
inductive HdsN (X : Cx) : List ExceptHandler → List (Value × Option Nat × Suite) → Prop
  | nil : HdsN X [] []
  | cons {x : Str} {c : Value} {ts : Suite} {u : Stmt} {us : List Stmt} {p p' : Pos} {hs : List ExceptHandler} {l : List (Value × Option Nat × Suite)} :
      Names X x c → SuiteOk X (u :: us) ts → HdsN X hs l → HdsN X (.ExceptHandler (some (.Name x p)) none (u :: us) p' :: hs) ((c, none, ts) :: l)
  | named {x n : Str} {i : Nat} {c : Value} {ts : Suite} {u : Stmt} {us : List Stmt} {p p' : Pos} {hs : List ExceptHandler} {l : List (Value × Option Nat × Suite)} :
      Names X x c → X.N.Nodup → X.N[i]? = some n → X.env.kindOf n = some .local → SuiteOk X (u :: us) ts → HdsN X hs l → HdsN X (.ExceptHandler (some (.Name x p)) (some n) (u :: us) p' :: hs) ((c, some i, ts) :: l)
/-- an exception that has come down to this frame: at a, of the class c, with its dict d, over the ground B -/
structure Down (X : Cx) (pins : List (Addr × Obj)) (B : Heap) (a : Addr) (c : Value) (d : Option Addr) (τ : L2.St) (G : Hp) (s : Shared) : Prop where
  st : X.stack = X.env :: X.outer
  fr : X.env.frame = some X.env.locals
  fl : HandSPX.FlyingZ B (X.env :: X.outer) a (Zc c d) s.heap
  on : ∀ h, B.StaysIn h → s.heap.UpToSlots h → Inv X pins τ G { s with heap := h }
  ok : Inv X pins τ G s
  no : G a = none
  out : ∀ (h : Heap) (W : WX), HandSPX.HeldZ B (X.env :: X.outer) a (Zc c d) X.env.locals h → s.heap.UpToSlots h → W c d τ G → XE X W (.ref a) { s with heap := h }
section
variable {X : Cx} {pins : List (Addr × Obj)} {B : Heap} {a : Addr} {c : Value} {d : Option Addr} {τ : L2.St} {G : Hp} {s : Shared}
theorem Down.inner (Y : Down X pins B a c d τ G s) : ∃ o, s.heap.get? a = some o ∧ Zc c d o ∧ (∃ f, o.data = .fields f) ∧ Inv (X.suite a ((a, o) :: (X.pn ++ pins))) [] τ G s := by
  obtain ⟨o, f, ga, za, da⟩ := Y.fl.there
  have away : a ∉ frs (X.env :: X.outer) := by
    intro m
    obtain ⟨-, o', g', nf⟩ := Y.fl.2.2.1.mem m
    cases ga.symm.trans g'
    exact nf _ da
  refine ⟨o, ga, za, ⟨f, da⟩, Y.ok.suite ga da Y.no ?_ ?_⟩
  · intro z
    refine away (List.mem_filterMap.mpr ⟨X.env, List.mem_cons_self, ?_⟩)
    rw [Y.fr, z]
  · intro m
    obtain ⟨e, me, q⟩ := List.mem_filterMap.mp m
    exact away (List.mem_filterMap.mpr ⟨e, List.mem_cons_of_mem _ me, q⟩)
/-- the clause's name is asked, and whether the exception is of it -/
theorem Down.asked (Y : Down X pins B a c d τ G s) {x : Str} {p : Pos} {cl : Value} {b : Bool} (nm : Names X x cl) (hb : PySem.W.exmOne X.K c cl = some b) {Q : Bool → Shared → Prop} {E : Value → Shared → Prop} (q : Q b s) :
    wpAny (model X.prog X.w) (X.A.mark (some (.ref a))) (eval (.Name x p) X.env) (fun u s1 => wpAny (model X.prog X.w) (X.A.mark (some (.ref a))) (excMatches (.ref a) u) Q E s1) E s := by
  obtain ⟨o, ga, za, -, S⟩ := Y.inner
  have ty : PySem.W.Looks (model X.prog X.w) s.heap (typeOf (.ref a)) c := fun _ _ _ _ k z => wpAny_typeOf_ref (k _ _ ga) (by rw [za.1]; exact z)
  have mt := (PySem.W.exm_one (M := model X.prog X.w) Y.ok.kIn ty hb).here (A := X.A.mark (some (.ref a))) (Q := Q) (E := E) q
  obtain ⟨g, nd, hm | ⟨hm, hv, nn⟩⟩ := nm
  · exact ld_glob (X := X.suite a ((a, o) :: (X.pn ++ pins))) S g hm mt nd
  · exact ld_blt (X := X.suite a ((a, o) :: (X.pn ++ pins))) S g hm hv mt nn nd
/-- once more at the suite's beginning -/
theorem Down.again (Y : Down X pins B a c d τ G s) {h : Heap} (f : HandSPX.FlyingZ B (X.env :: X.outer) a (Zc c d) h) (u : s.heap.UpToSlots h) : Down X pins B a c d τ G { s with heap := h } :=
  ⟨Y.st, Y.fr, f, fun g k v => Y.on g k (u.trans v), Y.on h f.1 u, Y.no, fun g W k v w => Y.out g W k (u.trans v) w⟩
theorem Down.handle (Y : Down X pins B a c d τ G s) {D : Ends} {Wo : WX} (tk : Takes X Wo) {hs : List ExceptHandler} {l : List (Value × Option Nat × Suite)} (hk : HdsN X hs l) :
    wHds X.K Wo D l c d τ G → wpAny (model X.prog X.w) X.A (handleBy (.ref a) X.env hs) (SP X pins D) X.xe s := by
  induction hk with
  | nil =>
    intro wish
    refine wpAny_handleBy_nil ?_
    obtain ⟨-, -, -, o, f, T, -, -, go, -, dat, f1, -⟩ := id Y.fl
    unfold PySem.passOn
    refine wpAny_bind (wpAny_field go dat f1 ?_)
    rw [if_neg (by simp : ¬ ((Value.ref T == Value.none) = true))]
    have up : wpAny (model X.prog X.w) X.A (setFlight (.ref a) X.env.frame) (fun _ s4 => wpAny (model X.prog X.w) X.A (throw (.ref a) : Sem Flow) (SP X pins D) X.xe s4) X.xe s := by
      rw [Y.fr]
      exact HandSPX.setFlight_upZ Y.fl fun h held u => wpAny_throw (tk _ _ (Y.out h _ held u wish))
    first
      | exact wpAny_bind (wpAny_pure (wpAny_bind up))
      | exact wpAny_bind up
  | @cons x cl ts u us p p' hs l nm so r ih =>
    rintro ⟨b, hb, yes, no⟩
    refine wpAny_handleBy_cons (codeAny_handlers_test (Y.asked nm hb ?_)) (fun z => nomatch z)
    match b, yes, no with
    | false, _, no => exact ih (no rfl)
    | true, yes, _ =>
      refine codeAny_handlers_suite (HandSPX.lands_againZ Y.fl fun h f v => ?_)
      obtain ⟨o, -, zo, fo, S⟩ := (Y.again f v).inner
      refine wpAny_mono ((so a o c d (X.pn ++ pins) zo fo).run [] _ _ G _ S (yes rfl a Y.no)) ?_ (fun _ _ z => z.elim)
      intro g s6 hsp
      match g, hsp with
      | .next, ⟨τ6, G6, S6, z⟩ => exact ⟨τ6, G6, S6.unsuite Y.ok.ok, z⟩
      | .brk, ⟨τ6, G6, S6, z⟩ => exact ⟨τ6, G6, S6.unsuite Y.ok.ok, z⟩
      | .cont, ⟨τ6, G6, S6, z⟩ => exact ⟨τ6, G6, S6.unsuite Y.ok.ok, z⟩
      | .ret u, ⟨v6, τ6, G6, S6, r6, z⟩ => exact ⟨v6, τ6, G6, S6.unsuite Y.ok.ok, r6, z⟩
  | @named x n i cl ts u us p p' hs l nm hN hi ho so r ih =>
    rintro ⟨b, hb, yes, no⟩
    refine wpAny_handleBy_cons (codeAny_handlers_test (Y.asked nm hb ?_)) (fun z => nomatch z)
    match b, yes, no with
    | false, _, no => exact ih (no rfl)
    | true, yes, _ =>
      refine codeAny_handlers_suite_as (HandSPX.lands_againZ Y.fl fun h f v => ?_)
      obtain ⟨o, -, zo, fo, S⟩ := (Y.again f v).inner
      refine store_ok (X := X.suite a ((a, o) :: (X.pn ++ pins))) (v := .ref a) S hN hi (.inl ho) rfl (fun s5 S5 => ?_) (.inr ho)
      refine wpAny_mono ((so a o c d (X.pn ++ pins) zo fo).run [] s5 _ G _ S5 (yes rfl a Y.no)) ?_ (fun _ _ z => z.elim)
      intro g s6 hsp
      match g, hsp with
      | .next, ⟨τ6, G6, S6, z⟩ => exact gone_ok (S6.unsuite Y.ok.ok) hN hi ho fun s7 J => ⟨τ6.set i none, G6, J, z⟩
      | .brk, ⟨τ6, G6, S6, z⟩ => exact gone_ok (S6.unsuite Y.ok.ok) hN hi ho fun s7 J => ⟨τ6.set i none, G6, J, z⟩
      | .cont, ⟨τ6, G6, S6, z⟩ => exact gone_ok (S6.unsuite Y.ok.ok) hN hi ho fun s7 J => ⟨τ6.set i none, G6, J, z⟩
      | .ret u, ⟨v6, τ6, G6, S6, r6, z⟩ => exact gone_ok (S6.unsuite Y.ok.ok) hN hi ho fun s7 J => ⟨v6, τ6.set i none, G6, J, r6, z⟩
end
/-- try: body, any clauses -/
theorem ps_try_hds {X : Cx} {body : List Stmt} {h₀ : ExceptHandler} {hs : List ExceptHandler} {l : List (Value × Option Nat × Suite)} {pos : Pos} {tb : WX → TS} {Wo : WX}
    (st : X.stack = X.env :: X.outer) (fr : X.env.frame = some X.env.locals) (tk : Takes X Wo)
    (bo : ∀ (W : WX) (pn : List (Addr × Obj)) (xe : Value → Shared → Prop), Takes (X.tr pn xe) W → PassesOwn (model X.prog X.w) X.A X.env xe → PSs (X.tr pn xe) body (tb W))
    (hk : HdsN X (h₀ :: hs) l) : PS X (.Try body (h₀ :: hs) [] [] pos) (fun D τ G => tb (wHds X.K Wo D l) D τ G) := by
  constructor
  intro pins s τ G D I q
  have ok := I.ok
  refine wpAny_Try_except (wpAny_mono ((bo (wHds X.K Wo D l) (X.pn ++ pins) _ ?_ PassesOwn.looking).run [] s τ G D (I.toTry _) q) (fun f s1 r => ?_) (fun e s1 r => r))
  · rintro u s2 ⟨a, B, sI, pins', τ2, G2, c, d, rfl, J', nb, up, sky, na, os, ag, wish⟩
    have J := J'.ofTry ok
    have sky2 : Sky B (X.env :: X.outer) a (Zc c d) X.env.locals s2.heap := st ▸ sky
    refine Sky.land Zc.steady (by rw [ok.frames, st]) fr sky2 (fun h f v => ?_)
    refine Down.handle (B := B) (a := a) (c := c) (d := d) (τ := τ2) (G := G2) (s := { s2 with heap := h }) ⟨st, fr, f, fun g k z => J.landed nb k ((up.trans v).trans z) os ag, J.landed nb f.1 (up.trans v) os ag, na, fun g W k z w => ?_⟩ tk hk wish
    exact ⟨a, B, sI, pins, τ2, G2, c, d, rfl, J, nb, (up.trans v).trans z, .inr (.inr (by rw [st]; exact k)), na, os, ag, w⟩
  · match f, r with
    | .next, ⟨τ2, G2, J, z⟩ => exact wpAny_execs_nil ⟨τ2, G2, J.ofTry ok, z⟩
    | .brk, ⟨τ2, G2, J, z⟩ => exact ⟨τ2, G2, J.ofTry ok, z⟩
    | .cont, ⟨τ2, G2, J, z⟩ => exact ⟨τ2, G2, J.ofTry ok, z⟩
    | .ret u, ⟨v, τ2, G2, J, r2, z⟩ => exact ⟨v, τ2, G2, J.ofTry ok, r2, z⟩
end SH
set_option Elab.async false
set_option linter.all false
set_option maxRecDepth 100000
set_option maxHeartbeats 4000000
/-! errors with a number: made by the base's __init__, raised, caught, asked for their number -/
namespace SH
open PySem PySem.Spec PyProof.Rows L2
/-- numbers that an error is made with here -/
def Small (n : Int) : Prop := n.natAbs < 2 ^ 200
theorem small_bits {n : Int} (h : Small n) : decide ((1000 : Int) < ((Builtin.Int.intBits n : Nat) : Int)) = false := by
  have a := PySem.Flt.log2_lt_of (by decide : 0 < 200) h
  have b : Builtin.Int.intBits n ≤ n.natAbs.log2 + 1 := by
    unfold Builtin.Int.intBits
    split <;> omega
  refine decide_eq_false ?_
  omega
theorem small_of {n : Int} (h0 : -1000000 ≤ n) (h1 : n ≤ 1000000) : Small n := Nat.lt_of_le_of_lt (by omega : n.natAbs ≤ 1000000) (by decide)
/-- __init__(self, at) at a new exception: its dict gets the number -/
def spInitAt (K : PySem.W.Frag) : Sp := fun vs H Q _ => ∃ (a C : Addr) (n : Int), vs = [.ref a, .int n] ∧ OexC K C ∧ PySem.W.findIn K (.ref C) "at" = some none ∧ Small n ∧ H a = some (exo a C none) ∧
  ∀ dx : Addr, H dx = none → dx ≠ a → Q .non (upd (upd H dx (exd dx [(("at" : Str), .int n)])) a (exo a C (some dx)))
/-- what the top says of an error's class -/
structure ErrC (K : PySem.W.Frag) (mg : Str → Option Value) (x : Str) (C fI : Addr) : Prop where
  g : mg x = some (.ref C)
  o : OexC K C
  i : PySem.W.findIn K (.ref C) "__init__" = some (some (.ref fI))
  no : PySem.W.findIn K (.ref C) "at" = some none
  f : XfC K C
/-- .. and of the __init__ -/
structure InitOk (P : Program) (w : World) (K : PySem.W.Frag) (mg : Str → Option Value) (base : Heap) (fI : Addr) : Prop where
  ex : ∃ fd : FuncData, FnOk P w K mg base CX0 1 fI fd ["self", "at"] (spInitAt K) ∧ Binds K fd ["self", "at"] [] ∧ PySem.W.typeIn K (.ref fI) = some (.type "function")
/-- .. as it stands in the text -/
structure DdI (K : PySem.W.Frag) (q : Str) (st : Stmt) (fI : Addr) : Prop where
  ex : ∃ fd : FuncData, Fun K "__init__" q st fI fd ∧ Binds K fd ["self", "at"] [] ∧ PySem.W.typeIn K (.ref fI) = some (.type "function")
section
variable {X : Cx} {k : Nat} {x : Str} {C fI : Addr} {e : Expr} {ta : TA} {p pos : Pos}
/-- x(e): a new error of the class at C -/
theorem pmk_at (T : ErrC X.K X.mg x C fI) (I : InitOk X.prog X.w X.K X.mg X.base fI) (hr : Room k X.A) (hk : 2 ≤ k) (hg : Gl X x) (ha : PA X (e :: []) ta)
    (hd : (x == ("__debug__" : Str)) = false := by decide) (he : starEach (e :: []) X.env = (false, eval e X.env) :: starEach [] X.env := by rfl) (hp : (backTo pos (starEach [] X.env)).any (·.1) = false := by rfl) :
    PMk X (.Call (.Name x p) (e :: []) [] pos) (tMkO C (spInitAt X.K) [] ta) := by
  obtain ⟨fd, F, b, t⟩ := I.ex
  exact pmk_oex T.o T.i t F (hr.mono hk) b .nil pass0 hg T.g ha hd he hp
end
/-- the reading of a made error, behind its argument -/
theorem mk_at {K : PySem.W.Frag} {C : Addr} {H1 : Hp} {n : Int} {Q : XK} (To : OexC K C) (Tn : PySem.W.findIn K (.ref C) "at" = some none) (hs : Small n)
    (go : ∀ (d : Addr) (H2 : Hp), Same H1 H2 → H1 d = none → H2 d = some (.xd [(("at" : Str), .int n)]) → Q (.ref C) (some d) H2) :
    [V.int n].length ≤ 1000 ∧ ∀ a, H1 a = none → spInitAt K (.ref a :: ([V.int n] ++ [])) (upd H1 a (exo a C none))
      (fun v H2 => v = .non ∧ ∃ (d : Addr) (fs : List (Str × V)), H2 a = some (exo a C (some d)) ∧ H2 d = some (exd d fs) ∧ H1 d = none ∧ Q (.ref C) (some d) (upd (del H2 a) d (.xd fs))) (fun _ _ _ => False) := by
  refine ⟨(by show 1 ≤ 1000; decide), fun a na => ⟨a, C, n, rfl, To, Tn, hs, upd_same, fun dx ndx ne => ⟨rfl, dx, [(("at" : Str), V.int n)], upd_same, ?_, ?_, ?_⟩⟩⟩
  · rw [upd_ne ne, upd_same]
  · rw [upd_ne ne] at ndx
    exact ndx
  · rw [upd_ne ne] at ndx
    refine go dx _ (fun b o hb => ?_) ndx upd_same
    have b1 : b ≠ dx := ne_of_none hb ndx
    have b2 : b ≠ a := ne_of_none hb na
    rw [upd_ne b1, del_ne b2, upd_ne b2, upd_ne b1, upd_ne b2]
    exact hb
theorem wHds_skip {K : PySem.W.Frag} {Wo : WX} {D : Ends} {q : Value × Option Nat × Suite} {r : List (Value × Option Nat × Suite)} {c : Value} {d : Option Addr} {τ : L2.St} {G : Hp} (h : PySem.W.exmOne K c q.1 = some false)
    (go : wHds K Wo D r c d τ G) : wHds K Wo D (q :: r) c d τ G := ⟨false, h, (fun z => Bool.noConfusion z), fun _ => go⟩
theorem wHds_take {K : PySem.W.Frag} {Wo : WX} {D : Ends} {q : Value × Option Nat × Suite} {r : List (Value × Option Nat × Suite)} {c : Value} {d : Option Addr} {τ : L2.St} {G : Hp} (h : PySem.W.exmOne K c q.1 = some true)
    (go : ∀ a, G a = none → enter q.2.1 q.2.2 a c d D τ G) : wHds K Wo D (q :: r) c d τ G := ⟨true, h, (fun _ => go), (fun z => Bool.noConfusion z)⟩
theorem exm_of {K : PySem.W.Frag} {C D : Addr} {b : Bool} (h1 : PySem.W.subIn K (.ref D) (.type "BaseException") = some true) (h2 : PySem.W.isClsIn K D = true) (h3 : PySem.W.typeIn K (.ref D) = some (.type "type"))
    (h4 : PySem.W.subIn K (.ref C) (.ref D) = some b) : PySem.W.exmOne K (.ref C) (.ref D) = some b := by
  have c1 : (PySem.W.subIn K (.ref D) (.type "BaseException") == some true) = true := by rw [h1]; rfl
  have c2 : ((PySem.W.clsIn K D).isSome && PySem.W.typeIn K (.ref D) == some (.type "type")) = true := by
    have h2' : (PySem.W.clsIn K D).isSome = true := h2
    rw [h3, h2']; rfl
  unfold PySem.W.exmOne
  rw [if_pos c1]
  show (if ((PySem.W.clsIn K D).isSome && PySem.W.typeIn K (.ref D) == some (.type "type")) = true then PySem.W.subIn K (.ref C) (.ref D) else none) = some b
  rw [if_pos c2]
  exact h4
end SH
set_option Elab.async false
set_option linter.all false
set_option maxRecDepth 100000
set_option maxHeartbeats 4000000
namespace SH
open PySem PySem.Spec PyProof.Rows L2
/-! comprehensions whose steps only add to the heap: RL tells what the list made so far is -/
/-- all but what stands at D is as it was -/
def But (D : Addr) (H H' : Hp) : Prop := ∀ b o, b ≠ D → H b = some o → H' b = some o
theorem but_upd {D : Addr} {H : Hp} {o : HO} : But D H (upd H D o) := fun b x n e => by
  rw [upd_ne n]
  exact e
theorem but_tup {K : PySem.W.Frag} {D t : Addr} {H H' : Hp} {l xs : List V} (hD : H D = some (.lst l)) (e : But D H H') (h : SqT K H t xs) : SqT K H' t xs := by
  rcases h with h | h
  · rcases h with h | h
    · refine Or.inl (Or.inl (e _ _ (fun z => ?_) h))
      rw [z, hD] at h
      cases h
    · obtain ⟨o, h⟩ := h
      refine Or.inl (Or.inr ⟨o, e _ _ (fun z => ?_) h⟩)
      rw [z, hD] at h
      cases h
  · exact Or.inr h
theorem but_pairs {K : PySem.W.Frag} {D : Addr} {H H' : Hp} {l : List V} {L : PL} (hD : H D = some (.lst l)) (e : But D H H') (h : PairsAt K H L) : PairsAt K H' L := fun q hq => but_tup hD e (h q hq)
section
variable {J : It} {n : Nat} {G : Hp → Prop} {Y : Nat → Hp → V → Hp → Prop}
theorem lc_w (w : Walk J n G Y) {g : TG} {tt : TT} {te : TE} {vs : List Nat} {τ : L2.St} {H1 : Hp} {D : Addr} {Qd : Hp → Prop} (hD : H1 D = none) (hn : n ≤ 100000) (hG : ∀ H, Same H1 H → G H)
    (RL : Nat → List V → Hp → Prop) (h0 : ∀ H, Same H1 H → RL 0 [] H) (mono : ∀ i acc H H' l, H D = some (.lst l) → But D H H' → RL i acc H → RL i acc H')
    (hY : ∀ i H x H', Y i H x H' → Same H H')
    (hs : ∀ (i : Nat) (x : V) (acc : List V) (H H' : Hp) (Qn : VK) (Qf : Hp → Prop), i < n → Same H1 H' → Y i H x H' → RL i acc H' → H' D = some (.lst acc) → (∀ y H4, Same H' H4 → RL (i + 1) (acc ++ [y]) H4 → Qn y H4) → (∀ H3, Same H' H3 → RL (i + 1) acc H3 → Qf H3) →
      g x (wipe τ vs) H' fun τ2 H2 => wipe τ2 vs = wipe τ vs ∧ tt τ2 H2 fun b H3 => if b = true then te τ2 H3 Qn else Qf H3)
    (hd : ∀ acc H, Same H1 H → H D = some (.lst acc) → acc.length ≤ n → RL n acc H → Qd H) :
    ∃ W : Nat → Nat → Hp → Prop, (∃ m, W 0 m (upd H1 D (.lst []))) ∧ ∀ i m H, W i m H →
      (J.stop i H ∧ Qd H) ∨ (J.go i H ∧ ∃ Nx : Hp → Prop, (∀ H', Nx H' → ∃ m', m' < m ∧ W (i + 1) m' H') ∧ ∀ x H', J.yld i H x H' → g x (wipe τ vs) H' fun τ2 H2 => wipe τ2 vs = wipe τ vs ∧ tt τ2 H2 fun b H3 =>
        if b = true then te τ2 H3 fun y H4 => ∃ acc, H4 D = some (.lst acc) ∧ acc.length < sizeLine ∧ Nx (upd H4 D (.lst (acc ++ [y]))) else Nx H3) := by
  refine lc_it w (fun i H => ∃ acc, Same H1 H ∧ H D = some (.lst acc) ∧ acc.length ≤ i ∧ RL i acc H) ⟨[], same_new hD, upd_same, Nat.le_refl _, h0 _ (same_new hD)⟩ (fun i H _ p => ?_) (fun i x H H' hi p y => ?_) (fun H p => ?_)
  · obtain ⟨acc, e, _⟩ := p
    exact hG H e
  · obtain ⟨acc, e, at_, hl, r⟩ := p
    have e1 := hY i H x H' y
    have at1 := e1 _ _ at_
    refine hs i x acc H H' _ _ hi (e.trans e1) y (mono i acc H H' acc at_ (fun b o _ h => e1 b o h) r) at1 (fun z H4 e2 r2 => ?_) (fun H3 e2 r2 => ?_)
    · have at2 := e2 _ _ at1
      refine ⟨acc, at2, Nat.lt_of_le_of_lt (Nat.le_trans hl (Nat.le_of_lt (Nat.lt_of_lt_of_le hi hn))) (by decide), acc ++ [z], same_mut ((e.trans e1).trans e2) hD, upd_same, by simp; omega, mono _ _ H4 _ acc at2 but_upd r2⟩
    · exact ⟨acc, (e.trans e1).trans e2, e2 _ _ at1, by omega, r2⟩
  · obtain ⟨acc, e, at_, hl, r⟩ := p
    exact hd acc H e at_ hl r
end
/-! ### numbers and texts -/
theorem lt1 (c d : Nat) : decide (([c] : List Nat) < [d]) = decide (c < d) := by
  by_cases h : c < d
  · rw [decide_eq_true h]
    exact decide_eq_true (List.Lex.rel h)
  · rw [decide_eq_false h]
    refine decide_eq_false fun z => ?_
    cases z with
    | rel q => exact h q
    | cons q => cases q
/-- a text of the document: not too long, of letters -/
def isTxt (z : Str) : Bool := decide (z.length ≤ 40) && z.cps.toList.all okc
/-- a house of the document, behind a number -/
def chk (before : Int) : List (Int × Str) → Bool
  | [] => true
  | q :: r => decide (before < q.1) && decide (q.1 ≤ 99) && isTxt q.2 && chk q.1 r
def isH (h : List (Int × Str)) : Bool := decide (h.length ≤ 8) && chk (-1) h
theorem chk_of {m : Nat} (hm : m ≤ 40) : ∀ (h : List (Int × Str)) (b : Int), (∀ q ∈ h, b < q.1) → IsHs m h → chk b h = true
  | [], _, _, _ => rfl
  | q :: r, b, hb, a => by
    have t := a.txt q (List.mem_cons_self ..)
    have n := a.num q (List.mem_cons_self ..)
    have asc := a.asc
    rw [List.map_cons, List.pairwise_cons] at asc
    have ih := chk_of hm r q.1 (fun x hx => asc.1 x.1 (List.mem_map_of_mem hx)) ⟨asc.2, fun x hx => a.num x (List.mem_cons_of_mem _ hx), fun x hx => a.txt x (List.mem_cons_of_mem _ hx)⟩
    show (decide (b < q.1) && decide (q.1 ≤ 99) && isTxt q.2 && chk q.1 r) = true
    have e1 := hb q (List.mem_cons_self ..)
    have e2 : isTxt q.2 = true := by
      unfold isTxt
      rw [decide_eq_true (Nat.le_trans t.2 hm)]
      exact t.1
    rw [ih, e2, decide_eq_true e1, decide_eq_true n.2]
    rfl
end SH
set_option Elab.async false
set_option linter.all false
set_option maxRecDepth 100000
set_option maxHeartbeats 4000000
/-! sorted(xs), xs a list of pairs of a number and a text; pairs with one number have one text -/
namespace SH
open PySem PySem.Spec PyProof.Rows L2
def NT (h : Heap) (v : Value) (p : Int × Str) : Prop := ∃ (a : Addr) (o : Obj) (t u : Tok) (c : Nat), v = .ref a ∧ h.get? a = some o ∧ o.cls = .type "tuple" ∧ o.data = .seq #[.int p.1 t, .str p.2 u] c
theorem NT.on {h h' : Heap} {v : Value} {p : Int × Str} (x : NT h v p) (k : ∀ b o, h.get? b = some o → o.cls = .type "tuple" → h'.get? b = some o) : NT h' v p := by
  obtain ⟨a, o, t, u, c, rfl, g, q, r⟩ := x
  exact ⟨a, o, t, u, c, rfl, k a o g q, q, r⟩
theorem nt_firsts {h : Heap} {k : Value → Int × Str} : ∀ (vs : List Value), (∀ v ∈ vs, NT h v (k v)) → ∃ fs, PySem.W.KatTups h vs fs ∧ fs.length = vs.length ∧ ∀ f ∈ fs, ∃ n t, f = Value.int n t
  | [], _ => ⟨[], PySem.W.KatTups.nil, rfl, fun _ m => nomatch m⟩
  | v :: r, x => by
    obtain ⟨fs, k1, k2, k3⟩ := nt_firsts r (fun u m => x u (List.mem_cons_of_mem _ m))
    obtain ⟨a, o, t, u, c, rfl, g, q, d⟩ := x v (List.mem_cons_self ..)
    refine ⟨_, PySem.W.KatTups.cons g q d rfl k1, by simp [k2], fun f m => ?_⟩
    rcases List.mem_cons.mp m with e | m
    · exact ⟨_, _, e⟩
    · exact k3 f m
def ltN (k : Value → Int × Str) (v u : Value) : Bool := decide ((k v).1 < (k u).1)
theorem ltN_swo (k : Value → Int × Str) : SrtO.Swo (ltN k) :=
  ⟨fun x y h => decide_eq_false (by have := of_decide_eq_true h; omega), fun x y z h1 h2 => decide_eq_false (by have a := of_decide_eq_false h1; have b := of_decide_eq_false h2; omega)⟩
section
variable {prog : Program} {w : World} {A : Around} {s : Shared}
theorem nt_cmp {vs : List Value} {k : Value → Int × Str} (hp : ∀ v ∈ vs, NT s.heap v (k v)) (one : ∀ v ∈ vs, ∀ u ∈ vs, (k v).1 = (k u).1 → (k v).2 = (k u).2) :
    SrtO.Cmp prog w A s (tuples' true) (fun p => p.1 ∈ vs) (SrtO.lt2 (ltN k)) := by
  rintro ⟨x, kx⟩ ⟨y, ky⟩ mp mq
  have same := one _ mp _ mq
  show wpAny (model prog w) A (keyLt' (tuples' true) x y) (fun r s' => s' = s ∧ r = decide ((k x).1 < (k y).1)) (fun _ _ => False) s
  obtain ⟨a, o, t, u, c, e, g, cl, d⟩ := hp _ mp
  obtain ⟨a', o', t', u', c', e', g', cl', d'⟩ := hp _ mq
  have ex : x = .ref a := e
  have ey : y = .ref a' := e'
  subst ex ey
  refine PySem.W.kat_lt g d g' d' (PySem.W.kat_cons (SeqAt.EqAt.int_int _ t _ t' prog w _ _ (PySem.W.kat_go (fun e1 => ?_) (fun e1 => ?_))))
  · have en : (k (.ref a)).1 = (k (.ref a')).1 := by simpa using e1
    have ez := same en
    refine PySem.W.kat_yes (PySem.W.kat_cons (SeqAt.EqAt.str_str _ u _ u' prog w _ _ (PySem.W.kat_go (fun _ => ?_) (fun e2 => ?_))))
    · refine PySem.W.kat_yes (PySem.W.kat_nil ⟨rfl, ?_⟩)
      rw [en]
      simp
    · rw [ez] at e2
      simp at e2
  · exact PySem.W.kat_no (oneLt_int ⟨rfl, rfl⟩)
theorem nt_sortable {a : Addr} {vs : List Value} {k : Value → Int × Str} (h0 : 0 < vs.length) (hp : ∀ v ∈ vs, NT s.heap v (k v)) (one : ∀ v ∈ vs, ∀ u ∈ vs, (k v).1 = (k u).1 → (k v).2 = (k u).2)
    (ha : ∀ o, s.heap.get? a = some o → o.cls ≠ .type "tuple") : SrtO.SortableO prog w A s a vs (ltN k) := by
  intro h' keep
  have hp' : ∀ v ∈ vs, NT h' v (k v) := fun v m => (hp v m).on fun b o g c => keep b o (fun z => ha o (z ▸ g) c) g
  obtain ⟨fs, f1, f2, f3⟩ := nt_firsts vs hp'
  refine ⟨tuples' true, fun Q E q => PySem.W.kat_kind (T := .type "int") f1 (by omega) (fun f m => ?_) (by rfl) ?_, nt_cmp hp' one⟩
  · obtain ⟨n, t, rfl⟩ := f3 f m
    exact PySem.W.Looks.now
  · have e : (Value.type "int" != Value.type "tuple") = true := by first | decide +kernel | rfl
    rw [e]
    exact q
end
/-- sorted(xs): a new list of the same pairs, by their numbers -/
def rSortNT (K : PySem.W.Frag) : List V → Hp → VK → Prop := fun vs H Q => ∃ (a : Addr) (L : PL), vs = [.ref a] ∧ HsAt K H a L ∧ (∀ q ∈ L, ∀ r ∈ L, q.2.1 = r.2.1 → q.2.2 = r.2.2) ∧
  ∀ (L' : PL) (p : Addr), L'.Perm L → L'.Pairwise (fun q r => q.2.1 ≤ r.2.1) → H p = none → Q (.ref p) (upd H p (.lst (refs L')))
/-- what stands at the address in a list of pairs -/
def atAddr (L : PL) (v : Value) : Int × Str := match v with
  | .ref a => match L.find? (fun q => q.1 == a) with
    | some q => q.2
    | none => (0, "")
  | _ => (0, "")
def addrOf : Value → Addr
  | .ref a => a
  | _ => 0
theorem atAddr_of {L : PL} (un : ∀ q ∈ L, ∀ r ∈ L, q.1 = r.1 → q.2 = r.2) {q : Addr × Int × Str} (hq : q ∈ L) : atAddr L (.ref q.1) = q.2 := by
  show (match L.find? (fun r => r.1 == q.1) with | some r => r.2 | none => (0, "")) = q.2
  cases e : L.find? (fun r => r.1 == q.1) with
  | some r =>
    have h1 := List.mem_of_find?_eq_some e
    have h2 := List.find?_some e
    exact un r h1 q hq (by simpa using h2)
  | none =>
    have := List.find?_eq_none.mp e q hq
    simp at this
section
variable {X : Cx}
theorem cr_sortNT : CallR X (.builtin "sorted") (rSortNT X.K) := by
  intro pins s τ H vs us Q I r h
  obtain ⟨a, L, rfl, hA, one, q⟩ := h
  obtain ⟨its, rv, hl, hz⟩ := I.list hA.1
  obtain ⟨u, rfl, ru⟩ := vals1 r
  obtain rfl : u = Value.ref a := ru
  obtain ⟨e1, e2⟩ := refs_back rv (fun x m => by
    obtain ⟨q, _, e⟩ := List.mem_map.mp m
    exact ⟨q.1, e.symm⟩)
  -- one address, one pair
  have un : ∀ q ∈ L, ∀ r ∈ L, q.1 = r.1 → q.2 = r.2 := fun q hq r hr e => by
    have z := I.tuple_inj (hA.2 q hq) (by rw [e]; exact hA.2 r hr)
    obtain ⟨x, n, t⟩ := q
    obtain ⟨y, m, t'⟩ := r
    simp at z
    show (n, t) = (m, t')
    rw [z.1, z.2]
  have mem : ∀ v ∈ its, ∃ q ∈ L, v = Value.ref q.1 := fun v hv => by
    obtain ⟨t, rfl⟩ := e2 v hv
    have m : V.ref t ∈ refs L := by
      rw [e1]
      exact List.mem_map.mpr ⟨_, hv, rfl⟩
    obtain ⟨q, hq, e⟩ := List.mem_map.mp m
    cases e
    exact ⟨q, hq, rfl⟩
  have nt : ∀ v ∈ its, NT s.heap v (atAddr L v) := fun v hv => by
    obtain ⟨q, hq, rfl⟩ := mem v hv
    rw [atAddr_of un hq]
    obtain ⟨i2, r2, ⟨o, g, c, n, d⟩, _⟩ := I.tuple (hA.2 q hq)
    obtain ⟨u1, u2, rfl, ⟨t1, rfl⟩, ⟨t2, rfl⟩⟩ := vals2 r2
    exact ⟨q.1, o, t1, t2, n, rfl, g, c, d⟩
  have one' : ∀ v ∈ its, ∀ u ∈ its, (atAddr L v).1 = (atAddr L u).1 → (atAddr L v).2 = (atAddr L u).2 := fun v hv u hu => by
    obtain ⟨q, hq, rfl⟩ := mem v hv
    obtain ⟨r, hr, rfl⟩ := mem u hu
    rw [atAddr_of un hq, atAddr_of un hr]
    exact one q hq r hr
  refine SrtO.sorted_ord (ltN_swo (atAddr L)) hl.isList (by rw [← rv.length]; exact hz) (fun h2 h₁ b hb kk => ?_) (fun out hs hb => ?_)
  · refine nt_sortable (s := { s with heap := h₁ }) (by omega) (fun v m => (nt v m).on fun c o g _ => (kk c o g).2) one' (fun o g c => ?_)
    have g' : some o = some (seqObj "list" its.toArray 0) := g.symm.trans hb
    cases g'
    exact absurd (Value.type.inj c) (by decide)
  · have mo : ∀ v ∈ out, ∃ q ∈ L, v = Value.ref q.1 := fun v hv => mem v (hb.perm.mem_iff.mp hv)
    -- the pairs in their new order
    let f : Value → Addr × Int × Str := fun v => (addrOf v, atAddr L v)
    have fq : ∀ q ∈ L, f (.ref q.1) = q := fun q hq => by
      show (q.1, atAddr L (.ref q.1)) = q
      rw [atAddr_of un hq]
    have hL : its.map f = L := by
      have z : (refs L).map (fun v => match v with | .ref t => f (.ref t) | _ => (0, 0, "")) = L := by
        unfold refs
        rw [List.map_map]
        calc L.map _ = L.map id := List.map_congr_left fun q hq => fq q hq
          _ = L := List.map_id L
      rw [e1, List.map_map] at z
      refine Eq.trans (List.map_congr_left fun v hv => ?_) z
      obtain ⟨q, _, rfl⟩ := mem v hv
      rfl
    have hp : (out.map f).Perm L := by
      rw [← hL]
      exact hb.perm.map f
    have hr : refs (out.map f) = out.map backV := by
      unfold refs
      rw [List.map_map]
      refine List.map_congr_left fun v hv => ?_
      obtain ⟨q, _, rfl⟩ := mo v hv
      rfl
    have hsrt : (out.map f).Pairwise (fun q r => q.2.1 ≤ r.2.1) := by
      rw [List.pairwise_map]
      refine List.Pairwise.imp (fun {x y} h => ?_) hs
      have := of_decide_eq_false h
      show (atAddr L x).1 ≤ (atAddr L y).1
      omega
    obtain ⟨n, hn⟩ := sortedAll_at s.heap its out.toArray
    have hd : s.heap.objs.size ≤ s.heap.objs.size + 1 := Nat.le_succ _
    refine ⟨.ref (s.heap.objs.size + 1), upd H (s.heap.objs.size + 1) (.lst (refs (out.map f))), I.laid (t' := s.toks) (fun b o g => sortedAll_old g) hd ⟨?_, out, n, ?_, hn⟩, rfl, q _ _ hp hsrt (I.hok.fresh hd)⟩
    · have e3 : (refs (out.map f)).length = (refs L).length := by
        unfold refs
        rw [List.length_map, List.length_map (as := L), hp.length_eq]
      rw [e3]
      exact hz
    · rw [hr]
      exact vals_back fun v hv => by
        obtain ⟨q, _, rfl⟩ := mo v hv
        exact ⟨q.1, rfl⟩
end
end SH
set_option Elab.async false
set_option linter.all false
set_option maxRecDepth 100000
set_option maxHeartbeats 4000000
/-! houses as data, compared -/
namespace SH
open PySem PySem.Spec PyProof.Rows L2
def dPair (q : Int × Str) : PyData := .tuple [.int q.1, .str q.2]
def dH (h : List (Int × Str)) : PyData := .list (h.map dPair)
theorem dp_refs {K : PySem.W.Frag} {H : Hp} : ∀ (L : PL), PairsAt K H L → DpAll K H (refs L) (L.map fun q => dPair q.2)
  | [], _ => .nil
  | q :: r, h => .cons (.tup (h q (List.mem_cons_self ..)) (.cons (.int _) (.cons (.str _) .nil))) (dp_refs r fun x m => h x (List.mem_cons_of_mem _ m))
theorem dp_house {K : PySem.W.Frag} {H : Hp} {a : Addr} {L : PL} (h : HsAt K H a L) : Dp K H (.ref a) (dH (L.map (·.2))) := by
  refine .lst h.1 ?_
  rw [List.map_map]
  exact dp_refs L h.2
theorem okc_lt {c : Nat} (h : okc c = true) : c < 127 := by
  unfold okc at h
  simp at h
  omega
theorem let_ok {z : Str} (h : IsLet z) : PyData.strOk z = true := by
  unfold PyData.strOk
  rw [← Array.all_toList]
  refine List.all_eq_true.mpr fun c hc => ?_
  have := okc_lt (List.all_eq_true.mp h c hc)
  exact decide_eq_true (by omega)
def LetAll (h : List (Int × Str)) : Prop := ∀ q ∈ h, IsLet q.2
theorem dH_lay : ∀ {h : List (Int × Str)}, LetAll h → PyData.canLayAll0 (h.map dPair) = true
  | [], _ => rfl
  | q :: r, a => by
    rw [List.map_cons, PyData.canLayAll0, dH_lay fun x m => a x (List.mem_cons_of_mem _ m)]
    simp [dPair, PyData.canLay0, PyData.canLayAll0, let_ok (a q (List.mem_cons_self ..))]
theorem dH_deep : ∀ (h : List (Int × Str)), PyData.depthAll (h.map dPair) ≤ 1
  | [] => Nat.zero_le _
  | q :: r => by
    rw [List.map_cons, PyData.depthAll]
    have := dH_deep r
    have e : PyData.depth (dPair q) = 1 := rfl
    rw [e]
    omega
theorem dH_shaped {h : List (Int × Str)} (a : LetAll h) : SeqAt.shaped (dH h) = true := by
  unfold SeqAt.shaped
  have e1 : (dH h).canLay0 = true := dH_lay a
  have e2 : (dH h).depth ≤ 64 := by
    show PyData.depthAll (h.map dPair) + 1 ≤ 64
    have := dH_deep h
    omega
  rw [e1, decide_eq_true e2]
  rfl
theorem dH_refl {h : List (Int × Str)} (a : LetAll h) : PyData.eqv (dH h) (dH h) = true := SeqAt.eqv_refl _ (show (dH h).canLay0 = true from dH_lay a)
/-- what is told or due: a tag and a thing -/
def dT (p : Str × PyData) : PyData := .tuple [.str p.1, p.2]
theorem dT_shaped {p : Str × PyData} (h1 : PyData.strOk p.1 = true) (h2 : p.2.canLay0 = true) (h3 : p.2.depth ≤ 60) : SeqAt.shaped (dT p) = true ∧ PyData.eqv (dT p) (dT p) = true := by
  have e1 : (dT p).canLay0 = true := by
    show (PyData.strOk p.1 && (p.2.canLay0 && true)) = true
    rw [h1, h2]
    rfl
  have e2 : (dT p).depth ≤ 64 := by
    show max 0 (max p.2.depth 0) + 1 ≤ 64
    omega
  refine ⟨?_, SeqAt.eqv_refl _ e1⟩
  unfold SeqAt.shaped
  rw [e1, decide_eq_true e2]
  rfl
theorem dH_depth (h : List (Int × Str)) : (dH h).depth ≤ 60 := by
  show PyData.depthAll (h.map dPair) + 1 ≤ 60
  have := dH_deep h
  omega
theorem isTxt_let {z : Str} (h : isTxt z = true) : IsLet z := by
  unfold isTxt at h
  exact (Bool.and_eq_true_iff.mp h).2
theorem IsHs.letAll {m : Nat} {h : List (Int × Str)} (a : IsHs m h) : LetAll h := fun q hq => (a.txt q hq).1
theorem LetAll.filter {h : List (Int × Str)} (a : LetAll h) (p : Int × Str → Bool) : LetAll (h.filter p) := fun q hq => a q (List.mem_filter.mp hq).1
theorem LetAll.app {h k : List (Int × Str)} (a : LetAll h) (b : LetAll k) : LetAll (h ++ k) := fun q hq => (List.mem_append.mp hq).elim (a q) (b q)
theorem letAll_ins {n : Int} {z : Str} {h : List (Int × Str)} (a : LetAll h) (b : IsLet z) : LetAll (h.filter (fun q => decide (q.1 < n)) ++ [(n, z)] ++ h.filter (fun q => decide (n < q.1))) :=
  ((a.filter _).app fun q hq => by rw [List.mem_singleton.mp hq]; exact b).app (a.filter _)
/-! a house that is none -/
theorem chk_true : ∀ {h : List (Int × Str)} {b : Int}, chk b h = true → (h.map (·.1)).Pairwise (· < ·) ∧ (∀ q ∈ h, b < q.1 ∧ q.1 ≤ 99 ∧ isTxt q.2 = true)
  | [], _, _ => ⟨List.Pairwise.nil, fun q hq => nomatch hq⟩
  | q :: r, b, h => by
    have h' : (decide (b < q.1) && decide (q.1 ≤ 99) && isTxt q.2 && chk q.1 r) = true := h
    simp only [Bool.and_eq_true, decide_eq_true_eq] at h'
    obtain ⟨⟨⟨h1, h2⟩, h3⟩, h4⟩ := h'
    obtain ⟨i1, i2⟩ := chk_true h4
    refine ⟨?_, fun x hx => ?_⟩
    · rw [List.map_cons, List.pairwise_cons]
      refine ⟨fun y hy => ?_, i1⟩
      obtain ⟨z, hz, rfl⟩ := List.mem_map.mp hy
      exact (i2 z hz).1
    · rcases List.mem_cons.mp hx with e | m
      · rw [e]; exact ⟨h1, h2, h3⟩
      · have := i2 x m
        exact ⟨by omega, this.2⟩
theorem isH_false {h : List (Int × Str)} (no : ¬ (h.length ≤ 8 ∧ (h.map (·.1)).Pairwise (· < ·) ∧ ∀ q ∈ h, -1 < q.1 ∧ q.1 ≤ 99 ∧ isTxt q.2 = true)) : isH h = false := by
  cases e : isH h with
  | false => rfl
  | true =>
    unfold isH at e
    obtain ⟨e1, e2⟩ := Bool.and_eq_true_iff.mp e
    exact absurd ⟨of_decide_eq_true e1, chk_true e2⟩ no
/-! ### a house filtered, pair by pair -/
theorem refs_get {L : PL} {i : Nat} {x : V} (h : (refs L)[i]? = some x) : ∃ t, L[i]? = some t ∧ t ∈ L ∧ x = .ref t.1 := by
  unfold refs at h
  rw [List.getElem?_map] at h
  cases e : L[i]? with
  | none => rw [e] at h; cases h
  | some t =>
    rw [e] at h
    cases h
    exact ⟨t, rfl, List.mem_of_getElem? e, rfl⟩
theorem lc_filter {K : PySem.W.Frag} {a : Addr} {L : PL} {g : TG} {tt : TT} {te : TE} {vs : List Nat} {τ : L2.St} {H1 : Hp} {D : Addr} {Qd : Hp → Prop} (hD : H1 D = none) (hA : HsAt K H1 a L) (hl : L.length ≤ 1000) (p : Addr × Int × Str → Bool)
    (hs : ∀ (q : Addr × Int × Str) (H' : Hp) (Qn : VK) (Qf : Hp → Prop), q ∈ L → Same H1 H' → (p q = true → Qn (.ref q.1) H') → (p q = false → Qf H') →
      g (.ref q.1) (wipe τ vs) H' fun τ2 H2 => wipe τ2 vs = wipe τ vs ∧ tt τ2 H2 fun b H3 => if b = true then te τ2 H3 Qn else Qf H3)
    (hd : ∀ H, Same H1 H → H D = some (.lst (refs (L.filter p))) → Qd H) :
    ∃ W : Nat → Nat → Hp → Prop, (∃ m, W 0 m (upd H1 D (.lst []))) ∧ ∀ i m H, W i m H →
      ((Itl K a).stop i H ∧ Qd H) ∨ ((Itl K a).go i H ∧ ∃ Nx : Hp → Prop, (∀ H', Nx H' → ∃ m', m' < m ∧ W (i + 1) m' H') ∧ ∀ x H', (Itl K a).yld i H x H' → g x (wipe τ vs) H' fun τ2 H2 => wipe τ2 vs = wipe τ vs ∧ tt τ2 H2 fun b H3 =>
        if b = true then te τ2 H3 fun y H4 => ∃ acc, H4 D = some (.lst acc) ∧ acc.length < sizeLine ∧ Nx (upd H4 D (.lst (acc ++ [y]))) else Nx H3) := by
  have rl : (refs L).length = L.length := List.length_map ..
  refine lc_w (walk_list (xs := refs L)) hD (by omega) (fun H' e => e.seq hA.1) (fun i acc _ => acc = refs ((L.take i).filter p)) (fun _ _ => rfl) (fun _ _ _ _ _ _ _ r => r) (fun i H x H' y => by rw [y.1]; exact Same.refl _)
    (fun i x acc H2 H3 Qn Qf hi sm y r at_ kn kf => ?_) (fun acc H2 sm at_ _ r => ?_)
  · obtain ⟨rfl, hx⟩ := y
    obtain ⟨t, ht, tm, rfl⟩ := refs_get hx
    refine hs t _ Qn Qf tm sm (fun e => kn _ _ (Same.refl _) ?_) (fun e => kf _ (Same.refl _) ?_)
    · rw [r, List.take_add_one, ht, List.filter_append]
      show _ = refs (_ ++ [t].filter p)
      rw [List.filter_cons_of_pos e]
      unfold refs
      rw [List.map_append]
      rfl
    · rw [r, List.take_add_one, ht, List.filter_append]
      show _ = refs (_ ++ [t].filter p)
      rw [List.filter_cons_of_neg (by rw [e]; decide), List.filter_nil, List.append_nil]
  · refine hd H2 sm ?_
    rw [at_, r, List.take_of_length_le (by omega)]
theorem HsAt.filter {K : PySem.W.Frag} {H : Hp} {L : PL} (h : PairsAt K H L) (p : Addr × Int × Str → Bool) : PairsAt K H (L.filter p) := fun q hq => h q (List.mem_filter.mp hq).1
theorem map_filter (L : PL) (p : Int × Str → Bool) : (L.filter fun q => p q.2).map (·.2) = (L.map (·.2)).filter p := by
  rw [List.filter_map]
  rfl
mutual
theorem dp_same {K : PySem.W.Frag} {H H' : Hp} (e : Same H H') : ∀ {d : PyData} {v : V}, Dp K H v d → Dp K H' v d
  | .none, _, h => by cases h; exact .non
  | .bool _, _, h => by cases h; exact .bl _
  | .int _, _, h => by cases h; exact .int _
  | .str _, _, h => by cases h; exact .str _
  | .list ds, _, h => by
    cases h with
    | lst s a => exact .lst (e.seq s) (dp_all_same e a)
  | .tuple ds, _, h => by
    cases h with
    | tup s a => exact .tup (same_tup e s) (dp_all_same e a)
  | .dict _, _, h => by cases h
theorem dp_all_same {K : PySem.W.Frag} {H H' : Hp} (e : Same H H') : ∀ {ds : List PyData} {vs : List V}, DpAll K H vs ds → DpAll K H' vs ds
  | [], _, h => by cases h; exact .nil
  | d :: ds, _, h => by
    cases h with
    | cons a b => exact .cons (dp_same e a) (dp_all_same e b)
end
/-! ### slices, texts of one letter joined -/
theorem cut_to (xs : List V) (k : Nat) : cutV xs none (some (k : Int)) = xs.take k := by
  unfold cutV
  rw [HT.sIx_none, HT.sIx_nat, List.drop_zero, Nat.sub_zero]
  rcases Nat.le_total k xs.length with h | h
  · rw [Nat.min_eq_left h]
  · rw [Nat.min_eq_right h, List.take_length, List.take_of_length_le h]
theorem joinL_len : ∀ (n c : Nat), (TL.joinL [] (List.replicate n [c])).length = n
  | 0, _ => rfl
  | 1, _ => rfl
  | n + 2, c => by
    show ([c] ++ ([] ++ TL.joinL [] (List.replicate (n + 1) [c]))).length = n + 2
    rw [List.nil_append, List.length_append, joinL_len (n + 1) c]
    show 1 + (n + 1) = n + 2
    omega
theorem join_len {n c : Nat} : (Txt.join "" (List.replicate n (⟨#[c]⟩ : Str))).length = n := by
  have e : (Txt.join "" (List.replicate n (⟨#[c]⟩ : Str))).cps.toList = TL.joinL [] (List.replicate n [c]) := by
    rw [TL.join_eq]
    refine (TL.tl_join "" _).trans ?_
    rw [List.map_replicate]
    rfl
  have e2 := congrArg List.length e
  rw [joinL_len] at e2
  exact e2
theorem joinL_mem {x : Nat} : ∀ (n c : Nat), x ∈ TL.joinL [] (List.replicate n [c]) → x = c
  | 0, _, h => by cases h
  | 1, _, h => by simpa [TL.joinL] using h
  | n + 2, c, h => by
    have h' : x ∈ [c] ++ ([] ++ TL.joinL [] (List.replicate (n + 1) [c])) := h
    rw [List.nil_append] at h'
    rcases List.mem_append.mp h' with m | m
    · exact List.mem_singleton.mp m
    · exact joinL_mem (n + 1) c m
theorem join_mem {n c x : Nat} (h : x ∈ (Txt.join "" (List.replicate n (⟨#[c]⟩ : Str))).cps.toList) : x = c := by
  have e : (Txt.join "" (List.replicate n (⟨#[c]⟩ : Str))).cps.toList = TL.joinL [] (List.replicate n [c]) := by
    rw [TL.join_eq]
    refine (TL.tl_join "" _).trans ?_
    rw [List.map_replicate]
    rfl
  rw [e] at h
  exact joinL_mem n c h
theorem isTxt_long {z : Str} (h : 40 < z.length) : isTxt z = false := by
  unfold isTxt
  rw [decide_eq_false (by omega)]
  rfl
theorem isTxt_line {z : Str} (h : 10 ∈ z.cps.toList) : isTxt z = false := by
  unfold isTxt
  have : z.cps.toList.all okc = false := by
    cases e : z.cps.toList.all okc with
    | false => rfl
    | true => exact absurd (List.all_eq_true.mp e 10 h) (by decide)
  rw [this, Bool.and_false]
end SH
set_option Elab.async false
set_option linter.all false
set_option maxRecDepth 100000
set_option maxHeartbeats 4000000
/-! own classes: their methods, a new instance -/
namespace SH
open PySem PySem.Spec PyProof.Rows L2
/-- a method as it stands -/
structure DdM (K : PySem.W.Frag) (C : Addr) (m qual : Str) (st : Stmt) (ps : List Str) : Prop where
  ex : ∃ (f : Addr) (fd : FuncData), Fun K m qual st f fd ∧ Meth K C m f ∧ Binds K fd ps []
structure DdMk (K : PySem.W.Frag) (C : Addr) (m qual : Str) (st : Stmt) (ps : List Str) : Prop where
  ex : ∃ (f : Addr) (fd : FuncData), Fun K m qual st f fd ∧ Mk K C f ∧ Binds K fd ps []
/-- e.f, the frame said -/
theorem pe_fldK {X : Cx} {K : PySem.W.Frag} {e : Expr} {f : Str} {pos : Pos} {ta : TE} (he : PE X e ta) (hb : attributeBase e f X.env (eval e X.env) = eval e X.env) (h : X.K = K := by rfl) : PE X (.Attribute e f pos) (tFld K ta f) := h ▸ pe_fld he hb
theorem cr_sortedPOK {X : Cx} {K : PySem.W.Frag} (h : X.K = K := by rfl) : CallR X (.builtin "sorted") (rSortedPO K) := h ▸ cr_sortedPO
theorem pi_listK {X : Cx} {K : PySem.W.Frag} {tg e : Expr} {te : TE} (he : PE X e te) (h : X.K = K := by rfl) : PI X tg e (iList K te) := h ▸ pi_list he
section
variable {P : Program} {w : World} {K : PySem.W.Frag} {mg : Str → Option Value} {base : Heap}
theorem met_of {C : Addr} {m qual : Str} {st : Stmt} {ps N : List Str} {k : Nat} {sp : Sp} (D : DdM K C m qual st ps) (c : Cls K C) (S : FnScope N ps (defScope st)) (len : ∀ vs H Q E, sp vs H Q E → vs.length = ps.length)
    (hbody : ∀ (f : Addr) (cdv : Value) (A : Around) (outer : List Env) (s : Shared) (H : Hp) (vs : List V) (Q : VK) (E : XK), Room k (A.deeper (envOfC qual (defScope st) s.heap.objs.size f cdv)) → sp vs H Q E →
      ∃ t, PSs (cxOf CX0 P w K mg base N qual (defScope st) f cdv A outer s H E).nox (defBody st) t ∧ t { nx := fun _ H' => Q .non H', rt := Q } (start N vs) H) : C8.Met P w K mg base (k + 1) C m sp [] := by
  obtain ⟨f, fd, F, me, b⟩ := D.ex
  exact ⟨f, fd, ps, [], c, me, F.ok S len (fun cdv A outer s H vs Q E hr h => hbody f cdv A outer s H vs Q E hr h), b, .nil⟩
theorem mak_of {x : Str} {C : Addr} {m qual : Str} {st : Stmt} {ps N : List Str} {k : Nat} {sp : Sp} (D : DdMk K C m qual st ps) (hm : mg x = some (.ref C)) (S : FnScope N ps (defScope st)) (len : ∀ vs H Q E, sp vs H Q E → vs.length = ps.length)
    (hbody : ∀ (f : Addr) (cdv : Value) (A : Around) (outer : List Env) (s : Shared) (H : Hp) (vs : List V) (Q : VK) (E : XK), Room k (A.deeper (envOfC qual (defScope st) s.heap.objs.size f cdv)) → sp vs H Q E →
      ∃ t, PSs (cxOf CX0 P w K mg base N qual (defScope st) f cdv A outer s H E).nox (defBody st) t ∧ t { nx := fun _ H' => Q .non H', rt := Q } (start N vs) H) : C8.Mak P w K mg base (k + 1) x C sp [] := by
  obtain ⟨f, fd, F, me, b⟩ := D.ex
  exact ⟨f, fd, ps, [], me, F.ok S len (fun cdv A outer s H vs Q E hr h => hbody f cdv A outer s H vs Q E hr h), hm, b, .nil⟩
end
end SH
set_option Elab.async false
set_option linter.all false
set_option maxRecDepth 100000
set_option maxHeartbeats 4000000
/-! sorted(xs) of any data; triples of a text, a number and a start -/
namespace SH
open PySem PySem.Spec PyProof.Rows L2
section
variable {α : Type}
theorem each_of_vals : ∀ {Z : List (V × α)} {its : List Value}, Vals (Z.map (·.1)) its → PySem.W.EachIs (fun v z => RelV z.1 v) its Z
  | [], _, .nil => .nil
  | _ :: _, _, .cons r t => .cons r (each_of_vals t)
theorem vals_of_each : ∀ {Z : List (V × α)} {its : List Value}, PySem.W.EachIs (fun v z => RelV z.1 v) its Z → Vals (Z.map (·.1)) its
  | _, _, .nil => .nil
  | _, _, .cons r t => .cons r (vals_of_each t)
end
/-- sorted(xs): a new list of the same things, by what they read as -/
def rSortD (K : PySem.W.Frag) : List V → Hp → VK → Prop := fun vs H Q => ∃ (α : Type) (enc : α → PyData) (a : Addr) (Z : List (V × α)), vs = [.ref a] ∧ SqL K H a (Z.map (·.1)) ∧ (∀ z ∈ Z, Dp K H z.1 (enc z.2)) ∧
  PySem.W.AllAlike (Z.map fun z => enc z.2) ∧ PySem.W.Sortable (Z.map fun z => enc z.2) ∧ (∀ z ∈ Z, (enc z.2).depth ≤ 60) ∧
  ∀ p : Addr, H p = none → Q (.ref p) (upd H p (.lst ((Z.mergeSort (PySem.W.dataLe false fun z => enc z.2)).map (·.1))))
section
variable {X : Cx}
theorem cr_sortD (hu : X.A.units + 64 < cLine) : CallR X (.builtin "sorted") (rSortD X.K) := by
  intro pins s τ H vs us Q I r h
  obtain ⟨α, enc, a, Z, rfl, hA, hd, hal, hk, hdp, q⟩ := h
  obtain ⟨its, rv, hl, hz⟩ := I.list hA
  obtain ⟨u, rfl, ru⟩ := vals1 r
  obtain rfl : u = Value.ref a := ru
  rw [List.length_map] at hz
  have e := each_of_vals rv
  have er : PySem.W.EachIs (fun v z => ∃ as, Reads s.heap v (enc z.2) as) its Z := (PySem.W.each_mem e).mono fun v z h => Dp.reads I (enc z.2) z.1 v (hd z h.2) h.1
  refine PySem.W.sorted_data (enc := fun z : V × α => enc z.2) hl.isList e er hal hk hz (fun z hm => ?_) (fun out ho eo => ?_)
  · have := hdp z hm
    omega
  · obtain ⟨n, hn⟩ := sortedAll_at s.heap its out.toArray
    have hs : s.heap.objs.size ≤ s.heap.objs.size + 1 := Nat.le_succ _
    refine ⟨.ref (s.heap.objs.size + 1), upd H (s.heap.objs.size + 1) (.lst ((Z.mergeSort (PySem.W.dataLe false fun z => enc z.2)).map (·.1))), I.laid (t' := s.toks) (fun b o g => sortedAll_old g) hs ⟨?_, out, n, vals_of_each eo, hn⟩, rfl, q _ (I.hok.fresh hs)⟩
    rw [List.length_map, List.length_mergeSort]
    exact hz
theorem cr_sortDK {K : PySem.W.Frag} (hu : X.A.units + 64 < cLine) (h : X.K = K := by rfl) : CallR X (.builtin "sorted") (rSortD K) := h ▸ cr_sortD hu
end
/-! ### triples: a text, a number, a start -/
abbrev E3 := Str × Int × Int
def lex3 (p q : E3) : Prop := p.1.cps.toList < q.1.cps.toList ∨ (p.1 = q.1 ∧ (p.2.1 < q.2.1 ∨ (p.2.1 = q.2.1 ∧ p.2.2 < q.2.2)))
instance (p q : E3) : Decidable (lex3 p q) := inferInstanceAs (Decidable (_ ∨ _))
def le3 (p q : E3) : Bool := !decide (lex3 q p)
def eFlat (p : E3) : PyData := .tuple [.str p.1, .int p.2.1, .int p.2.2]
def eNest (p : E3) : PyData := .tuple [.str p.1, .tuple [.int p.2.1, .int p.2.2]]
theorem str_ext {x y : Str} (h : x.cps.toList = y.cps.toList) : x = y := by
  obtain ⟨a⟩ := x
  obtain ⟨b⟩ := y
  have : a = b := Array.toList_inj.mp h
  rw [this]
theorem lex3_irrefl (p : E3) : ¬ lex3 p p := by
  rintro (h | ⟨_, h | ⟨_, h⟩⟩)
  · exact List.lt_irrefl _ h
  · omega
  · omega
theorem lex3_tr {p q r : E3} (h : lex3 p q) (h2 : lex3 q r) : lex3 p r := by
  rcases h with h | ⟨e, h⟩ <;> rcases h2 with h2 | ⟨e2, h2⟩
  · exact .inl (List.lt_trans h h2)
  · exact .inl (e2 ▸ h)
  · exact .inl (by rw [e]; exact h2)
  · refine .inr ⟨e.trans e2, ?_⟩
    rcases h with h | ⟨f, h⟩ <;> rcases h2 with h2 | ⟨f2, h2⟩
    · exact .inl (by omega)
    · exact .inl (by omega)
    · exact .inl (by omega)
    · exact .inr ⟨by omega, by omega⟩
theorem lex3_tri {p q : E3} (h : ¬ lex3 p q) (h2 : ¬ lex3 q p) : p = q := by
  have a1 : p.1.cps.toList ≤ q.1.cps.toList := List.not_lt.mp fun z => h2 (.inl z)
  have a2 : q.1.cps.toList ≤ p.1.cps.toList := List.not_lt.mp fun z => h (.inl z)
  have a : p.1 = q.1 := str_ext (List.le_antisymm a1 a2)
  have b : p.2.1 = q.2.1 := by
    rcases Int.lt_trichotomy p.2.1 q.2.1 with z | z | z
    · exact absurd (.inr ⟨a, .inl z⟩) h
    · exact z
    · exact absurd (.inr ⟨a.symm, .inl z⟩) h2
  have c : p.2.2 = q.2.2 := by
    rcases Int.lt_trichotomy p.2.2 q.2.2 with z | z | z
    · exact absurd (.inr ⟨a, .inr ⟨b, z⟩⟩) h
    · exact z
    · exact absurd (.inr ⟨a.symm, .inr ⟨b.symm, z⟩⟩) h2
  obtain ⟨x, y, z⟩ := p
  obtain ⟨x', y', z'⟩ := q
  simp at a b c
  rw [a, b, c]
theorem le3_tr (p q r : E3) (h : le3 p q = true) (h2 : le3 q r = true) : le3 p r = true := by
  unfold le3 at *
  simp only [Bool.not_eq_true', decide_eq_false_iff_not] at *
  intro z
  by_cases c : lex3 p q
  · exact h2 (lex3_tr z c)
  · have := lex3_tri c h
    subst this
    exact h2 z
theorem le3_tot (p q : E3) : (le3 p q || le3 q p) = true := by
  unfold le3
  by_cases c : lex3 q p
  · have d : ¬ lex3 p q := fun z => lex3_irrefl _ (lex3_tr c z)
    rw [decide_eq_true c, decide_eq_false d]
    rfl
  · rw [decide_eq_false c]
    rfl
theorem eqv_str (x y : Str) : PyData.eqv (.str x) (.str y) = decide (x = y) := by
  by_cases h : x = y
  · simp [PyData.eqv, h]
  · simp [PyData.eqv, h]
theorem eqv_int (x y : Int) : PyData.eqv (.int x) (.int y) = decide (x = y) := by
  by_cases h : x = y
  · simp [PyData.eqv, h]
  · simp [PyData.eqv, h]
theorem flat_lt (p q : E3) : PySem.W.dataLt (eFlat p) (eFlat q) = decide (lex3 p q) := by
  unfold eFlat
  rw [PySem.W.dataLt_tuple, PySem.W.dataLt_cons (by simp [PySem.W.alike]), PySem.W.dataLt_cons (by simp [PySem.W.alike]), PySem.W.dataLt_cons (by simp [PySem.W.alike])]
  have e : PyProof.Rows.lexLt itemOrd (PySem.W.keyToksAll []) (PySem.W.keyToksAll []) = false := lex_irrefl _
  rw [e, eqv_str, eqv_int, eqv_int, PySem.W.dataLt_str, PySem.W.dataLt_int, PySem.W.dataLt_int]
  unfold lex3
  by_cases a : p.1 = q.1
  · have na : ¬ p.1.cps.toList < q.1.cps.toList := by rw [a]; exact List.lt_irrefl _
    by_cases b : p.2.1 = q.2.1
    · by_cases c : p.2.2 = q.2.2
      · simp [a, b, c]
      · rw [decide_eq_true a, decide_eq_true b, decide_eq_false c]
        show decide (p.2.2 < q.2.2) = _
        exact decide_eq_decide.mpr ⟨fun h => .inr ⟨a, .inr ⟨b, h⟩⟩, fun h => h.elim (fun h => absurd h na) fun h => h.2.elim (fun h => by omega) fun h => h.2⟩
    · rw [decide_eq_true a, decide_eq_false b]
      show decide (p.2.1 < q.2.1) = _
      exact decide_eq_decide.mpr ⟨fun h => .inr ⟨a, .inl h⟩, fun h => h.elim (fun h => absurd h na) fun h => h.2.elim id fun h => absurd h.1 b⟩
  · simp [a]
theorem nest_lt (p q : E3) : PySem.W.dataLt (eNest p) (eNest q) = decide (lex3 p q) := by
  unfold eNest
  rw [PySem.W.dataLt_pair (by simp [PySem.W.alike]) (by simp [PySem.W.alike, PySem.W.alikeAll]), PySem.W.dataLt_ii, PySem.W.dataLt_str, eqv_str]
  have e2 : PyData.eqv (.tuple [.int p.2.1, .int p.2.2]) (.tuple [.int q.2.1, .int q.2.2]) = decide (p.2 = q.2) := by
    obtain ⟨x, y, z⟩ := p
    obtain ⟨x', y', z'⟩ := q
    by_cases b : y = y' <;> by_cases c : z = z' <;> simp [PyData.eqv, PyData.eqvAll, b, c]
  rw [e2]
  unfold lex3
  by_cases a : p.1 = q.1
  · have na : ¬ p.1.cps.toList < q.1.cps.toList := by rw [a]; exact List.lt_irrefl _
    by_cases b : p.2 = q.2
    · simp [a, b]
    · rw [decide_eq_true a, decide_eq_false b]
      show decide (p.2.1 < q.2.1 ∨ (p.2.1 = q.2.1 ∧ p.2.2 < q.2.2)) = _
      exact decide_eq_decide.mpr ⟨fun h => .inr ⟨a, h⟩, fun h => h.elim (fun h => absurd h na) fun h => h.2⟩
  · simp [a]
theorem flat_le {β : Type} (f : β → E3) : PySem.W.dataLe false (fun b => eFlat (f b)) = fun p q => le3 (f p) (f q) := by
  funext p q
  show (!PySem.W.dataLt (eFlat (f q)) (eFlat (f p))) = _
  rw [flat_lt]
  rfl
theorem nest_le {β : Type} (f : β → E3) : PySem.W.dataLe false (fun b => eNest (f b)) = fun p q => le3 (f p) (f q) := by
  funext p q
  show (!PySem.W.dataLt (eNest (f q)) (eNest (f p))) = _
  rw [nest_lt]
  rfl
theorem flat_alike {β : Type} (f : β → E3) (bs : List β) : PySem.W.AllAlike (bs.map fun b => eFlat (f b)) := PySem.W.AllAlike.of fun b b' => by simp [eFlat, PySem.W.alike, PySem.W.alikeAll]
theorem nest_alike {β : Type} (f : β → E3) (bs : List β) : PySem.W.AllAlike (bs.map fun b => eNest (f b)) := PySem.W.AllAlike.of fun b b' => by simp [eNest, PySem.W.alike, PySem.W.alikeAll]
theorem flat_able {β : Type} (f : β → E3) (bs : List β) : PySem.W.Sortable (bs.map fun b => eFlat (f b)) := PySem.W.Sortable.tuples fun b => ⟨_, _, rfl⟩
theorem nest_able {β : Type} (f : β → E3) (bs : List β) : PySem.W.Sortable (bs.map fun b => eNest (f b)) := PySem.W.Sortable.tuples fun b => ⟨_, _, rfl⟩
theorem flat_deep (p : E3) : (eFlat p).depth ≤ 60 := by
  show max 0 (max 0 (max 0 0)) + 1 ≤ 60
  decide
theorem nest_deep (p : E3) : (eNest p).depth ≤ 60 := by
  show max 0 (max (max 0 (max 0 0) + 1) 0) + 1 ≤ 60
  decide
/-- sorted without anything twice: one list alone -/
theorem sorted3_uniq {xs ys : List E3} (hp : xs.Perm ys) (h1 : xs.Pairwise (fun p q => le3 p q = true)) (h2 : ys.Pairwise (fun p q => le3 p q = true)) : xs = ys := by
  refine hp.eq_of_pairwise (fun p q _ _ a b => ?_) h1 h2
  unfold le3 at a b
  simp only [Bool.not_eq_true', decide_eq_false_iff_not] at a b
  exact lex3_tri b a
theorem sort3_pw (xs : List E3) : (xs.mergeSort le3).Pairwise (fun p q => le3 p q = true) := List.pairwise_mergeSort (fun p q r => le3_tr p q r) (fun p q => le3_tot p q) xs
theorem sort3_map {β : Type} (f : β → E3) (bs : List β) : (bs.mergeSort fun p q => le3 (f p) (f q)).map f = (bs.map f).mergeSort le3 := by
  refine sorted3_uniq (((List.mergeSort_perm _ _).map f).trans (List.mergeSort_perm _ _).symm) ?_ (sort3_pw _)
  rw [List.pairwise_map]
  exact List.pairwise_mergeSort (le := fun p q => le3 (f p) (f q)) (fun p q r => le3_tr (f p) (f q) (f r)) (fun p q => le3_tot (f p) (f q)) bs
end SH
set_option Elab.async false
set_option linter.all false
set_option maxRecDepth 100000
set_option maxHeartbeats 4000000
/-! the ends of a house in their order, their commons -/
namespace SH
open PySem PySem.Spec PyProof.Rows L2
/-- an own loop over anything that is walked -/
theorem walk_gen {J : It} {n : Nat} {G : Hp → Prop} {Y : Nat → Hp → V → Hp → Prop} (w : Walk J n G Y) {Step : (Hp → Prop) → V → Hp → Prop} {H0 : Hp} {Qd : Hp → Prop} (Pv : Nat → Hp → Prop) (h0 : Pv 0 H0) (hG : ∀ i H, i ≤ n → Pv i H → G H)
    (hs : ∀ i x H H', i < n → Pv i H → Y i H x H' → Step (Pv (i + 1)) x H') (hd : ∀ H, Pv n H → Qd H) :
    ∃ W : Nat → Nat → Hp → Prop, (∃ m, W 0 m H0) ∧ ∀ i m H, W i m H →
      (J.stop i H ∧ Qd H) ∨ (J.go i H ∧ ∃ Nx : Hp → Prop, (∀ H', Nx H' → ∃ m', m' < m ∧ W (i + 1) m' H') ∧ ∀ x H', J.yld i H x H' → Step Nx x H') := by
  refine ⟨fun i m H => m = n - i ∧ i ≤ n ∧ Pv i H, ⟨n, by simp, Nat.zero_le _, h0⟩, ?_⟩
  rintro i m H ⟨rfl, hi, p⟩
  have q := hG i H hi p
  by_cases hlt : i < n
  · exact .inr ⟨w.goes i H hlt q, Pv (i + 1), fun H' p' => ⟨n - (i + 1), by omega, rfl, hlt, p'⟩, fun x H' y => hs i x H H' hlt p (w.yields i H x H' hlt q y)⟩
  · have e : i = n := by omega
    subst e
    exact .inl ⟨w.stops H q, hd H p⟩
/-! ### what is left of a text -/
def suf (z : Str) (s : Nat) : Str := cutS z (some (s : Int)) none
theorem suf_tl (z : Str) (s : Nat) : TL.tl (suf z s) = (TL.tl z).drop s := by
  show (z.cps.toList.drop (HT.sIx z.length 0 (some (s : Int)))).take (HT.sIx z.length z.length none - HT.sIx z.length 0 (some (s : Int))) = _
  rw [HT.sIx_nat, HT.sIx_none]
  have hl : z.cps.toList.length = z.length := rfl
  rw [List.take_of_length_le (by rw [List.length_drop, hl]; exact Nat.le_refl _)]
  rcases Nat.le_total s z.length with h | h
  · rw [Nat.min_eq_left h]
  · rw [Nat.min_eq_right h, List.drop_eq_nil_of_le (by omega)]
    exact (List.drop_eq_nil_of_le (by show z.cps.toList.length ≤ s; omega)).symm
theorem suf_len (z : Str) (s : Nat) : (suf z s).length = z.length - s := by
  have := congrArg List.length (suf_tl z s)
  rw [List.length_drop] at this
  exact this
theorem suf_let {z : Str} (h : IsLet z) (s : Nat) : IsLet (suf z s) := by
  show (TL.tl (suf z s)).all okc = true
  rw [suf_tl]
  exact List.all_eq_true.mpr fun c hc => List.all_eq_true.mp h c (List.mem_of_mem_drop hc)
/-! ### the ends -/
def endsOf (q : Int × Str) : List E3 := (List.range (q.2.length + 1)).map fun s => (suf q.2 s, q.1, (s : Int))
def ends3 (h : List (Int × Str)) : List E3 := h.flatMap endsOf
def ordE (h : List (Int × Str)) : List E3 := (ends3 h).mergeSort le3
theorem mem_endsOf {q : Int × Str} {e : E3} : e ∈ endsOf q ↔ ∃ s : Nat, s ≤ q.2.length ∧ e = (suf q.2 s, q.1, (s : Int)) := by
  unfold endsOf
  rw [List.mem_map]
  constructor
  · rintro ⟨s, hs, rfl⟩
    exact ⟨s, by have := List.mem_range.mp hs; omega, rfl⟩
  · rintro ⟨s, hs, rfl⟩
    exact ⟨s, List.mem_range.mpr (by omega), rfl⟩
theorem mem_ends3 {h : List (Int × Str)} {e : E3} : e ∈ ends3 h ↔ ∃ q ∈ h, ∃ s : Nat, s ≤ q.2.length ∧ e = (suf q.2 s, q.1, (s : Int)) := by
  unfold ends3
  rw [List.mem_flatMap]
  constructor
  · rintro ⟨q, hq, he⟩
    exact ⟨q, hq, mem_endsOf.mp he⟩
  · rintro ⟨q, hq, he⟩
    exact ⟨q, hq, mem_endsOf.mpr he⟩
theorem mem_ordE {h : List (Int × Str)} {e : E3} : e ∈ ordE h ↔ e ∈ ends3 h := (List.mergeSort_perm _ _).mem_iff
theorem endsOf_len (q : Int × Str) : (endsOf q).length = q.2.length + 1 := by
  unfold endsOf
  rw [List.length_map, List.length_range]
theorem ends3_len {m : Nat} : ∀ {h : List (Int × Str)}, (∀ q ∈ h, q.2.length ≤ m) → (ends3 h).length ≤ (m + 1) * h.length
  | [], _ => Nat.zero_le _
  | q :: r, a => by
    have e : ends3 (q :: r) = endsOf q ++ ends3 r := rfl
    rw [e, List.length_append, endsOf_len, List.length_cons, Nat.mul_add]
    have := a q (List.mem_cons_self ..)
    have := ends3_len fun x hx => a x (List.mem_cons_of_mem _ hx)
    omega
theorem ordE_len {m : Nat} {h : List (Int × Str)} (a : ∀ q ∈ h, q.2.length ≤ m) : (ordE h).length ≤ (m + 1) * h.length := by
  unfold ordE
  rw [List.length_mergeSort]
  exact ends3_len a
/-! ### commons -/
def comm : List Nat → List Nat → Nat
  | a :: x, b :: y => if a = b then comm x y + 1 else 0
  | _, _ => 0
theorem comm_le : ∀ x y : List Nat, comm x y ≤ x.length ∧ comm x y ≤ y.length
  | [], y => by unfold comm; simp
  | _ :: _, [] => by unfold comm; simp
  | a :: x, b :: y => by
    unfold comm
    have := comm_le x y
    split
    · simp only [List.length_cons]; omega
    · simp
/-- as many as are alike -/
theorem comm_at : ∀ (x y : List Nat) (i : Nat), i < comm x y → x[i]? = y[i]?
  | [], y, i, h => by simp [comm] at h
  | _ :: _, [], i, h => by simp [comm] at h
  | a :: x, b :: y, i, h => by
    unfold comm at h
    by_cases e : a = b
    · rw [if_pos e] at h
      cases i with
      | zero => simp [e]
      | succ i => simpa using comm_at x y i (by omega)
    · rw [if_neg e] at h
      omega
/-- the next ones are not -/
theorem comm_ne : ∀ (x y : List Nat) (c d : Nat), x[comm x y]? = some c → y[comm x y]? = some d → c ≠ d
  | [], y, c, d, h, _ => by simp [comm] at h
  | _ :: _, [], c, d, _, h => by simp [comm] at h
  | a :: x, b :: y, c, d, h, h2 => by
    unfold comm at h h2
    by_cases e : a = b
    · rw [if_pos e] at h h2
      exact comm_ne x y c d (by simpa using h) (by simpa using h2)
    · rw [if_neg e] at h h2
      simp at h h2
      rw [← h, ← h2]
      exact e
/-- so is the number told by these two -/
theorem comm_of {x y : List Nat} {n : Nat} (h1 : n ≤ x.length) (h2 : n ≤ y.length) (ha : ∀ i, i < n → x[i]? = y[i]?) (hn : n = x.length ∨ n = y.length ∨ x[n]? ≠ y[n]?) : comm x y = n := by
  have l := comm_le x y
  rcases Nat.lt_trichotomy (comm x y) n with h | h | h
  · exfalso
    have e1 : x[comm x y]? = some (x[comm x y]'(by omega)) := List.getElem?_eq_getElem (by omega)
    have e2 : y[comm x y]? = some (y[comm x y]'(by omega)) := List.getElem?_eq_getElem (by omega)
    have := ha _ h
    rw [e1, e2] at this
    exact comm_ne x y _ _ e1 e2 (Option.some.inj this)
  · exact h
  · exfalso
    rcases hn with e | e | e
    · omega
    · omega
    · exact e (comm_at x y n h)
def letsAt (E : List E3) (k : Nat) : List Nat := ((E[k]?).map fun e => TL.tl e.1).getD []
/-- the common of the k-th and the next -/
def cmAt (E : List E3) (k : Nat) : Int := (comm (letsAt E k) (letsAt E (k + 1)) : Nat)
def cmsE (E : List E3) : List Int := (List.range E.length).map fun k => if k = 0 then 0 else cmAt E (k - 1)
theorem cmsE_cons {E : List E3} {n : Nat} (h : E.length = n + 1) : cmsE E = 0 :: (List.range n).map (cmAt E) := by
  unfold cmsE
  rw [h, List.range_succ_eq_map, List.map_cons, List.map_map]
  rfl
theorem cmsE_len (E : List E3) : (cmsE E).length = E.length := by
  unfold cmsE
  rw [List.length_map, List.length_range]
theorem letsAt_eq {E : List E3} {k : Nat} {e : E3} (h : E[k]? = some e) : letsAt E k = TL.tl e.1 := by
  unfold letsAt
  rw [h]
  rfl
/-! ### places in the heap -/
abbrev QT := List (Addr × Int × Int)
def qrefs (R : QT) : List V := R.map fun q => V.ref q.1
def QAt (K : PySem.W.Frag) (H : Hp) (R : QT) : Prop := ∀ q ∈ R, SqT K H q.1 [.int q.2.1, .int q.2.2]
theorem QAt.same {K : PySem.W.Frag} {H H' : Hp} {R : QT} (e : Same H H') (h : QAt K H R) : QAt K H' R := fun q hq => same_tup e (h q hq)
theorem qrefs_len (R : QT) : (qrefs R).length = R.length := List.length_map ..
theorem qrefs_at {R : QT} {i : Nat} {x : V} (h : (qrefs R)[i]? = some x) : ∃ t, R[i]? = some t ∧ t ∈ R ∧ x = .ref t.1 := by
  unfold qrefs at h
  rw [List.getElem?_map] at h
  cases e : R[i]? with
  | none => rw [e] at h; cases h
  | some t =>
    rw [e] at h
    cases h
    exact ⟨t, rfl, List.mem_of_getElem? e, rfl⟩
def dP2 (q : Int × Int) : PyData := .tuple [.int q.1, .int q.2]
def dQ (l : List (Int × Int)) : PyData := .list (l.map dP2)
theorem dp_qs {K : PySem.W.Frag} {H : Hp} : ∀ (R : QT), QAt K H R → DpAll K H (qrefs R) ((R.map (·.2)).map dP2)
  | [], _ => .nil
  | q :: r, h => .cons (.tup (h q (List.mem_cons_self ..)) (.cons (.int _) (.cons (.int _) .nil))) (dp_qs r fun x m => h x (List.mem_cons_of_mem _ m))
theorem dp_q {K : PySem.W.Frag} {H : Hp} {a : Addr} {R : QT} (h : SqL K H a (qrefs R)) (hq : QAt K H R) : Dp K H (.ref a) (dQ (R.map (·.2))) := .lst h (dp_qs R hq)
theorem dQ_lay : ∀ (l : List (Int × Int)), PyData.canLayAll0 (l.map dP2) = true
  | [] => rfl
  | q :: r => by
    rw [List.map_cons, PyData.canLayAll0, dQ_lay r]
    simp [dP2, PyData.canLay0, PyData.canLayAll0]
theorem dQ_deep : ∀ (l : List (Int × Int)), PyData.depthAll (l.map dP2) ≤ 1
  | [] => Nat.zero_le _
  | q :: r => by
    rw [List.map_cons, PyData.depthAll]
    have := dQ_deep r
    have e : PyData.depth (dP2 q) = 1 := rfl
    rw [e]
    omega
theorem shaped_of {d : PyData} (h : d.canLay0 = true) (h2 : d.depth ≤ 64) : SeqAt.shaped d = true := by
  unfold SeqAt.shaped
  rw [h, decide_eq_true h2]
  rfl
theorem dQ_shaped (l : List (Int × Int)) : SeqAt.shaped (dQ l) = true := shaped_of (dQ_lay l) (by
  show PyData.depthAll (l.map dP2) + 1 ≤ 64
  have := dQ_deep l
  omega)
theorem dQ_refl (l : List (Int × Int)) : PyData.eqv (dQ l) (dQ l) = true := SeqAt.eqv_refl _ (show (dQ l).canLay0 = true from dQ_lay l)
/-! lists of numbers as data -/
def dI (l : List Int) : PyData := .list (l.map .int)
theorem dp_is {K : PySem.W.Frag} {H : Hp} : ∀ (l : List Int), DpAll K H (l.map V.int) (l.map PyData.int)
  | [] => .nil
  | _ :: r => .cons (.int _) (dp_is r)
theorem dp_i {K : PySem.W.Frag} {H : Hp} {a : Addr} {l : List Int} (h : SqL K H a (l.map V.int)) : Dp K H (.ref a) (dI l) := .lst h (dp_is l)
theorem dI_lay : ∀ (l : List Int), PyData.canLayAll0 (l.map PyData.int) = true
  | [] => rfl
  | q :: r => by
    rw [List.map_cons, PyData.canLayAll0, dI_lay r]
    simp [PyData.canLay0]
theorem dI_shaped (l : List Int) : SeqAt.shaped (dI l) = true := shaped_of (dI_lay l) (by
  show PyData.depthAll (l.map PyData.int) + 1 ≤ 64
  rw [PySem.W.depth_ints]
  decide)
theorem dI_refl (l : List Int) : PyData.eqv (dI l) (dI l) = true := SeqAt.eqv_refl _ (show (dI l).canLay0 = true from dI_lay l)
/-! ### triples in the heap, flat and nested -/
abbrev FT := List (Addr × E3)
def frefs (Z : FT) : List V := Z.map fun z => V.ref z.1
def FAt (H : Hp) (Z : FT) : Prop := ∀ z ∈ Z, H z.1 = some (.tup [.str z.2.1, .int z.2.2.1, .int z.2.2.2])
abbrev NT3 := List (Addr × Addr × E3)
def nrefs (Z : NT3) : List V := Z.map fun z => V.ref z.1
def NAt (H : Hp) (Z : NT3) : Prop := ∀ z ∈ Z, H z.1 = some (.tup [.str z.2.2.1, .ref z.2.1]) ∧ H z.2.1 = some (.tup [.int z.2.2.2.1, .int z.2.2.2.2])
theorem FAt.same {H H' : Hp} {Z : FT} (e : Same H H') (h : FAt H Z) : FAt H' Z := fun z m => e _ _ (h z m)
theorem NAt.same {H H' : Hp} {Z : NT3} (e : Same H H') (h : NAt H Z) : NAt H' Z := fun z m => ⟨e _ _ (h z m).1, e _ _ (h z m).2⟩
theorem FAt.snoc {H : Hp} {Z : FT} {z : Addr × E3} (h : FAt H Z) (hz : H z.1 = some (.tup [.str z.2.1, .int z.2.2.1, .int z.2.2.2])) : FAt H (Z ++ [z]) := fun y hy => by
  rcases List.mem_append.mp hy with m | m
  · exact h y m
  · rw [List.mem_singleton.mp m]; exact hz
theorem NAt.snoc {H : Hp} {Z : NT3} {z : Addr × Addr × E3} (h : NAt H Z) (hz : H z.1 = some (.tup [.str z.2.2.1, .ref z.2.1]) ∧ H z.2.1 = some (.tup [.int z.2.2.2.1, .int z.2.2.2.2])) : NAt H (Z ++ [z]) := fun y hy => by
  rcases List.mem_append.mp hy with m | m
  · exact h y m
  · rw [List.mem_singleton.mp m]; exact hz
/-- a list that is written lies apart from what the tuples are -/
theorem FAt.put {H : Hp} {Z : FT} {D : Addr} {l : List V} {o : HO} (h : FAt H Z) (hD : H D = some (.lst l)) : FAt (upd H D o) Z := fun z m => by
  have := h z m
  rw [upd_ne (fun e => by rw [e, hD] at this; cases this)]
  exact this
theorem NAt.put {H : Hp} {Z : NT3} {D : Addr} {l : List V} {o : HO} (h : NAt H Z) (hD : H D = some (.lst l)) : NAt (upd H D o) Z := fun z m => by
  have := h z m
  rw [upd_ne (fun e => by rw [e, hD] at this; cases this.1), upd_ne (fun e => by rw [e, hD] at this; cases this.2)]
  exact this
theorem QAt.put {K : PySem.W.Frag} {H : Hp} {R : QT} {D : Addr} {l : List V} {o : HO} (h : QAt K H R) (hD : H D = some (.lst l)) : QAt K (upd H D o) R := fun z m => but_tup (l := l) hD but_upd (h z m)
theorem sort_flat (Z : FT) : ((Z.map fun z => (V.ref z.1, z.2)).mergeSort (PySem.W.dataLe false fun z => eFlat z.2)).map (·.1) = frefs (Z.mergeSort fun p q => le3 p.2 q.2) := by
  rw [flat_le (β := V × E3) (fun z => z.2), ← List.map_mergeSort (l := Z) (f := fun z : Addr × E3 => (V.ref z.1, z.2)) (r := fun p q : Addr × E3 => le3 p.2 q.2) (s := fun p q : V × E3 => le3 p.2 q.2) (fun _ _ _ _ => rfl), List.map_map]
  rfl
theorem sort_nest (Z : NT3) : ((Z.map fun z => (V.ref z.1, z.2.2)).mergeSort (PySem.W.dataLe false fun z => eNest z.2)).map (·.1) = nrefs (Z.mergeSort fun p q => le3 p.2.2 q.2.2) := by
  rw [nest_le (β := V × E3) (fun z => z.2), ← List.map_mergeSort (l := Z) (f := fun z : Addr × Addr × E3 => (V.ref z.1, z.2.2)) (r := fun p q : Addr × Addr × E3 => le3 p.2.2 q.2.2) (s := fun p q : V × E3 => le3 p.2 q.2) (fun _ _ _ _ => rfl), List.map_map]
  rfl
theorem ends3_snoc (h : List (Int × Str)) (q : Int × Str) : ends3 (h ++ [q]) = ends3 h ++ endsOf q := by
  unfold ends3
  rw [List.flatMap_append]
  simp
theorem take_snoc {α : Type} {l : List α} {i : Nat} {x : α} (h : l[i]? = some x) : l.take (i + 1) = l.take i ++ [x] := by
  rw [List.take_add_one, h]
  rfl
theorem endsOf_at {q : Int × Str} {s : Nat} (h : s ≤ q.2.length) : (endsOf q)[s]? = some (suf q.2 s, q.1, (s : Int)) := by
  unfold endsOf
  rw [List.getElem?_map, List.getElem?_range (by omega)]
  rfl
/-- the order: a new list of new pairs -/
def spOrder (K : PySem.W.Frag) : Sp := fun vs H Q _ => ∃ (a : Addr) (L : PL), vs = [.ref a] ∧ HsAt K H a L ∧ L.length ≤ 500 ∧ (∀ q ∈ L, q.2.2.length ≤ 100) ∧
  ∀ (l : Addr) (R : QT) (H' : Hp), Same H H' → H l = none → H' l = some (.lst (qrefs R)) → QAt K H' R → R.map (·.2) = (ordE (L.map (·.2))).map (·.2) → Q (.ref l) H'
end SH
set_option Elab.async false
set_option linter.all false
set_option maxRecDepth 100000
set_option maxHeartbeats 4000000
/-! a house as a dict; slices of lists -/
namespace SH
open PySem PySem.Spec PyProof.Rows L2
namespace Dct
theorem valV_merge_out {k : Key} : ∀ (more acc : List (Key × V)), k ∉ more.map (·.1) → valV (mergeK acc more) k = valV acc k
  | [], _, _ => rfl
  | x :: r, acc, h => by
    rw [List.map_cons, List.mem_cons] at h
    show valV (mergeK (putK acc x.1 x.2) r) k = _
    rw [valV_merge_out r _ (fun z => h (.inr z)), valV_put, if_neg (fun z => h (.inl z))]
theorem valV_merge_in {k : Key} {v : V} : ∀ (more acc : List (Key × V)), (more.map (·.1)).Nodup → (k, v) ∈ more → valV (mergeK acc more) k = some v
  | x :: r, acc, nd, h => by
    rw [List.map_cons, List.nodup_cons] at nd
    show valV (mergeK (putK acc x.1 x.2) r) k = _
    rcases List.mem_cons.mp h with e | m
    · rw [← e] at nd ⊢
      rw [valV_merge_out r _ nd.1, valV_put, if_pos rfl]
    · exact valV_merge_in r _ nd.2 m
theorem take_drop_cut {z : Str} {a b : Nat} (h1 : a ≤ b) (h2 : b ≤ z.length) : TL.tl (cutS z (some (a : Int)) (some (b : Int))) = ((TL.tl z).take b).drop a := by
  show (z.cps.toList.drop (HT.sIx z.length 0 (some (a : Int)))).take (HT.sIx z.length z.length (some (b : Int)) - HT.sIx z.length 0 (some (a : Int))) = _
  rw [HT.sIx_nat, HT.sIx_nat, Nat.min_eq_left h2, Nat.min_eq_left (Nat.le_trans h1 h2), List.drop_take]
theorem paired_house {K : PySem.W.Frag} {H : Hp} : ∀ {L : PL}, PairsAt K H L → Paired (fun p (kv : Key × V) => SqT K H p [kV kv.1, kv.2]) (L.map (·.1)) (L.map fun q => ((Sum.inl q.2.1 : Key), V.str q.2.2))
  | [], _ => .nil
  | q :: r, h => .cons (h q (List.mem_cons_self ..)) (paired_house fun x m => h x (List.mem_cons_of_mem _ m))

theorem house_get {L : PL} (asc : ((L.map (·.2)).map (·.1)).Pairwise (· < ·)) {n : Int} {z : Str} (h : (n, z) ∈ L.map (·.2)) : valV (mergeK [] (L.map fun q => ((Sum.inl q.2.1 : Key), V.str q.2.2))) (.inl n) = some (.str z) := by
  obtain ⟨q, hq, e⟩ := List.mem_map.mp h
  have e1 : q.2.1 = n := congrArg Prod.fst e
  have e2 : q.2.2 = z := congrArg Prod.snd e
  subst e1 e2
  refine valV_merge_in _ _ ?_ (List.mem_map.mpr ⟨q, hq, rfl⟩)
  rw [List.map_map]
  rw [List.map_map, List.pairwise_map] at asc
  rw [List.Nodup, List.pairwise_map]
  exact asc.imp fun h e => by
    have h : _ < _ := h
    have := Sum.inl.inj e
    simp only [Function.comp] at h
    omega
theorem cut_from (xs : List V) (k : Nat) : cutV xs (some (k : Int)) none = xs.drop k := by
  unfold cutV
  rw [HT.sIx_nat, HT.sIx_none]
  rcases Nat.le_total k xs.length with h | h
  · rw [Nat.min_eq_left h, List.take_of_length_le (by rw [List.length_drop]; exact Nat.le_refl _)]
  · rw [Nat.min_eq_right h, Nat.sub_self, List.take_zero, List.drop_eq_nil_of_le h]
end Dct
end SH
set_option Elab.async false
set_option linter.all false
set_option maxRecDepth 100000
set_option maxHeartbeats 4000000
/-! the text with a number; an end told by its number and start -/
namespace SH
open PySem PySem.Spec PyProof.Rows L2
theorem refs_len (L : PL) : (refs L).length = L.length := List.length_map ..
def lk (n : Int) : List (Int × Str) → Option Str
  | [] => none
  | q :: r => if q.1 = n then some q.2 else lk n r
theorem lk_mem {n : Int} {z : Str} : ∀ {h : List (Int × Str)}, lk n h = some z → (n, z) ∈ h
  | q :: r, e => by
    unfold lk at e
    by_cases c : q.1 = n
    · rw [if_pos c] at e
      have e := Option.some.inj e
      obtain ⟨a, b⟩ := q
      subst c e
      exact List.mem_cons_self ..
    · rw [if_neg c] at e
      exact List.mem_cons_of_mem _ (lk_mem e)
theorem lk_none {n : Int} : ∀ {h : List (Int × Str)}, lk n h = none → n ∉ h.map (·.1)
  | [], _ => by simp
  | q :: r, e => by
    unfold lk at e
    by_cases c : q.1 = n
    · rw [if_pos c] at e
      cases e
    · rw [if_neg c] at e
      rw [List.map_cons, List.mem_cons, not_or]
      exact ⟨fun z => c z.symm, lk_none e⟩
theorem lk_of {n : Int} {z : Str} : ∀ {h : List (Int × Str)}, (h.map (·.1)).Pairwise (· < ·) → (n, z) ∈ h → lk n h = some z
  | q :: r, asc, m => by
    rw [List.map_cons, List.pairwise_cons] at asc
    unfold lk
    rcases List.mem_cons.mp m with e | m
    · rw [← e, if_pos rfl]
    · have := asc.1 n (List.mem_map.mpr ⟨_, m, rfl⟩)
      rw [if_neg (by omega)]
      exact lk_of asc.2 m
theorem lk_no {n : Int} {h : List (Int × Str)} (m : n ∉ h.map (·.1)) : lk n h = none := by
  cases e : lk n h with
  | none => rfl
  | some z => exact absurd (List.mem_map.mpr ⟨_, lk_mem e, rfl⟩) m
/-- dict(house) at a number -/
theorem lk_val {L : PL} (asc : ((L.map (·.2)).map (·.1)).Pairwise (· < ·)) (n : Int) : valV (mergeK [] (L.map fun q => ((Sum.inl q.2.1 : Key), V.str q.2.2))) (.inl n) = (lk n (L.map (·.2))).map V.str := by
  cases e : lk n (L.map (·.2)) with
  | some z => exact Dct.house_get asc (lk_mem e)
  | none =>
    rw [Dct.valV_merge_out _ _ (fun z => ?_)]
    · rfl
    · rw [List.map_map] at z
      obtain ⟨q, hq, e2⟩ := List.mem_map.mp z
      refine lk_none e ?_
      rw [List.map_map]
      exact List.mem_map.mpr ⟨q, hq, Sum.inl.inj e2⟩
/-- the letters of an end -/
def endS (h : List (Int × Str)) (n s : Int) : Option Str :=
  match lk n h with
  | none => none
  | some z => if 0 ≤ s ∧ s ≤ (z.length : Int) then some (suf z s.toNat) else none
theorem endS_some {h : List (Int × Str)} {n s : Int} {x : Str} (e : endS h n s = some x) : ∃ z, lk n h = some z ∧ 0 ≤ s ∧ s ≤ (z.length : Int) ∧ x = suf z s.toNat := by
  unfold endS at e
  cases c : lk n h with
  | none => rw [c] at e; cases e
  | some z =>
    rw [c] at e
    by_cases d : 0 ≤ s ∧ s ≤ (z.length : Int)
    · have e : (if 0 ≤ s ∧ s ≤ (z.length : Int) then some (suf z s.toNat) else none) = some x := e
      rw [if_pos d] at e
      exact ⟨z, rfl, d.1, d.2, (Option.some.inj e).symm⟩
    · have e : (if 0 ≤ s ∧ s ≤ (z.length : Int) then some (suf z s.toNat) else none) = some x := e
      rw [if_neg d] at e
      cases e
theorem endS_of {h : List (Int × Str)} {n s : Int} {z : Str} (e : lk n h = some z) (d : 0 ≤ s ∧ s ≤ (z.length : Int)) : endS h n s = some (suf z s.toNat) := by
  unfold endS
  rw [e]
  exact if_pos d
theorem endS_out {h : List (Int × Str)} {n s : Int} {z : Str} (e : lk n h = some z) (d : ¬ (0 ≤ s ∧ s ≤ (z.length : Int))) : endS h n s = none := by
  unfold endS
  rw [e]
  exact if_neg d
theorem endS_no {h : List (Int × Str)} {n s : Int} (e : lk n h = none) : endS h n s = none := by
  unfold endS
  rw [e]
/-- an error of the class at C with this number leaves -/
def Errs (E : XK) (H : Hp) (C : Addr) (n : Int) : Prop := ∀ (d : Addr) (H2 : Hp), Same H H2 → H d = none → H2 d = some (.xd [(("at" : Str), .int n)]) → E (.ref C) (some d) H2
theorem Errs.same {E : XK} {H H' : Hp} {C : Addr} {n : Int} (s : Same H H') (h : Errs E H C n) : Errs E H' C n := fun d H2 s2 nd e => h d H2 (s.trans s2) (s.free nd) e
end SH
set_option Elab.async false
set_option linter.all false
set_option maxRecDepth 100000
set_option maxHeartbeats 4000000
/-! ends by what they begin with; a while with its own invariant -/
namespace SH
open PySem PySem.Spec PyProof.Rows L2
theorem while_i {c : TT} {tb : TS} {D : Ends} {σ : L2.St} {H : Hp} (W : Nat → L2.St → Hp → Prop) {m : Nat} (h0 : W m σ H)
    (hs : ∀ m σ H, W m σ H → c σ H fun b H1 => if b = true then tb { D with nx := fun σ' H' => ∃ m', m' < m ∧ W m' σ' H', ct := fun σ' H' => ∃ m', m' < m ∧ W m' σ' H', bk := D.nx } σ H1 else D.nx σ H1)
    (mono : ∀ σ H Q Q', (∀ b H1, Q b H1 → Q' b H1) → c σ H Q → c σ H Q') : tWhile c tb D σ H := by
  refine ⟨W, ⟨m, h0⟩, fun m σ H w => mono σ H _ _ (fun b H1 q => ?_) (hs m σ H w)⟩
  cases b with
  | true => exact ⟨_, fun σ' H' x => x, q⟩
  | false => exact q
theorem cut_mid {z : Str} {s n : Nat} (hs : s ≤ z.length) : TL.tl (cutS z (some (s : Int)) (some ((s : Int) + (n : Int)))) = ((TL.tl z).drop s).take n := by
  have e : ((s : Int) + (n : Int)) = ((s + n : Nat) : Int) := by omega
  rw [e]
  show (z.cps.toList.drop (HT.sIx z.length 0 (some (s : Int)))).take (HT.sIx z.length z.length (some ((s + n : Nat) : Int)) - HT.sIx z.length 0 (some (s : Int))) = _
  rw [HT.sIx_nat, HT.sIx_nat, Nat.min_eq_left hs]
  have hl : z.cps.toList.length = z.length := rfl
  rcases Nat.le_total (s + n) z.length with h | h
  · rw [Nat.min_eq_left h, Nat.add_sub_cancel_left]
  · rw [Nat.min_eq_right h, List.take_of_length_le (by rw [List.length_drop, hl]; exact Nat.le_refl _)]
    exact (List.take_of_length_le (by rw [List.length_drop]; show z.length - s ≤ n; omega)).symm
/-! ### the order of lists of signs -/
theorem nl_take : ∀ (n : Nat) (x y : List Nat), ¬ y < x → ¬ y.take n < x.take n
  | 0, _, _, _ => by simp
  | n + 1, [], y, _ => by simp
  | n + 1, a :: x, [], h => absurd (List.Lex.nil : ([] : List Nat) < a :: x) h
  | n + 1, a :: x, b :: y, h => by
    rw [List.take_succ_cons, List.take_succ_cons]
    intro z
    rw [List.cons_lt_cons_iff] at z h
    rcases z with z | ⟨e, z⟩
    · exact h (.inl z)
    · exact nl_take n x y (fun q => h (.inr ⟨e, q⟩)) z
/-- cut to a word's length it is less just where it is -/
theorem take_lt : ∀ (w x : List Nat), x.take w.length < w ↔ x < w
  | [], x => by simp
  | b :: w, [] => by simp
  | b :: w, a :: x => by
    rw [List.length_cons, List.take_succ_cons, List.cons_lt_cons_iff, List.cons_lt_cons_iff, take_lt w x]
theorem take_eq_not_lt {w x : List Nat} (h : x.take w.length = w) : ¬ x < w := fun z => by
  have := (take_lt w x).mpr z
  rw [h] at this
  exact List.lt_irrefl _ this
theorem le3_letters {p q : E3} (h : le3 p q = true) : ¬ TL.tl q.1 < TL.tl p.1 := fun z => by
  unfold le3 at h
  simp only [Bool.not_eq_true', decide_eq_false_iff_not] at h
  exact h (.inl z)
/-- less than all that begin with the word, or beginning with it -/
def prW (w : Str) (b : Bool) (e : E3) : Bool := decide (TL.tl e.1 < TL.tl w) || (b && decide ((TL.tl e.1).take w.length = TL.tl w))
theorem prW_mono {w : Str} {b : Bool} {p q : E3} (h : le3 p q = true) (hq : prW w b q = true) : prW w b p = true := by
  unfold prW at *
  have n := le3_letters h
  have nt := nl_take w.length _ _ n
  rw [Bool.or_eq_true, decide_eq_true_eq] at hq ⊢
  rcases hq with hq | hq
  · refine .inl ?_
    rcases List.le_iff_lt_or_eq.mp (List.not_lt.mp n) with c | c
    · exact List.lt_trans c hq
    · rw [c]; exact hq
  · rw [Bool.and_eq_true, decide_eq_true_eq] at hq
    obtain ⟨rfl, e⟩ := hq
    rw [e] at nt
    rcases List.le_iff_lt_or_eq.mp (List.not_lt.mp nt) with c | c
    · exact .inl ((take_lt _ _).mp c)
    · refine .inr ?_
      rw [Bool.true_and, decide_eq_true_eq]
      exact c
theorem filter_cut {α : Type} {E : List α} {p : α → Bool} {n : Nat} (h1 : ∀ (i : Nat) (h : i < E.length), i < n → p E[i] = true) (h2 : ∀ (i : Nat) (h : i < E.length), n ≤ i → p E[i] = false) : E.filter p = E.take n := by
  conv => lhs; rw [← List.take_append_drop n E]
  rw [List.filter_append]
  have a : (E.take n).filter p = E.take n := List.filter_eq_self.mpr fun x hx => by
    obtain ⟨i, hi, rfl⟩ := List.getElem_of_mem hx
    rw [List.length_take] at hi
    rw [List.getElem_take]
    exact h1 i (by omega) (by omega)
  have b : (E.drop n).filter p = [] := List.filter_eq_nil_iff.mpr fun x hx => by
    obtain ⟨i, hi, rfl⟩ := List.getElem_of_mem hx
    rw [List.length_drop] at hi
    rw [List.getElem_drop, h2 (n + i) (by omega) (by omega)]
    exact Bool.false_ne_true
  rw [a, b, List.append_nil]
theorem filter_or_len {α : Type} {p q : α → Bool} : ∀ {E : List α}, (∀ x ∈ E, ¬ (p x = true ∧ q x = true)) → (E.filter fun x => p x || q x).length = (E.filter p).length + (E.filter q).length
  | [], _ => rfl
  | x :: E, h => by
    have ih := filter_or_len (p := p) (q := q) (E := E) fun y hy => h y (List.mem_cons_of_mem _ hy)
    have hx := h x (List.mem_cons_self ..)
    cases a : p x <;> cases b : q x
    · rw [List.filter_cons_of_neg (by rw [a, b]; decide), List.filter_cons_of_neg (by rw [a]; decide), List.filter_cons_of_neg (by rw [b]; decide), ih]
    · rw [List.filter_cons_of_pos (by rw [a, b]; decide), List.filter_cons_of_neg (by rw [a]; decide), List.filter_cons_of_pos (by rw [b]), List.length_cons, List.length_cons, ih]
      omega
    · rw [List.filter_cons_of_pos (by rw [a, b]; decide), List.filter_cons_of_pos (by rw [a]), List.filter_cons_of_neg (by rw [b]; decide), List.length_cons, List.length_cons, ih]
      omega
    · exact absurd ⟨a, b⟩ hx
/-- the range of a word: from this index .. -/
def rFirst (w : Str) (E : List E3) : Nat := (E.filter fun e => decide (TL.tl e.1 < TL.tl w)).length
/-- .. so many -/
def rMany (w : Str) (E : List E3) : Nat := (E.filter fun e => decide ((TL.tl e.1).take w.length = TL.tl w)).length
theorem prW_f (w : Str) (E : List E3) : (E.filter (prW w false)).length = rFirst w E := by
  unfold rFirst
  congr 2
  funext e
  unfold prW
  simp
theorem prW_t (w : Str) (E : List E3) : (E.filter (prW w true)).length = rFirst w E + rMany w E := by
  unfold rFirst rMany
  rw [← filter_or_len (E := E) fun e _ h => ?_]
  · rfl
  · rw [decide_eq_true_eq, decide_eq_true_eq] at h
    exact take_eq_not_lt h.2 h.1
theorem ordE_pw (h : List (Int × Str)) : (ordE h).Pairwise (fun p q => le3 p q = true) := sort3_pw _
theorem pw_at {α : Type} {r : α → α → Prop} {E : List α} (h : E.Pairwise r) (hr : ∀ x, r x x) {i j : Nat} (hi : i < E.length) (hj : j < E.length) (l : i ≤ j) : r E[i] E[j] := by
  rcases Nat.lt_or_ge i j with c | c
  · exact List.pairwise_iff_getElem.mp h i j hi hj c
  · have : i = j := by omega
    subst this
    exact hr _
theorem le3_refl (p : E3) : le3 p p = true := by
  unfold le3
  rw [decide_eq_false (lex3_irrefl p)]
  rfl
end SH
set_option Elab.async false
set_option linter.all false
set_option maxRecDepth 100000
set_option maxHeartbeats 4000000
/-! tuples of data -/
namespace SH
open PySem PySem.Spec PyProof.Rows L2
def Okd (d : PyData) : Prop := d.canLay0 = true ∧ d.depth ≤ 60
theorem okd_int (n : Int) : Okd (.int n) := ⟨rfl, Nat.zero_le _⟩
theorem okd_str {z : Str} (h : PyData.strOk z = true) : Okd (.str z) := ⟨h, Nat.zero_le _⟩
theorem okd_non : Okd .none := ⟨rfl, Nat.zero_le _⟩
theorem okd_bool (b : Bool) : Okd (.bool b) := ⟨rfl, Nat.zero_le _⟩
theorem okd_H {h : List (Int × Str)} (a : LetAll h) : Okd (dH h) := ⟨dH_lay a, dH_depth h⟩
theorem okd_Q (l : List (Int × Int)) : Okd (dQ l) := ⟨dQ_lay l, by show PyData.depthAll (l.map dP2) + 1 ≤ 60; have := dQ_deep l; omega⟩
theorem okd_I (l : List Int) : Okd (dI l) := ⟨dI_lay l, by show PyData.depthAll (l.map PyData.int) + 1 ≤ 60; rw [PySem.W.depth_ints]; decide⟩
theorem okd_P2 (q : Int × Int) : Okd (dP2 q) := ⟨rfl, by show 1 ≤ 60; decide⟩
/-- data are equal to themselves -/
theorem okd_sh {d : PyData} (h : Okd d) : SeqAt.shaped d = true ∧ PyData.eqv d d = true := ⟨shaped_of h.1 (by have := h.2; omega), SeqAt.eqv_refl _ h.1⟩
theorem dp_p2 {K : PySem.W.Frag} {H : Hp} {t : Addr} {n m : Int} (h : H t = some (.tup [.int n, .int m])) : Dp K H (.ref t) (dP2 (n, m)) := .tup (.inl (.inl h)) (.cons (.int _) (.cons (.int _) .nil))
theorem lay_all : ∀ {ds : List PyData}, (∀ d ∈ ds, d.canLay0 = true) → PyData.canLayAll0 ds = true
  | [], _ => rfl
  | d :: r, h => by
    rw [PyData.canLayAll0, h d (List.mem_cons_self ..), lay_all fun x m => h x (List.mem_cons_of_mem _ m)]
    rfl
theorem deep_all {n : Nat} : ∀ {ds : List PyData}, (∀ d ∈ ds, d.depth ≤ n) → PyData.depthAll ds ≤ n
  | [], _ => Nat.zero_le _
  | d :: r, h => by
    rw [PyData.depthAll]
    have := h d (List.mem_cons_self ..)
    have := deep_all fun x m => h x (List.mem_cons_of_mem _ m)
    omega
theorem okd_tup {ds : List PyData} (h : ∀ d ∈ ds, d.canLay0 = true) (h2 : ∀ d ∈ ds, d.depth ≤ 59) : Okd (.tuple ds) := ⟨lay_all h, by
  show PyData.depthAll ds + 1 ≤ 60
  have := deep_all h2
  omega⟩
theorem okd_list {ds : List PyData} (h : ∀ d ∈ ds, d.canLay0 = true) (h2 : ∀ d ∈ ds, d.depth ≤ 59) : Okd (.list ds) := ⟨lay_all h, by
  show PyData.depthAll ds + 1 ≤ 60
  have := deep_all h2
  omega⟩
theorem dH_d (h : List (Int × Str)) : (dH h).depth ≤ 2 := by
  show PyData.depthAll (h.map dPair) + 1 ≤ 2
  have := dH_deep h
  omega
theorem dQ_d (l : List (Int × Int)) : (dQ l).depth ≤ 2 := by
  show PyData.depthAll (l.map dP2) + 1 ≤ 2
  have := dQ_deep l
  omega
theorem dI_d (l : List Int) : (dI l).depth ≤ 1 := by
  show PyData.depthAll (l.map PyData.int) + 1 ≤ 1
  rw [PySem.W.depth_ints]
  decide
/-- a tuple of a house and its order -/
theorem okd_HQ {h : List (Int × Str)} (a : LetAll h) (l : List (Int × Int)) : Okd (.tuple [dH h, dQ l]) := okd_tup (fun d m => by
  simp only [List.mem_cons, List.not_mem_nil, or_false] at m
  rcases m with rfl | rfl
  · exact dH_lay a
  · exact dQ_lay l) fun d m => by
  simp only [List.mem_cons, List.not_mem_nil, or_false] at m
  rcases m with rfl | rfl
  · exact Nat.le_trans (dH_d h) (by decide)
  · exact Nat.le_trans (dQ_d l) (by decide)
theorem okd_HQI {h : List (Int × Str)} (a : LetAll h) (l : List (Int × Int)) (c : List Int) : Okd (.tuple [dH h, dQ l, dI c]) := okd_tup (fun d m => by
  simp only [List.mem_cons, List.not_mem_nil, or_false] at m
  rcases m with rfl | rfl | rfl
  · exact dH_lay a
  · exact dQ_lay l
  · exact dI_lay c) fun d m => by
  simp only [List.mem_cons, List.not_mem_nil, or_false] at m
  rcases m with rfl | rfl | rfl
  · exact Nat.le_trans (dH_d h) (by decide)
  · exact Nat.le_trans (dQ_d l) (by decide)
  · exact Nat.le_trans (dI_d c) (by decide)
end SH
set_option Elab.async false
set_option linter.all false
set_option maxRecDepth 100000
set_option maxHeartbeats 4000000
/-! the places of a word; pairs sorted -/
namespace SH
open PySem PySem.Spec PyProof.Rows L2
def e2 (q : Int × Int) : E3 := ("", q)
theorem p2_le {β : Type} (f : β → Int × Int) : PySem.W.dataLe false (fun b => dP2 (f b)) = fun p q => le3 (e2 (f p)) (e2 (f q)) := by
  funext p q
  show (!PySem.W.dataLt (dP2 (f q)) (dP2 (f p))) = _
  unfold dP2
  rw [PySem.W.dataLt_ii]
  unfold le3 lex3 e2
  congr 1
  refine decide_eq_decide.mpr ⟨fun h => .inr ⟨rfl, h⟩, fun h => h.elim (fun h => absurd h (List.lt_irrefl _)) fun h => h.2⟩
theorem sort_q (R : QT) : ((R.map fun z => (V.ref z.1, z.2)).mergeSort (PySem.W.dataLe false fun z => dP2 z.2)).map (·.1) = qrefs (R.mergeSort fun p q => le3 (e2 p.2) (e2 q.2)) := by
  rw [p2_le (β := V × Int × Int) (fun z => z.2), ← List.map_mergeSort (l := R) (f := fun z : Addr × Int × Int => (V.ref z.1, z.2)) (r := fun p q : Addr × Int × Int => le3 (e2 p.2) (e2 q.2)) (s := fun p q : V × Int × Int => le3 (e2 p.2) (e2 q.2)) (fun _ _ _ _ => rfl), List.map_map]
  rfl
theorem p2_alike {β : Type} (f : β → Int × Int) (bs : List β) : PySem.W.AllAlike (bs.map fun b => dP2 (f b)) := PySem.W.AllAlike.of fun b b' => by simp [dP2, PySem.W.alike, PySem.W.alikeAll]
theorem p2_able {β : Type} (f : β → Int × Int) (bs : List β) : PySem.W.Sortable (bs.map fun b => dP2 (f b)) := PySem.W.Sortable.tuples fun b => ⟨_, _, rfl⟩
theorem p2_deep (p : Int × Int) : (dP2 p).depth ≤ 60 := by
  show max 0 (max 0 0) + 1 ≤ 60
  decide
/-- pairs ascending -/
def Asc2 (l : List (Int × Int)) : Prop := (l.map e2).Pairwise (fun p q => le3 p q = true)
theorem sort_q_is {R : QT} {l : List (Int × Int)} (hp : (R.map (·.2)).Perm l) (ha : Asc2 l) : (R.mergeSort fun p q => le3 (e2 p.2) (e2 q.2)).map (·.2) = l := by
  have h1 : ((R.mergeSort fun p q => le3 (e2 p.2) (e2 q.2)).map fun z => e2 z.2) = l.map e2 := by
    refine sorted3_uniq (((List.mergeSort_perm _ _).map _).trans ?_) ?_ ha
    · have := hp.map e2
      rw [List.map_map] at this
      exact this
    · rw [List.pairwise_map]
      exact List.pairwise_mergeSort (le := fun p q : Addr × Int × Int => le3 (e2 p.2) (e2 q.2)) (fun p q r => le3_tr (e2 p.2) (e2 q.2) (e2 r.2)) (fun p q => le3_tot (e2 p.2) (e2 q.2)) R
  have h2 := congrArg (List.map (fun e : E3 => e.2)) h1
  rw [List.map_map, List.map_map] at h2
  have i1 : ((fun e : E3 => e.2) ∘ fun z : Addr × Int × Int => e2 z.2) = fun z => z.2 := rfl
  have i2 : ((fun e : E3 => e.2) ∘ e2) = id := rfl
  rw [i1, i2, List.map_id] at h2
  exact h2
/-! ### where a word stands -/
def standsP (w : Str) (z : Str) (s : Nat) : Bool := decide (((TL.tl z).drop s).take w.length = TL.tl w)
def plcOf (w : Str) (q : Int × Str) : List (Int × Int) := ((List.range (q.2.length + 1)).filter (standsP w q.2)).map fun s : Nat => (q.1, (s : Int))
def plc (h : List (Int × Str)) (w : Str) : List (Int × Int) := h.flatMap (plcOf w)
theorem stands_le {w z : Str} {s : Nat} (h : standsP w z s = true) (hs : s ≤ z.length) : s + w.length ≤ z.length := by
  have e := congrArg List.length (of_decide_eq_true h)
  rw [List.length_take, List.length_drop] at e
  have e1 : (TL.tl z).length = z.length := rfl
  have e2 : (TL.tl w).length = w.length := rfl
  omega
theorem range_cut {n k : Nat} {p : Nat → Bool} (h : ∀ s, s ≤ n → p s = true → s + k ≤ n) : (List.range (n + 1)).filter p = (List.range (n + 1 - k)).filter p := by
  rcases Nat.le_total k (n + 1) with c | c
  · have e : n + 1 = (n + 1 - k) + k := by omega
    conv => lhs; rw [e, List.range_add, List.filter_append]
    have : ((List.range k).map (fun x => n + 1 - k + x)).filter p = [] := List.filter_eq_nil_iff.mpr fun x hx hp => by
      obtain ⟨y, hy, rfl⟩ := List.mem_map.mp hx
      have := List.mem_range.mp hy
      have := h _ (by omega) hp
      omega
    rw [this, List.append_nil]
  · rw [show n + 1 - k = 0 by omega]
    show _ = []
    refine List.filter_eq_nil_iff.mpr fun x hx hp => ?_
    have := List.mem_range.mp hx
    have := h x (by omega) hp
    omega
theorem plcOf_cut (w : Str) (q : Int × Str) : plcOf w q = ((List.range (q.2.length + 1 - w.length)).filter (standsP w q.2)).map fun s : Nat => (q.1, (s : Int)) := by
  unfold plcOf
  rw [range_cut fun s hs hp => stands_le hp hs]
theorem plc_snoc (h : List (Int × Str)) (q : Int × Str) (w : Str) : plc (h ++ [q]) w = plc h w ++ plcOf w q := by
  unfold plc
  rw [List.flatMap_append]
  simp
/-- an end begins with the word -/
def begP (w : Str) (e : E3) : Bool := decide ((TL.tl e.1).take w.length = TL.tl w)
theorem plc_ends (w : Str) : ∀ (h : List (Int × Str)), ((ends3 h).filter (begP w)).map (·.2) = plc h w
  | [] => rfl
  | q :: r => by
    have e : ends3 (q :: r) = endsOf q ++ ends3 r := rfl
    have e2 : plc (q :: r) w = plcOf w q ++ plc r w := rfl
    rw [e, e2, List.filter_append, List.map_append, plc_ends w r]
    congr 1
    unfold endsOf plcOf
    rw [List.filter_map, List.map_map]
    have : (begP w ∘ fun s : Nat => (suf q.2 s, q.1, (s : Int))) = standsP w q.2 := by
      funext s
      show decide ((TL.tl (suf q.2 s)).take w.length = TL.tl w) = decide _
      rw [suf_tl]
    rw [this]
    rfl
theorem plcOf_asc (w : Str) (q : Int × Str) : ((plcOf w q).map e2).Pairwise (fun a b => le3 a b = true) := by
  unfold plcOf
  rw [List.map_map, List.pairwise_map]
  refine (List.Pairwise.filter _ (List.pairwise_lt_range (n := q.2.length + 1))).imp fun {a b} l => ?_
  unfold le3
  simp only [Bool.not_eq_true', decide_eq_false_iff_not]
  rintro (z | ⟨_, z | ⟨_, z⟩⟩)
  · exact List.lt_irrefl _ z
  · have : q.1 < q.1 := z
    omega
  · have : (b : Int) < (a : Int) := z
    omega
theorem mem_plcOf {w : Str} {q : Int × Str} {x : Int × Int} (h : x ∈ plcOf w q) : x.1 = q.1 ∧ ∃ s : Nat, x.2 = s ∧ s ≤ q.2.length ∧ standsP w q.2 s = true := by
  unfold plcOf at h
  obtain ⟨s, hs, rfl⟩ := List.mem_map.mp h
  obtain ⟨h1, h2⟩ := List.mem_filter.mp hs
  exact ⟨rfl, s, rfl, by have := List.mem_range.mp h1; omega, h2⟩
theorem plc_asc (w : Str) : ∀ {h : List (Int × Str)}, (h.map (·.1)).Pairwise (· < ·) → Asc2 (plc h w)
  | [], _ => List.Pairwise.nil
  | q :: r, asc => by
    rw [List.map_cons, List.pairwise_cons] at asc
    have ih := plc_asc w asc.2
    show ((plcOf w q ++ plc r w).map e2).Pairwise _
    rw [List.map_append, List.pairwise_append]
    refine ⟨plcOf_asc w q, ih, fun a ha b hb => ?_⟩
    obtain ⟨x, hx, rfl⟩ := List.mem_map.mp ha
    obtain ⟨y, hy, rfl⟩ := List.mem_map.mp hb
    obtain ⟨t, ht, hy⟩ := List.mem_flatMap.mp hy
    have l := asc.1 t.1 (List.mem_map_of_mem ht)
    have l1 := (mem_plcOf hx).1
    have l2 := (mem_plcOf hy).1
    unfold le3
    simp only [Bool.not_eq_true', decide_eq_false_iff_not]
    rintro (z | ⟨_, z | ⟨z, _⟩⟩)
    · exact List.lt_irrefl _ z
    · have : y.1 < x.1 := z
      omega
    · have : y.1 = x.1 := z
      omega
/-! ### the part of the order in a word's range -/
theorem anti_filter {α : Type} {p : α → Bool} : ∀ {E : List α}, E.Pairwise (fun a b => p b = true → p a = true) → E = E.filter p ++ E.filter fun x => !p x
  | [], _ => rfl
  | x :: E, h => by
    rw [List.pairwise_cons] at h
    cases c : p x with
    | true =>
      rw [List.filter_cons_of_pos c, List.filter_cons_of_neg (by rw [c]; decide), List.cons_append, ← anti_filter h.2]
    | false =>
      have no : ∀ y ∈ x :: E, p y = false := fun y hy => by
        rcases List.mem_cons.mp hy with e | m
        · rw [e]; exact c
        · cases d : p y with
          | false => rfl
          | true => rw [h.1 y m d] at c; cases c
      rw [List.filter_eq_nil_iff.mpr fun y hy => by rw [no y hy]; decide, List.nil_append]
      exact (List.filter_eq_self.mpr fun y hy => by rw [no y hy]; rfl).symm
theorem filter_take {α : Type} {p : α → Bool} {E : List α} (h : E.Pairwise (fun a b => p b = true → p a = true)) : E.take (E.filter p).length = E.filter p ∧ E.drop (E.filter p).length = E.filter fun x => !p x := by
  have e := anti_filter h
  generalize E.filter p = A at e ⊢
  generalize (E.filter fun x => !p x) = B at e ⊢
  subst e
  exact ⟨List.take_left, List.drop_left⟩
theorem rng_cut {E : List E3} (pw : E.Pairwise (fun p q => le3 p q = true)) (w : Str) : (E.drop (rFirst w E)).take (rMany w E) = E.filter (begP w) ∧ E.take (rFirst w E) = E.filter (prW w false) ∧ (E.drop (rFirst w E + rMany w E)) = E.filter (fun e => !prW w true e) := by
  have a1 := filter_take (p := prW w false) (pw.imp fun {a b} h => prW_mono h)
  rw [prW_f] at a1
  have a2 := filter_take (p := prW w true) (pw.imp fun {a b} h => prW_mono h)
  rw [prW_t] at a2
  have m : ((E.filter fun x => !prW w false x).filter (prW w true)) = E.filter (begP w) := by
    rw [List.filter_filter]
    congr 1
    funext e
    unfold prW begP
    cases c : decide ((TL.tl e.1).take w.length = TL.tl w) with
    | true =>
      rw [decide_eq_false (take_eq_not_lt (of_decide_eq_true c))]
      rfl
    | false =>
      cases decide (TL.tl e.1 < TL.tl w) <;> rfl
  have a3 := filter_take (p := prW w true) (E := E.filter fun x => !prW w false x) ((pw.filter _).imp fun {a b} h => prW_mono h)
  rw [m] at a3
  have l : (E.filter (begP w)).length = rMany w E := rfl
  rw [l] at a3
  refine ⟨?_, a1.1, a2.2⟩
  rw [a1.2]
  exact a3.1
theorem comm_take : ∀ (n : Nat) (x y : List Nat), n ≤ comm x y → x.take n = y.take n
  | 0, _, _, _ => by simp
  | n + 1, [], y, h => by simp [comm] at h
  | n + 1, _ :: _, [], h => by simp [comm] at h
  | n + 1, a :: x, b :: y, h => by
    unfold comm at h
    by_cases e : a = b
    · rw [if_pos e] at h
      rw [List.take_succ_cons, List.take_succ_cons, e, comm_take n x y (by omega)]
    · rw [if_neg e] at h
      omega
theorem take_comm : ∀ (n : Nat) (x y : List Nat), n ≤ x.length → n ≤ y.length → x.take n = y.take n → n ≤ comm x y
  | 0, _, _, _, _, _ => Nat.zero_le _
  | n + 1, [], y, h, _, _ => by simp at h
  | n + 1, _ :: _, [], _, h, _ => by simp at h
  | n + 1, a :: x, b :: y, h1, h2, e => by
    rw [List.take_succ_cons, List.take_succ_cons] at e
    unfold comm
    rw [if_pos (List.cons.inj e).1]
    have := take_comm n x y (by simpa using h1) (by simpa using h2) (List.cons.inj e).2
    omega
/-- all places of the word: a new list -/
def spPlaces (K : PySem.W.Frag) : Sp := fun vs H Q _ => ∃ (a : Addr) (L : PL) (wd : Str), vs = [.ref a, .str wd] ∧ HsAt K H a L ∧ L.length ≤ 500 ∧ (∀ q ∈ L, q.2.2.length ≤ 100) ∧ wd.length ≤ 1000 ∧
  ∀ (l : Addr) (R : QT) (H' : Hp), Same H H' → H l = none → H' l = some (.lst (qrefs R)) → QAt K H' R → R.map (·.2) = plc (L.map (·.2)) wd → Q (.ref l) H'
theorem plcOf_len (w : Str) (q : Int × Str) : (plcOf w q).length ≤ q.2.length + 1 := by
  unfold plcOf
  rw [List.length_map]
  refine Nat.le_trans (List.length_filter_le _ _) ?_
  rw [List.length_range]
  exact Nat.le_refl _
theorem plc_len {m : Nat} {w : Str} : ∀ {h : List (Int × Str)}, (∀ q ∈ h, q.2.length ≤ m) → (plc h w).length ≤ (m + 1) * h.length
  | [], _ => Nat.zero_le _
  | q :: r, a => by
    have e : plc (q :: r) w = plcOf w q ++ plc r w := rfl
    rw [e, List.length_append, List.length_cons, Nat.mul_add]
    have := a q (List.mem_cons_self ..)
    have := plcOf_len w q
    have := plc_len (w := w) fun x hx => a x (List.mem_cons_of_mem _ hx)
    omega
end SH
set_option Elab.async false
set_option linter.all false
set_option maxRecDepth 100000
set_option maxHeartbeats 4000000
/-! zip of two texts: new pairs of their signs -/
namespace SH
open PySem PySem.Spec PyProof.Rows L2
def pairHere (x y : Str) (i : Nat) (H : Hp) (v : V) (H' : Hp) : Prop := ∃ (T : Addr) (c d : Nat), v = .ref T ∧ H T = none ∧ H' = upd H T (.tup [.str ⟨#[c]⟩, .str ⟨#[d]⟩]) ∧ x.cps[i]? = some c ∧ y.cps[i]? = some d
def Itzs (x y : Str) : It := ⟨fun i _ => i < min x.cps.size y.cps.size, fun i H v H' => pairHere x y i H v H', fun i _ => i = min x.cps.size y.cps.size⟩
def zipsAt (x y : Str) (t u : Tok) (z TI TO i1 i2 : Addr) (i : Nat) (h : Heap) : Prop :=
  IsZip h z TI TO .none ∧ IsTupOf2 h TI (.ref i1) (.ref i2) ∧ (∃ p q, IsTupOf2 h TO p q) ∧ h.IsStrIter i1 (strIterType x) x t i ∧ h.IsStrIter i2 (strIterType y) y u i
theorem turn_zips {P : Program} {w : World} {K : PySem.W.Frag} {es : List Expr} {n : Nat} {ps : Pos} {x y : Str} {t u : Tok} {z TI TO i1 i2 : Addr} (D : ZipSep2 z TI TO i1 i2 [i1] [i2]) :
    Turn P w K (.Tuple es n ps) (Itzs x y) [z, TI, TO, i1, i2] z (zipsAt x y t u z TI TO i1 i2) where
  mem := by simp
  obj := fun i h st c hc => by
    obtain ⟨g0, gI, ⟨p, q, gO⟩, ⟨o1, e1, _, d1⟩, ⟨o2, e2, _, d2⟩⟩ := st
    simp only [List.mem_cons, List.not_mem_nil, or_false] at hc
    rcases hc with rfl | rfl | rfl | rfl | rfl
    · exact ⟨_, g0, fun v q => nomatch q⟩
    · exact ⟨_, gI, fun v q => nomatch q⟩
    · exact ⟨_, gO, fun v q => nomatch q⟩
    · exact ⟨o1, e1, fun v q => by rw [d1] at q; cases q⟩
    · exact ⟨o2, e2, fun v q => by rw [d2] at q; cases q⟩
  keep := fun i h h' st k => by
    obtain ⟨g0, gI, ⟨p, q, gO⟩, ⟨o1, e1, r1⟩, ⟨o2, e2, r2⟩⟩ := st
    exact ⟨k z (by simp) _ g0, k TI (by simp) _ gI, ⟨p, q, k TO (by simp) _ gO⟩, ⟨o1, k i1 (by simp) _ e1, r1⟩, ⟨o2, k i2 (by simp) _ e2, r2⟩⟩
  item := by
    intro X hP hw hK hc i pins s σ H E I hf st hg
    subst hP hw hK
    obtain ⟨g0, gI, ⟨p, q, gO⟩, st1, st2⟩ := st
    have hg' : i < min x.cps.size y.cps.size := hg
    have hh : X.A.in1.handled = none := I.ok.hd hc
    refine wpAny_pyNext_zipD2_item D (Draws.text hh i1 x t) (Draws.text hh i2 y u) g0 gI gO st1 st2 (by omega) (by omega) fun v1 v2 h' tk hv1 hv2 z' TO' st1' st2' hT hsz hk => ?_
    obtain ⟨c, a1, hc1, rfl⟩ := hv1
    obtain ⟨d, a2, hd1, rfl⟩ := hv2
    have hzl : z < s.heap.objs.size := Heap.lt_size g0
    refine ⟨_, rfl, wpAny_letOwnedTupleGo_zip (s := { s with heap := h', toks := tk }) z' fun h2 z2 sb => ?_⟩
    have hT2 : IsTupOf2 h2 s.heap.objs.size (.str ⟨#[c]⟩ a1) (.str ⟨#[d]⟩ a2) := (sb.2 _ (Nat.ne_of_gt hzl)).trans hT
    have new : ObjOk X.prog X.w (upd H s.heap.objs.size (.tup [.str ⟨#[c]⟩, .str ⟨#[d]⟩])) h2 s.heap.objs.size (.tup [.str ⟨#[c]⟩, .str ⟨#[d]⟩]) :=
      ⟨by show 2 ≤ sizeLine; decide, [_, _], .cons ⟨_, rfl⟩ (.cons ⟨_, rfl⟩ .nil), ⟨_, hT2, rfl, _, rfl⟩⟩
    have I1 : Inv X pins σ (upd H s.heap.objs.size (.tup [.str ⟨#[c]⟩, .str ⟨#[d]⟩])) { s with heap := h2, toks := tk } :=
      I.turnedNew (t' := tk) (ch := [z, TI, TO, i1, i2]) (fun b o hb e => by
        simp only [List.mem_cons, List.not_mem_nil, or_false, not_or] at hb
        exact (sb.2 b hb.1).trans (hk b o hb.1 hb.2.2.1 hb.2.2.2.1 hb.2.2.2.2 e)) hf (Nat.le_refl _) new
    refine ⟨.ref s.heap.objs.size, _, I1, rfl, ⟨_, c, d, rfl, I.hok.fresh (Nat.le_refl _), rfl, hc1, hd1⟩, ⟨z2, ?_, ⟨.str ⟨#[c]⟩ a1, .str ⟨#[d]⟩ a2, ?_⟩, ?_, ?_⟩, fun b hb => ?_⟩
    · exact (sb.2 _ D.TIz).trans (hk _ _ D.TIz D.TITO D.TIi1 D.TIi2 gI)
    · exact (sb.2 _ D.TOz).trans TO'
    · obtain ⟨o, e, r⟩ := st1'
      exact ⟨o, (sb.2 _ (Ne.symm D.zi1)).trans e, r⟩
    · obtain ⟨o, e, r⟩ := st2'
      exact ⟨o, (sb.2 _ (Ne.symm D.zi2)).trans e, r⟩
    · have hlt : b < s.heap.objs.size := by
        simp only [List.mem_cons, List.not_mem_nil, or_false] at hb
        rcases hb with rfl | rfl | rfl | rfl | rfl
        · exact hzl
        · exact Heap.lt_size gI
        · exact Heap.lt_size gO
        · obtain ⟨_, e, _⟩ := st1; exact Heap.lt_size e
        · obtain ⟨_, e, _⟩ := st2; exact Heap.lt_size e
      rw [upd_ne (Nat.ne_of_lt hlt)]
      exact (hf b hb).1
  done := by
    intro X hP hw hK hc i pins s σ H E I hf st hg
    subst hP hw hK
    obtain ⟨g0, gI, ⟨p, q, gO⟩, st1, st2⟩ := st
    have hg' : i = min x.cps.size y.cps.size := hg
    have hh : X.A.in1.handled = none := I.ok.hd hc
    exact wpAny_pyNext_zipD2_end D (Draws.text hh i1 x t) (Draws.text hh i2 y u) g0 gI gO st1 st2 (by omega) (by omega) (by omega) fun h' tk hk => ⟨rfl, I.turnedL (t' := tk) (ch := [z, TI, TO, i1, i2]) (fun b o hb e => by
      simp only [List.mem_cons, List.not_mem_nil, or_false, not_or] at hb
      exact hk b o hb.1 hb.2.2.1 hb.2.2.2.1 hb.2.2.2.2 e) hf⟩
  self := fun A i s Q E st h => wpAny_pyIter_zip st.1 h
def iZipS (ta : TA) : TI := fun σ H R => ta σ H fun vs H1 => ∃ x y, vs = [.str x, .str y] ∧ R (Itzs x y) H1
theorem pi_zipS {X : Cx} {e e2 : Expr} {ta : TA} {p pos ps : Pos} {es : List Expr} {n : Nat} (hg : Gl X "zip") (hm : X.mg "zip" = none) (ha : PA X [e, e2] ta)
    (hs : starEach [e, e2] X.env = (false, eval e X.env) :: starEach [e2] X.env := by rfl) (hpl : (backTo pos (starEach [e2] X.env)).any (·.1) = false := by rfl) :
    PI X (.Tuple es n ps) (.Call (.Name "zip" p) [e, e2] [] pos) (iZipS ta) := by
  refine ⟨fun pins s σ H R I h => ?_⟩
  refine Call_ (ld_blt I hg hm PyProof.Rows.boot_zip (PyProof.Rows.callWith_type1 (thn (ha.run pos pins s σ H _ I h) fun us s1 ⟨vs, H1, I1, r1, q1⟩ => ?_) hs hpl))
  obtain ⟨x, y, ex, q⟩ := q1
  subst ex
  obtain ⟨v1, v2, rfl, ⟨t1, rfl⟩, ⟨t2, rfl⟩⟩ := vals2 r1
  refine zip_begins2 (begins_text x t1) (begins_text y t2) trivial trivial fun h' g0 gI gO g1 g2 hsz hk => wpAny_pyIter_zip g0 ?_
  have I2 : Inv X pins σ H1 { s1 with heap := h' } := I1.kept (t' := s1.toks) hk
  refine ⟨s1.heap.objs.size + 4, [s1.heap.objs.size + 4, s1.heap.objs.size + 2, s1.heap.objs.size + 3, s1.heap.objs.size, s1.heap.objs.size + 1], _, _, H1, rfl, I2,
    turn_zips (t := t1) (u := t2) (zip_sep2 (fp1 := []) (fp2 := []) (fun _ h => nomatch h) fun _ h => nomatch h), ⟨g0, gI, ⟨_, _, gO⟩, ⟨_, g1, rfl, rfl⟩, ⟨_, g2, rfl, rfl⟩⟩, fun b hb => ?_, q⟩
  have hle : s1.heap.objs.size ≤ b := by
    simp only [List.mem_cons, List.not_mem_nil, or_false] at hb
    rcases hb with rfl | rfl | rfl | rfl | rfl
    · exact Nat.le_add_right _ _
    · exact Nat.le_add_right _ _
    · exact Nat.le_add_right _ _
    · exact Nat.le_refl _
    · exact Nat.le_add_right _ _
  exact I1.fpOk hle (I1.hok.fresh hle)
theorem walk_zips {x y : Str} : Walk (Itzs x y) (min x.cps.size y.cps.size) (fun _ => True) (pairHere x y) :=
  ⟨fun _ _ hi _ => hi, fun _ _ => rfl, fun _ _ _ _ _ _ q => q⟩
end SH
set_option Elab.async false
set_option linter.all false
set_option maxRecDepth 100000
set_option maxHeartbeats 4000000
/-! slices of texts as lists of signs; letters joined -/
namespace SH
open PySem PySem.Spec PyProof.Rows L2
theorem tlen (z : Str) : (TL.tl z).length = z.length := (TL.len_tl z).symm
theorem cuts_take (z : Str) (k : Nat) : TL.tl (cutS z none (some (k : Int))) = (TL.tl z).take k := by
  show (z.cps.toList.drop (HT.sIx z.length 0 none)).take (HT.sIx z.length z.length (some (k : Int)) - HT.sIx z.length 0 none) = _
  rw [HT.sIx_none, HT.sIx_nat, List.drop_zero, Nat.sub_zero]
  have hz : z.cps.toList.length = z.length := rfl
  rcases Nat.le_total k z.length with h | h
  · rw [Nat.min_eq_left h]
  · rw [Nat.min_eq_right h, List.take_of_length_le (by rw [hz]; exact Nat.le_refl _)]
    exact (List.take_of_length_le (by rw [tlen]; exact h)).symm
theorem cuts_drop (z : Str) (k : Nat) : TL.tl (cutS z (some (k : Int)) none) = (TL.tl z).drop k := by
  show (z.cps.toList.drop (HT.sIx z.length 0 (some (k : Int)))).take (HT.sIx z.length z.length none - HT.sIx z.length 0 (some (k : Int))) = _
  rw [HT.sIx_none, HT.sIx_nat]
  have hz : z.cps.toList.length = z.length := rfl
  rcases Nat.le_total k z.length with h | h
  · rw [Nat.min_eq_left h, List.take_of_length_le (by rw [List.length_drop, hz]; exact Nat.le_refl _)]
  · rw [Nat.min_eq_right h, List.drop_of_length_le (by rw [hz]; exact Nat.le_refl _), List.take_nil]
    exact (List.drop_of_length_le (by rw [tlen]; exact h)).symm
theorem joinL_ones : ∀ cs : List Nat, TL.joinL [] (cs.map fun c => [c]) = cs
  | [] => rfl
  | [c] => rfl
  | c :: d :: r => by
    show [c] ++ ([] ++ TL.joinL [] ((d :: r).map fun c => [c])) = _
    rw [joinL_ones (d :: r)]
    rfl
theorem tl_join_ones (cs : List Nat) : TL.tl (Txt.join "" (cs.map fun c => (⟨#[c]⟩ : Str))) = cs := by
  have e : (Txt.join "" (cs.map fun c => (⟨#[c]⟩ : Str))).cps.toList = TL.joinL [] (cs.map fun c => [c]) := by
    rw [TL.join_eq]
    refine (TL.tl_join "" _).trans ?_
    rw [List.map_map]
    rfl
  rw [joinL_ones] at e
  exact e
end SH
set_option Elab.async false
set_option linter.all false
set_option maxRecDepth 100000
set_option maxHeartbeats 4000000
namespace SH
open PySem PySem.Spec PyProof.Rows L2
def topS (i : Nat) : Stmt := PySem.Challenge.pw_suffixhouse_k18_whole_ranges_are_places.main.body.getD i (.Pass ⟨0, 0, 0, 0⟩)
abbrev s_range_of : Stmt := topS 1
abbrev s__count_before : Stmt := topS 2
abbrev s_order_of : Stmt := topS 4
abbrev s_commons_of : Stmt := topS 5
abbrev s__common_size : Stmt := topS 6
abbrev s_places : Stmt := topS 8
abbrev s_count : Stmt := topS 9
abbrev s__law_draws : Stmt := topS 11
abbrev s__law_at : Stmt := topS 12
abbrev s__law_mix : Stmt := topS 15
abbrev s__law_text : Stmt := topS 16
abbrev s__law_house : Stmt := topS 17
abbrev s__law_word : Stmt := topS 18
abbrev s_law : Stmt := topS 19
structure Ea where
  fI : Addr
structure Txt (K : PySem.W.Frag) (mg : Str → Option Value) (ea : Ea) : Prop where
  b_abs : mg "abs" = none
  b_bool : mg "bool" = none
  b_dict : mg "dict" = none
  b_int : mg "int" = none
  b_isinstance : mg "isinstance" = none
  b_len : mg "len" = none
  b_list : mg "list" = none
  b_min : mg "min" = none
  b_range : mg "range" = none
  b_sorted : mg "sorted" = none
  b_zip : mg "zip" = none
  d_range_of : Dd K mg "range_of" s_range_of ["house", "order", "word"]
  d__count_before : Dd K mg "_count_before" s__count_before ["texts", "order", "word", "with_word"]
  d_order_of : Dd K mg "order_of" s_order_of ["house"]
  d_commons_of : Dd K mg "commons_of" s_commons_of ["house", "order"]
  d__common_size : Dd K mg "_common_size" s__common_size ["texts", "one", "two"]
  d_places : Dd K mg "places" s_places ["house", "word"]
  d_count : Dd K mg "count" s_count ["house", "word"]
  d__law_draws : Dd K mg "_law_draws" s__law_draws ["script"]
  d__law_at : Dd K mg "_law_at" s__law_at ["draws", "k", "many"]
  d__law_mix : Dd K mg "_law_mix" s__law_mix ["draws", "k", "many"]
  d__law_text : Dd K mg "_law_text" s__law_text ["draws", "k", "most"]
  d__law_house : Dd K mg "_law_house" s__law_house ["draws", "k", "most"]
  d__law_word : Dd K mg "_law_word" s__law_word ["draws", "k", "house"]
  d_law : Dd K mg "law" s_law ["script"]
section
variable {P : Program} {w : World} {K : PySem.W.Frag} {mg : Str → Option Value} {base : Heap} {ea : Ea}
theorem sc__law_at : FnScope ["draws", "k", "many"] ["draws", "k", "many"] (defScope s__law_at) := ⟨rfl, rfl, rfl, by decide +kernel, rfl, by decide +kernel, by decide +kernel⟩
theorem ok__law_at (T : Txt K mg ea) : Cl P w K mg base 1 "_law_at" (spDraw K) := by
  have nd := sc__law_at.nd
  refine cl_of T.d__law_at sc__law_at (fun vs H Q E h => ?_) (fun f cdv A outer s H vs Q E hr h => ?_)
  · obtain ⟨a, ns, k, many, rfl, _⟩ := h
    rfl
  · obtain ⟨a, ns, k, many, rfl, hS, hD, h0, h1, hm, q⟩ := h
    refine ⟨_, (pss_cons (ps_if (pt_cmpR op_lt (pv 1) (pe_callB call_len_seq (by rfl) T.b_len PySem.boot_len (pa_cons (pv 0) pa_nil)) (nomark _))
        (pss_one (ps_ret (pe_op op_mod (pe_callTy call_int1 (by rfl) T.b_int (by decide +kernel) (pa_cons (pe_ix (ixl (K := K)) (pv 0) (pv 1) (fun _ _ => rfl)) pa_nil)) (pv 2))))
        pss_nil)
      (pss_one (ps_ret pe_int))), ?_⟩
    refine ⟨_, rfl, _, rfl, _, _, rfl, .inl hS, _, _, rfl, rfl, _, rfl, ite2 (fun e => ?_) (fun e => ?_)⟩
    · have e' := of_decide_eq_true e
      rw [List.length_map] at e'
      obtain ⟨z, hz, hm2⟩ := at_ints h0 e'
      refine ⟨_, rfl, _, rfl, _, _, _, _, rfl, rfl, hS, hz, .inl ⟨_, rfl, _, rfl, _, _, rfl, rfl, hm, ?_⟩⟩
      exact q _ (Int.emod_nonneg _ (by omega)) (Int.emod_lt_of_pos _ hm)
    · exact q 0 (by omega) hm
theorem sc__law_mix : FnScope ["draws", "k", "many", "value"] ["draws", "k", "many"] (defScope s__law_mix) := ⟨rfl, rfl, rfl, by decide +kernel, rfl, by decide +kernel, by decide +kernel⟩
theorem ok__law_mix (T : Txt K mg ea) : Cl P w K mg base 1 "_law_mix" (spDraw K) := by
  have nd := sc__law_mix.nd
  refine cl_of T.d__law_mix sc__law_mix (fun vs H Q E h => ?_) (fun f cdv A outer s H vs Q E hr h => ?_)
  · obtain ⟨a, ns, k, many, rfl, _⟩ := h
    rfl
  · obtain ⟨a, ns, k, many, rfl, hS, hD, h0, h1, hm, q⟩ := h
    refine ⟨_, (pss_cons (ps_set (i := 3) nd rfl (.inl rfl) pe_int)
      (C8.pss_cut (ps_if (pt_cmpR op_gt (pe_callB call_len_seq (by rfl) T.b_len PySem.boot_len (pa_cons (pv 0) pa_nil)) pe_int (nomark _))
        (pss_one (ps_set (i := 3) nd rfl (.inl rfl) (pe_ix (ixl (K := K)) (pv 0) (pe_op op_mod (pe_callTy call_int1 (by rfl) T.b_int (by decide +kernel) (pa_cons (pv 1) pa_nil)) (pe_callB call_len_seq (by rfl) T.b_len PySem.boot_len (pa_cons (pv 0) pa_nil))) (fun _ _ => rfl))))
        pss_nil)
      (pss_cons (ps_if (pt_cmpR op_lt (pv 1) (pe_callB call_len_seq (by rfl) T.b_len PySem.boot_len (pa_cons (pv 0) pa_nil)) (nomark _))
        (pss_one (ps_ret (pe_op op_mod (pe_callTy call_int1 (by rfl) T.b_int (by decide +kernel) (pa_cons (pv 3) pa_nil)) (pv 2))))
        pss_nil)
      (pss_one (ps_ret (pe_op op_mod (pe_callTy call_int1 (by rfl) T.b_int (by decide +kernel) (pa_cons (pe_op op_fdiv (pe_callTy call_int1 (by rfl) T.b_int (by decide +kernel) (pa_cons (pe_op op_add (pe_op op_mul (pv 3) pe_int) (pe_op op_mul (pv 1) pe_int)) pa_nil)) pe_int) pa_nil)) (pv 2))))))), ?_⟩
    have hl : (ns.map V.int).length = ns.length := List.length_map ..
    -- the value is a small number behind the if
    refine ⟨fun σ H' => H' = H ∧ ∃ z : Int, 0 ≤ z ∧ z < 65536 ∧ σ = [some (.ref a), some (.int k), some (.int many), some (.int z)], ?_, ?_⟩
    · refine ⟨_, rfl, _, _, rfl, .inl hS, _, _, rfl, rfl, _, rfl, ite2 (fun e => ?_) (fun e => ?_)⟩
      · have e' := of_decide_eq_true e
        rw [hl] at e'
        obtain ⟨z, hz, hm2⟩ := at_ints (ns := ns) (i := k % (ns.length : Int)) (Int.emod_nonneg _ (by omega)) (Int.emod_lt_of_pos _ (by omega))
        refine ⟨_, rfl, _, rfl, .inl ⟨_, rfl, _, rfl, _, _, rfl, .inl hS, _, _, rfl, rfl, (by show (0 : Int) < ((ns.map V.int).length : Int); omega), ?_⟩⟩
        refine ⟨_, _, _, _, rfl, rfl, hS, (by rw [hl]; exact hz), ?_⟩
        exact ⟨rfl, z, (hD.2 z hm2).1, (hD.2 z hm2).2, rfl⟩
      · exact ⟨rfl, 0, by omega, by omega, rfl⟩
    · rintro σ' H' ⟨rfl, z, z0, z1, rfl⟩
      refine ⟨_, rfl, _, rfl, _, _, rfl, .inl hS, _, _, rfl, rfl, _, rfl, ite2 (fun e => ?_) (fun e => ?_)⟩
      · refine ⟨_, rfl, .inl ⟨_, rfl, _, rfl, _, _, rfl, rfl, hm, ?_⟩⟩
        exact q _ (Int.emod_nonneg _ (by omega)) (Int.emod_lt_of_pos _ hm)
      · refine ⟨_, rfl, _, _, rfl, rfl, .inr (by decide), _, rfl, _, _, rfl, rfl, .inr (by decide), _, _, rfl, rfl, .inl ⟨_, rfl, _, _, rfl, rfl, (by constructor <;> decide), .inl ⟨_, rfl, _, rfl, _, _, rfl, rfl, hm, ?_⟩⟩⟩
        exact q _ (Int.emod_nonneg _ (by omega)) (Int.emod_lt_of_pos _ hm)
/-- the numbers drawn from the script: a new list of small numbers -/
def spDraws (K : PySem.W.Frag) : Sp := fun vs H Q _ => ∃ (a : Addr) (ns : List Int), vs = [.ref a] ∧ SqL K H a (ns.map V.int) ∧ ns.length ≤ 63 ∧
  ∀ (p : Addr) (ds : List Int) (H' : Hp), Same H H' → H p = none → H' p = some (.lst (ds.map V.int)) → Dr ds → Q (.ref p) H'
/-- the list at p so far -/
structure DrAt (H H' : Hp) (p : Addr) (n : Nat) (ds : List Int) : Prop where
  sm : Same H H'
  at_ : H' p = some (.lst (ds.map V.int))
  len : ds.length ≤ n
  all : ∀ z ∈ ds, 0 ≤ z ∧ z < 65536
theorem DrAt.more {H H' : Hp} {p : Addr} {n : Nat} {ds : List Int} (h : DrAt H H' p n ds) (hp : H p = none) {z : Int} (z0 : 0 ≤ z) (z1 : z < 65536) : DrAt H (upd H' p (.lst (ds.map V.int ++ [.int z]))) p (n + 1) (ds ++ [z]) :=
  ⟨same_mut h.sm hp, by rw [upd_same, List.map_append]; rfl, by rw [List.length_append]; have := h.len; simp; omega, fun y hy => by
    rcases List.mem_append.mp hy with m | m
    · exact h.all y m
    · rw [List.mem_singleton.mp m]; exact ⟨z0, z1⟩⟩
theorem DrAt.mono {H H' : Hp} {p : Addr} {n m : Nat} {ds : List Int} (h : DrAt H H' p n ds) (l : n ≤ m) : DrAt H H' p m ds := ⟨h.sm, h.at_, Nat.le_trans h.len l, h.all⟩
theorem sc__law_draws : FnScope ["script", "draws", "k", "rest", "turn", "mixed"] ["script"] (defScope s__law_draws) := ⟨rfl, rfl, rfl, by decide +kernel, rfl, by decide +kernel, by decide +kernel⟩
theorem ok__law_draws (T : Txt K mg ea) : Cl P w K mg base 1 "_law_draws" (spDraws K) := by
  have nd := sc__law_draws.nd
  refine cl_of T.d__law_draws sc__law_draws (fun vs H Q E h => ?_) (fun f cdv A outer s H vs Q E hr h => ?_)
  · obtain ⟨a, ns, rfl, _⟩ := h
    rfl
  · obtain ⟨a, ns, rfl, hS, hl, q⟩ := h
    refine ⟨_, (pss_cons (ps_set (i := 1) nd rfl (.inl rfl) (pe_lst pa_nil))
      (pss_cons (ps_for PassesOwn.never rfl (pi_range1 rfl T.b_range (pa_cons (pe_callB (call_min2 rfl) (by rfl) T.b_min (by decide +kernel) (pa_cons pe_int (pa_cons (pe_callB call_len_seq (by rfl) T.b_len PySem.boot_len (pa_cons (pv 0) pa_nil)) pa_nil))) pa_nil)) (pg_name (i := 2) nd rfl (.inl rfl))
        (pss_cons (ps_set (i := 3) nd rfl (.inl rfl) (pe_callB call_abs (by rfl) T.b_abs (by decide +kernel) (pa_cons (pe_ix (ixl (K := K)) (pv 0) (pv 2) (fun _ _ => rfl)) pa_nil)))
          (pss_one (ps_if (pt_cmpR op_ge (pv 3) (pe_op op_pow pe_int pe_int) (nomark _))
            (pss_one (ps_for PassesOwn.never rfl (pi_range1 rfl T.b_range (pa_cons pe_int pa_nil)) (pg_name (i := 4) nd rfl (.inl rfl))
                (pss_one (ps_if (pt_cmpR op_gt (pv 3) pe_int (nomark _))
                    (pss_cons (ps_expr (pe_bm PySem.F.plainAttrs_list PySem.F.slot_list_append PySem.F.type_list_append mt_append (pv 1) (pa_cons (pe_op op_mod (pe_callTy call_int1 (by rfl) T.b_int (by decide +kernel) (pa_cons (pv 3) pa_nil)) pe_int) pa_nil)))
                      (pss_one (ps_set (i := 3) nd rfl (.inl rfl) (pe_op op_fdiv (pv 3) pe_int))))
                    pss_nil))))
            (pss_cons (ps_set (i := 5) nd rfl (.inl rfl) (pe_op op_mod (pe_callTy call_int1 (by rfl) T.b_int (by decide +kernel) (pa_cons (pe_op op_add (pe_op op_mul (pv 3) pe_int) (pe_op op_mul (pe_op op_add (pv 2) pe_int) pe_int)) pa_nil)) pe_int))
              (pss_cons (ps_set (i := 5) nd rfl (.inl rfl) (pe_op op_mod (pe_callTy call_int1 (by rfl) T.b_int (by decide +kernel) (pa_cons (pe_op op_add (pe_op op_add (pe_op op_mul (pv 5) pe_int) (pe_op op_mul pe_int (pv 2))) pe_int) pa_nil)) pe_int))
              (pss_cons (ps_expr (pe_bm PySem.F.plainAttrs_list PySem.F.slot_list_append PySem.F.type_list_append mt_append (pv 1) (pa_cons (pe_op op_mod (pe_callTy call_int1 (by rfl) T.b_int (by decide +kernel) (pa_cons (pv 5) pa_nil)) pe_int) pa_nil)))
              (pss_one (ps_expr (pe_bm PySem.F.plainAttrs_list PySem.F.slot_list_append PySem.F.type_list_append mt_append (pv 1) (pa_cons (pe_op op_mod (pe_callTy call_int1 (by rfl) T.b_int (by decide +kernel) (pa_cons (pe_op op_fdiv (pv 5) pe_int) pa_nil)) pe_int) pa_nil)))))))))))
      (pss_one (ps_ret (pv 1))))), ?_⟩
    refine ⟨Nat.zero_le _, fun p hp => ?_⟩
    have sm0 : Same H (upd H p (.lst [])) := same_new hp
    have hlen : (ns.map V.int).length = ns.length := List.length_map ..
    refine ⟨_, rfl, _, _, rfl, .inl (sm0.seq hS), _, _, rfl, ?_⟩
    have hm : (if ((ns.map V.int).length : Int) < 63 then ((ns.map V.int).length : Int) else 63) ≤ ns.length ∧ 0 ≤ (if ((ns.map V.int).length : Int) < 63 then ((ns.map V.int).length : Int) else 63) ∧ (if ((ns.map V.int).length : Int) < 63 then ((ns.map V.int).length : Int) else 63) ≤ 63 := by
      rw [hlen]; split <;> omega
    refine ⟨_, rfl, by omega, by omega, ?_⟩
    generalize (if ((ns.map V.int).length : Int) < 63 then ((ns.map V.int).length : Int) else 63) = m at hm ⊢
    obtain ⟨m1, m0, m2⟩ := hm
    refine for_range (lo := 0) (n := m.toNat) (fun i σ H' => ∃ (ds : List Int) (y2 y3 y4 y5 : Option V), σ = [some (.ref a), some (.ref p), y2, y3, y4, y5] ∧ DrAt H H' p (60 * i) ds)
      ⟨[], none, none, none, none, rfl, sm0, upd_same, Nat.zero_le _, fun z hz => by cases hz⟩ (fun i σ H' hi hW => ?_) (fun σ H' hW => ?_)
    · obtain ⟨ds, y2, y3, y4, y5, rfl, hA⟩ := hW
      obtain ⟨z, hz, _⟩ := at_ints (ns := ns) (i := 0 + (i : Int)) (by omega) (by omega)
      refine ⟨_, rfl, _, rfl, _, _, _, _, rfl, rfl, hA.sm.seq hS, hz, _, rfl, ?_⟩
      generalize (if z < 0 then -z else z) = r
      refine ⟨_, rfl, _, _, rfl, rfl, ⟨by decide, by decide, by decide⟩, _, _, rfl, rfl, _, rfl, ite2 (fun e => ?_) (fun e => ?_)⟩
      · -- a great number: its digits
        refine ⟨60, rfl, by decide, by decide, ?_⟩
        refine for_range (lo := 0) (n := 60) (fun j σ H' => ∃ (ds : List Int) (r' : Int) (y4 : Option V), σ = [some (.ref a), some (.ref p), some (.int (0 + (i : Int))), some (.int r'), y4, y5] ∧ DrAt H H' p (60 * i + j) ds)
          ⟨ds, r, y4, rfl, hA⟩ (fun j σ H2 hj hW => ?_) (fun σ H2 hW => ?_)
        · obtain ⟨ds2, r2, y42, rfl, hA2⟩ := hW
          refine ⟨_, rfl, _, _, rfl, rfl, _, rfl, ite2 (fun e => ?_) (fun e => ?_)⟩
          · refine ⟨_, rfl, .inl ⟨rfl, _, SqL.of hA2.at_⟩, _, rfl, .inl ⟨_, rfl, _, _, rfl, rfl, (by show (0 : Int) < 65536; decide), ?_⟩⟩
            refine ⟨p, _, _, rfl, rfl, hA2.at_, ?_, ?_⟩
            · rw [List.length_map]; exact Nat.lt_of_le_of_lt (Nat.le_trans hA2.len (by omega : _ ≤ 4000)) (by decide)
            · refine ⟨_, rfl, _, _, rfl, rfl, (by constructor <;> decide), ?_⟩
              exact ⟨_, _, _, rfl, hA2.more hp (Int.emod_nonneg _ (by decide)) (Int.emod_lt_of_pos _ (by decide))⟩
          · exact ⟨ds2, r2, _, rfl, hA2.mono (by omega)⟩
        · obtain ⟨ds2, r2, y42, rfl, hA2⟩ := hW
          exact ⟨ds2, _, _, _, _, rfl, hA2.mono (by omega)⟩
      · -- a lesser one: two numbers mixed
        refine ⟨_, rfl, _, _, rfl, rfl, .inr (by decide), _, rfl, _, _, rfl, rfl, _, _, rfl, rfl, .inr (by decide), _, _, rfl, rfl, .inl ⟨_, rfl, _, _, rfl, rfl, (by show (0 : Int) < 2147483647; decide), ?_⟩⟩
        refine ⟨_, rfl, _, _, rfl, rfl, .inr (by decide), _, rfl, _, _, rfl, rfl, .inl (by decide), _, _, rfl, rfl, _, _, rfl, rfl, .inl ⟨_, rfl, _, _, rfl, rfl, (by show (0 : Int) < 2147483629; decide), ?_⟩⟩
        have b1 : (ds.map V.int).length < sizeLine := by rw [List.length_map]; exact Nat.lt_of_le_of_lt (Nat.le_trans hA.len (by omega : _ ≤ 4000)) (by decide)
        refine ⟨_, rfl, .inl ⟨rfl, _, SqL.of hA.at_⟩, _, rfl, .inl ⟨_, rfl, _, _, rfl, rfl, (by show (0 : Int) < 65536; decide), p, _, _, rfl, rfl, hA.at_, b1, ?_⟩⟩
        have hB := hA.more hp (z := (((r * 48271 + (0 + (i : Int) + 1) * 69621) % 2147483647 * 16807 + 11 * (0 + (i : Int)) + 5) % 2147483629) % 65536) (Int.emod_nonneg _ (by decide)) (Int.emod_lt_of_pos _ (by decide))
        have b2 : ((ds ++ [(((r * 48271 + (0 + (i : Int) + 1) * 69621) % 2147483647 * 16807 + 11 * (0 + (i : Int)) + 5) % 2147483629) % 65536]).map V.int).length < sizeLine := by rw [List.length_map]; exact Nat.lt_of_le_of_lt (Nat.le_trans hB.len (by omega : _ ≤ 4000)) (by decide)
        refine ⟨_, rfl, .inl ⟨rfl, _, SqL.of hB.at_⟩, _, rfl, _, _, rfl, rfl, (by constructor <;> decide), .inl ⟨_, rfl, _, _, rfl, rfl, (by show (0 : Int) < 32768; decide), p, _, _, rfl, rfl, hB.at_, b2, ?_⟩⟩
        exact ⟨_, _, _, _, _, rfl, (hB.more hp (z := (((r * 48271 + (0 + (i : Int) + 1) * 69621) % 2147483647 * 16807 + 11 * (0 + (i : Int)) + 5) % 2147483629) / 65536 % 32768) (Int.emod_nonneg _ (by decide)) (by have := Int.emod_lt_of_pos ((((r * 48271 + (0 + (i : Int) + 1) * 69621) % 2147483647 * 16807 + 11 * (0 + (i : Int)) + 5) % 2147483629) / 65536) (show (0 : Int) < 32768 by decide); omega)).mono (by omega)⟩
    · obtain ⟨ds, y2, y3, y4, y5, rfl, hA⟩ := hW
      exact ⟨_, rfl, q p ds H' hA.sm hp hA.at_ ⟨Nat.le_trans hA.len (by omega), hA.all⟩⟩
end

end SH
set_option Elab.async false
set_option linter.all false
set_option maxRecDepth 100000
set_option maxHeartbeats 4000000
namespace SH
open PySem PySem.Spec PyProof.Rows L2
section
variable {P : Program} {w : World} {K : PySem.W.Frag} {mg : Str → Option Value} {base : Heap} {ea : Ea}
theorem cut_let {z : Str} (h : IsLet z) (lo hi : Option Int) : IsLet (cutS z lo hi) := List.all_eq_true.mpr fun c hc => List.all_eq_true.mp h c (List.mem_of_mem_drop (List.mem_of_mem_take (show c ∈ (z.cps.toList.drop _).take _ from hc)))
theorem cut_to_len {z : Str} {n : Nat} : (cutS z none (some (n : Int))).length ≤ n := by
  show ((z.cps.toList.drop (HT.sIx z.length 0 none)).take (HT.sIx z.length z.length (some (n : Int)) - HT.sIx z.length 0 none)).toArray.size ≤ n
  rw [HT.sIx_nat, HT.sIx_none, List.size_toArray, List.length_take]
  omega
theorem join_ones : ∀ {ys : List Str}, (∀ y ∈ ys, y.length = 1 ∧ IsLet y) → (ys.map (·.length)).sum = ys.length ∧ ((Txt.join "" ys).length = ys.length ∧ IsLet (Txt.join "" ys)) := by
  intro ys h
  have e : TL.tl (Txt.join "" ys) = (ys.map TL.tl).flatten := by
    rw [TL.join_eq, TL.tl_join]
    have : ∀ l : List (List Nat), TL.joinL (TL.tl "") l = l.flatten := fun l => by
      induction l with
      | nil => rfl
      | cons a r ih =>
        cases r with
        | nil => simp [TL.joinL]
        | cons b r =>
          show a ++ (TL.tl "" ++ TL.joinL (TL.tl "") (b :: r)) = _
          rw [ih]
          rfl
    exact this _
  have s1 : (ys.map (·.length)).sum = ys.length := by
    clear e
    induction ys with
    | nil => rfl
    | cons a r ih =>
      rw [List.map_cons, List.sum_cons, ih fun y m => h y (List.mem_cons_of_mem _ m), (h a (List.mem_cons_self ..)).1, List.length_cons]
      omega
  refine ⟨s1, ?_, ?_⟩
  · have := congrArg List.length e
    rw [List.length_flatten, List.map_map] at this
    have e2 : (List.length ∘ TL.tl : Str → Nat) = fun y => y.length := rfl
    rw [e2, s1] at this
    exact this
  · show (TL.tl (Txt.join "" ys)).all okc = true
    rw [e]
    refine List.all_eq_true.mpr fun c hc => ?_
    obtain ⟨l, hl, hc⟩ := List.mem_flatten.mp hc
    obtain ⟨y, hy, rfl⟩ := List.mem_map.mp hl
    exact List.all_eq_true.mp (h y hy).2 c hc
/-- a text of at most so many letters -/
def spText (K : PySem.W.Frag) : Sp := fun vs H Q _ => ∃ (a : Addr) (ns : List Int) (k : Int) (most : Nat), vs = [.ref a, .int k, .int most] ∧ SqL K H a (ns.map V.int) ∧ Dr ns ∧ 0 ≤ k ∧ k < 50000 ∧ most ≤ 100 ∧
  ∀ (z : Str) (H' : Hp), Same H H' → IsLet z → z.length ≤ most → Q (.str z) H'
theorem sc__law_text : FnScope ["draws", "k", "most", "letters", "size", "text", "j"] ["draws", "k", "most"] (defScope s__law_text) := ⟨rfl, rfl, rfl, by decide +kernel, rfl, by decide +kernel, by decide +kernel⟩
theorem ok__law_text (T : Txt K mg ea) (c__law_mix : Cl P w K mg base 1 "_law_mix" (spDraw K)) : Cl P w K mg base 2 "_law_text" (spText K) := by
  have nd := sc__law_text.nd
  refine cl_of T.d__law_text sc__law_text (fun vs H Q E h => ?_) (fun f cdv A outer s H vs Q E hr h => ?_)
  · obtain ⟨a, ns, k, most, rfl, _⟩ := h
    rfl
  · obtain ⟨a, ns, k, most, rfl, hS, hD, h0, h1, hm, q⟩ := h
    refine ⟨_, (pss_cons (ps_set (i := 3) nd rfl (.inr rfl) (pe_ix (ixl (K := K)) (pe_lst (pa_cons pe_str (pa_cons pe_str (pa_cons pe_str (pa_cons pe_str (pa_cons pe_str pa_nil)))))) (C8.pe_c c__law_mix hr (by decide) (by rfl) (pa_cons (pv 0) (pa_cons (pv 1) (pa_cons pe_int pa_nil)))) (fun _ _ => rfl)))
      (pss_cons (ps_set (i := 4) nd rfl (.inl rfl) (C8.pe_c c__law_mix hr (by decide) (by rfl) (pa_cons (pv 0) (pa_cons (pe_op op_add (pv 1) pe_int) (pa_cons (pe_op op_add (pv 2) pe_int) pa_nil)))))
      (pss_cons (ps_set (i := 5) nd rfl (.inl rfl) (pe_join pe_str (pe_lc (own := [("j", 6)]) (g := (gName 6)) rfl nd (pi_range1 rfl T.b_range (pa_cons (pv 4) pa_nil)) (blkOk_by (own := [("j", 6)]) (N := ["draws", "k", "most", "letters", "size", "text", "j"]) (sc := defScope s__law_text) (by decide +kernel)) (fun _ _ _ _ _ => (pg_name (i := 6) nd rfl (.inl rfl))) (fun _ _ _ _ _ => pts_nil) (fun _ _ _ _ _ => (pe_ix ix_str (pv 3) (C8.pe_c c__law_mix hr (by decide) (by rfl) (pa_cons (pv 0) (pa_cons (pe_op op_add (pe_op op_add (pv 1) pe_int) (pv 6)) (pa_cons (pe_callB call_len_str (by rfl) T.b_len PySem.boot_len (pa_cons (pv 3) pa_nil)) pa_nil)))) (fun _ _ => rfl))))))
      (pss_cons (ps_if (PW.pt (pw_and (pt_cmpR op_eq (C8.pe_c c__law_mix hr (by decide) (by rfl) (pa_cons (pv 0) (pa_cons (pe_op op_add (pv 1) pe_int) (pa_cons pe_int pa_nil)))) pe_int (nomark _)) (pw_and1 (pt_cmpR op_gt (pe_callB call_len_str (by rfl) T.b_len PySem.boot_len (pa_cons (pv 5) pa_nil)) pe_int (nomark _)))))
        (pss_one (ps_set (i := 5) nd rfl (.inl rfl) (pe_slice sl_str (pe_op op_add_str (pe_op op_add_str (pe_op op_add_str (pe_slice sl_str (pv 5) po_none (po_some pe_int)) (pe_slice sl_str (pv 5) po_none (po_some pe_int))) (pe_slice sl_str (pv 5) po_none (po_some pe_int))) (pv 5)) po_none (po_some (pv 2)))))
        pss_nil)
      (pss_one (ps_ret (pv 5))))))), ?_⟩
    refine ⟨(by show 5 ≤ sizeLine; decide), fun l nl => ?_⟩
    have s1 : Same H (upd H l (.lst ([("ab" : Str), "ab", "a", "aB ~", "abc"].map V.str))) := same_new nl
    refine ⟨_, rfl, _, rfl, a, ns, k, 5, rfl, s1.seq hS, hD, by omega, by omega, by omega, fun word w0 w1 => ?_⟩
    obtain ⟨x, hx, hxm⟩ := at_map V.str (xs := [("ab" : Str), "ab", "a", "aB ~", "abc"]) (i := word) w0 w1
    have hx1 : IsLet x ∧ 1 ≤ x.length ∧ x.length ≤ 4 := by
      simp only [List.mem_cons, List.not_mem_nil, or_false] at hxm
      rcases hxm with e | e | e | e | e <;> subst e <;> exact ⟨by decide, by decide, by decide⟩
    refine ⟨l, _, word, .str x, rfl, rfl, .inl (.inl upd_same), hx, ?_⟩
    refine ⟨_, rfl, _, rfl, _, _, rfl, rfl, _, rfl, _, _, rfl, rfl, a, ns, k + 1, (most : Int) + 1, rfl, s1.seq hS, hD, by omega, by omega, by omega, fun r r0 r1 => ?_⟩
    refine ⟨⟨_, rfl⟩, _, rfl, r, rfl, by omega, by omega, fun D nD => ?_⟩
    refine lc_w (walk_range (lo := 0) (n := r.toNat)) nD (by omega) (fun _ _ => trivial) (fun i acc _ => ∃ ys : List Str, acc = ys.map V.str ∧ ys.length = i ∧ ∀ y ∈ ys, y.length = 1 ∧ IsLet y) (fun _ _ => ⟨[], rfl, rfl, fun _ h => nomatch h⟩) (fun _ _ _ _ _ _ _ r => r) (fun i H x H' y => by rw [y.1]; exact Same.refl _) (fun i v acc H1 H2 Qn Qf hi sm y rr at_ kn kf => ?_) (fun acc H1 sm at_ _ rr => ?_)
    · obtain ⟨rfl, rfl⟩ := y
      obtain ⟨ys, rfl, yl, ya⟩ := rr
      have s2 := s1.trans sm
      refine ⟨rfl, _, rfl, _, rfl, _, rfl, _, _, rfl, rfl, _, rfl, _, _, rfl, rfl, _, rfl, x, rfl, Nat.le_trans hx1.2.2 (by decide), a, ns, k + 3 + (0 + (i : Int)), (x.length : Int), rfl, s2.seq hS, hD, by omega, by omega, by omega, fun g g0 g1 => ?_⟩
      refine ixs_let hx1.1 (Nat.le_trans hx1.2.2 (by decide)) g0 (by show g < (x.length : Int); exact g1) fun c hc => ?_
      exact kn _ _ (Same.refl _) ⟨ys ++ [⟨#[c]⟩], by rw [List.map_append]; rfl, by rw [List.length_append, yl]; rfl, fun y hy => by
        rcases List.mem_append.mp hy with m | m
        · exact ya y m
        · rw [List.mem_singleton.mp m]; exact ⟨rfl, let_one hc⟩⟩
    · obtain ⟨ys, rfl, yl, ya⟩ := rr
      obtain ⟨j1, j2, j3⟩ := join_ones ya
      have s2 := s1.trans sm
      refine ⟨"", D, ys, rfl, rfl, .inl (SqL.of at_), ?_, ?_⟩
      · rw [j1]
        show ys.length + ys.length * 0 ≤ 16777216
        omega
      generalize (Txt.join "" ys) = z at j2 j3 ⊢
      refine ⟨_, rfl, _, rfl, _, _, rfl, rfl, a, ns, k + 2, 5, rfl, s2.seq hS, hD, by omega, by omega, by omega, fun g g0 g1 => ?_⟩
      have zl : z.length ≤ most := by omega
      refine ⟨rfl, _, rfl, ite2 (fun e => ?_) (fun e => iteF ?_)⟩
      · refine ⟨_, rfl, z, rfl, Nat.le_trans zl (by have : most ≤ sizeLine := Nat.le_trans hm (by decide); omega), _, _, rfl, rfl, _, rfl, ite2 (fun e2 => ?_) (fun e2 => ?_)⟩
        · have zs : z.length ≤ sizeLine := Nat.le_trans (Nat.le_trans zl hm) (by decide)
          have c2 : (cutS z none (some 2)).length ≤ 2 := cut_to_len (n := 2)
          have cl : IsLet (cutS z none (some 2)) := cut_let j3 none (some 2)
          obtain ⟨u, hu⟩ : ∃ u, u = cutS z none (some 2) := ⟨_, rfl⟩
          rw [← hu] at c2 cl
          have b1 : (u ++ u).length ≤ 4 := by rw [len_app]; omega
          have b2 : (u ++ u ++ u).length ≤ 6 := by rw [len_app]; omega
          have b3 : (u ++ u ++ u ++ z).length ≤ 200 := by rw [len_app]; omega
          refine ⟨_, rfl, 2, rfl, z, rfl, zs, _, rfl, 2, rfl, z, rfl, zs, u, u, congrArg V.str hu.symm, congrArg V.str hu.symm, Nat.le_trans (by omega : u.length + u.length ≤ 4) (by decide), _, rfl, 2, rfl, z, rfl, zs, _, u, rfl, congrArg V.str hu.symm, Nat.le_trans (by omega : (u ++ u).length + u.length ≤ 6) (by decide), _, rfl, _, z, rfl, rfl, Nat.le_trans (by omega : (u ++ u ++ u).length + z.length ≤ 200) (by decide), _, rfl, most, rfl, _, rfl, Nat.le_trans b3 (by decide), ?_⟩
          exact ⟨_, rfl, q _ H1 s2 (cut_let (let_app (let_app (let_app cl cl) cl) j3) none (some most)) cut_to_len⟩
        · exact ⟨_, rfl, q z H1 s2 j3 zl⟩
      · exact ⟨_, rfl, q z H1 s2 j3 zl⟩
end

end SH
set_option Elab.async false
set_option linter.all false
set_option maxRecDepth 100000
set_option maxHeartbeats 4000000
namespace SH
open PySem PySem.Spec PyProof.Rows L2
theorem hs_snoc {m : Nat} {h : List (Int × Str)} (a : IsHs m h) {n : Int} {z : Str} (lt : ∀ q ∈ h, q.1 < n) (n0 : 0 ≤ n) (n1 : n ≤ 99) (hz : IsLet z) (hl : z.length ≤ m) : IsHs m (h ++ [(n, z)]) := by
  refine ⟨?_, fun q hq => ?_, fun q hq => ?_⟩
  · rw [List.map_append, List.pairwise_append]
    refine ⟨a.asc, by simp, fun x hx y hy => ?_⟩
    obtain ⟨q, hq, rfl⟩ := List.mem_map.mp hx
    simp at hy
    subst hy
    exact lt q hq
  · rcases List.mem_append.mp hq with m1 | m1
    · exact a.num q m1
    · rw [List.mem_singleton.mp m1]; exact ⟨n0, n1⟩
  · rcases List.mem_append.mp hq with m1 | m1
    · exact a.txt q m1
    · rw [List.mem_singleton.mp m1]; exact ⟨hz, hl⟩

section
variable {P : Program} {w : World} {K : PySem.W.Frag} {mg : Str → Option Value} {base : Heap} {ea : Ea}
/-- a house drawn -/
def spHouse (K : PySem.W.Frag) : Sp := fun vs H Q _ => ∃ (a : Addr) (ns : List Int) (k : Int) (most : Nat), vs = [.ref a, .int k, .int most] ∧ SqL K H a (ns.map V.int) ∧ Dr ns ∧ 0 ≤ k ∧ k < 10000 ∧ most ≤ 40 ∧
  ∀ (p : Addr) (L : PL) (H' : Hp), Same H H' → H p = none → H' p = some (.lst (refs L)) → PairsAt K H' L → L.length ≤ 8 → IsHs most (L.map (·.2)) → Q (.ref p) H'
/-- the house so far -/
structure HsSo (K : PySem.W.Frag) (H H' : Hp) (p : Addr) (i most : Nat) (num : Int) (L : PL) : Prop where
  sm : Same H H'
  at_ : H' p = some (.lst (refs L))
  ps : PairsAt K H' L
  len : L.length = i
  hs : IsHs most (L.map (·.2))
  le : ∀ q ∈ L, q.2.1 ≤ num
  n0 : 0 ≤ num
  n1 : num ≤ 12 * (i : Int)
theorem HsSo.same {H H' H2 : Hp} {p : Addr} {i most : Nat} {num : Int} {L : PL} (h : HsSo K H H' p i most num L) (e : Same H' H2) : HsSo K H H2 p i most num L :=
  ⟨h.sm.trans e, e _ _ h.at_, h.ps.same e, h.len, h.hs, h.le, h.n0, h.n1⟩
theorem pairs_put {H : Hp} {p : Addr} {L : PL} {l : List V} {o : HO} (h : H p = some (.lst l)) (a : PairsAt K H L) : PairsAt K (upd H p o) L := fun q hq => but_tup (l := l) h but_upd (a q hq)
theorem sc__law_house : FnScope ["draws", "k", "most", "house", "number", "j", "text"] ["draws", "k", "most"] (defScope s__law_house) := ⟨rfl, rfl, rfl, by decide +kernel, rfl, by decide +kernel, by decide +kernel⟩
theorem ok__law_house (T : Txt K mg ea) (c__law_mix : Cl P w K mg base 1 "_law_mix" (spDraw K)) (c__law_text : Cl P w K mg base 2 "_law_text" (spText K)) : Cl P w K mg base 3 "_law_house" (spHouse K) := by
  have nd := sc__law_house.nd
  refine cl_of T.d__law_house sc__law_house (fun vs H Q E h => ?_) (fun f cdv A outer s H vs Q E hr h => ?_)
  · obtain ⟨a, ns, k, most, rfl, _⟩ := h
    rfl
  · obtain ⟨a, ns, k, most, rfl, hS, hD, h0, h1, ho, q⟩ := h
    refine ⟨_, (pss_cons (ps_set (i := 3) nd rfl (.inl rfl) (pe_lst pa_nil))
      (pss_cons (ps_set (i := 4) nd rfl (.inl rfl) pe_int)
      (pss_cons (ps_for PassesOwn.never rfl (pi_range1 rfl T.b_range (pa_cons (pe_ix (ixl (K := K)) (pe_lst (pa_cons (C8.pe_c c__law_mix hr (by decide) (by rfl) (pa_cons (pv 0) (pa_cons (pv 1) (pa_cons pe_int pa_nil)))) (pa_cons (C8.pe_c c__law_mix hr (by decide) (by rfl) (pa_cons (pv 0) (pa_cons (pv 1) (pa_cons pe_int pa_nil)))) pa_nil))) (pe_callTy call_int1 (by rfl) T.b_int (by decide +kernel) (pa_cons (pe_cmpR op_eq (C8.pe_c c__law_mix hr (by decide) (by rfl) (pa_cons (pv 0) (pa_cons (pe_op op_add (pv 1) pe_int) (pa_cons pe_int pa_nil)))) pe_int (nomark _)) pa_nil)) (fun _ _ => rfl)) pa_nil)) (pg_name (i := 5) nd rfl (.inl rfl))
        (pss_cons (ps_set (i := 4) nd rfl (.inl rfl) (pe_op op_add (pe_op op_add (pv 4) (C8.pe_c c__law_mix hr (by decide) (by rfl) (pa_cons (pv 0) (pa_cons (pe_op op_add (pe_op op_add (pv 1) pe_int) (pv 5)) (pa_cons pe_int pa_nil))))) (pe_callTy call_int1 (by rfl) T.b_int (by decide +kernel) (pa_cons (pe_cmpR op_gt (pv 5) pe_int (nomark _)) pa_nil))))
          (pss_cons (ps_set (i := 6) nd rfl (.inl rfl) (C8.pe_c c__law_text hr (by decide) (by rfl) (pa_cons (pv 0) (pa_cons (pe_op op_add (pe_op op_add (pv 1) pe_int) (pe_op op_mul pe_int (pv 5))) (pa_cons (pv 2) pa_nil)))))
          (C8.pss_cut (ps_if (PW.pt (pw_and (pt_cmpR op_gt (pv 5) pe_int (nomark _)) (pw_and1 (pt_cmpR op_eq (C8.pe_c c__law_mix hr (by decide) (by rfl) (pa_cons (pv 0) (pa_cons (pe_op op_add (pe_op op_add (pv 1) pe_int) (pv 5)) (pa_cons pe_int pa_nil)))) pe_int (nomark _)))))
            (pss_one (ps_set (i := 6) nd rfl (.inl rfl) (pe_ix (ixt (K := K)) (pe_ix (ixl (K := K)) (pv 3) (pe_op op_sub (pv 5) pe_int) (fun _ _ => rfl)) pe_int (fun _ _ => rfl))))
            pss_nil)
          (pss_one (ps_expr (pe_bm PySem.F.plainAttrs_list PySem.F.slot_list_append PySem.F.type_list_append mt_append (pv 3) (pa_cons (pe_tup (pa_cons (pv 4) (pa_cons (pv 6) pa_nil))) pa_nil))))))))
      (pss_one (ps_ret (pv 3)))))), ?_⟩
    refine ⟨Nat.zero_le _, fun p hp => ?_⟩
    have sm0 : Same H (upd H p (.lst [])) := same_new hp
    refine ⟨_, rfl, _, rfl, a, ns, k, 4, rfl, sm0.seq hS, hD, by omega, by omega, by omega, fun r1 u0 u1 => ?_⟩
    refine ⟨_, rfl, _, rfl, a, ns, k, 9, rfl, sm0.seq hS, hD, by omega, by omega, by omega, fun r2 v0 v1 => ?_⟩
    refine ⟨(by show 2 ≤ sizeLine; decide), fun l nl => ?_⟩
    have s1 : Same H (upd (upd H p (.lst [])) l (.lst [.int r1, .int r2])) := sm0.trans (same_new nl)
    have nl0 : H l = none := sm0.free nl
    refine ⟨_, rfl, _, rfl, _, _, rfl, rfl, a, ns, k + 1, 5, rfl, s1.seq hS, hD, by omega, by omega, by omega, fun r3 _ _ => ?_⟩
    obtain ⟨r, r0, r8, hat⟩ : ∃ r : Int, 0 ≤ r ∧ r ≤ 8 ∧ atI [V.int r1, V.int r2] (if decide (V.int r3 = V.int 2) = true then 1 else 0) = some (.int r) := by
      split
      · exact ⟨r2, v0, by omega, rfl⟩
      · exact ⟨r1, u0, by omega, rfl⟩
    refine ⟨rfl, .inr ⟨_, rfl, l, _, _, _, rfl, rfl, SqL.of upd_same, hat, r, rfl, by omega, by omega, ?_⟩⟩
    refine for_range (lo := 0) (n := r.toNat) (fun i σ H' => ∃ (L : PL) (num : Int) (y5 y6 : Option V), σ = [some (.ref a), some (.int k), some (.int most), some (.ref p), some (.int num), y5, y6] ∧ HsSo K H H' p i most num L)
      ⟨[], 0, none, none, rfl, s1, (by rw [upd_ne (ne_of_none upd_same nl)]; exact upd_same), (fun q hq => by cases hq), rfl, ⟨List.Pairwise.nil, (fun q hq => by cases hq), (fun q hq => by cases hq)⟩, (fun q hq => by cases hq), by omega, by omega⟩ (fun i σ H' hi hW => ?_) (fun σ H' hW => ?_)
    · obtain ⟨L, num, y5, y6, rfl, hA⟩ := hW
      have n0 := hA.n0
      have n1 := hA.n1
      refine ⟨_, rfl, _, rfl, _, rfl, _, _, rfl, rfl, _, rfl, _, _, rfl, rfl, a, ns, k + 2 + (0 + (i : Int)), 12, rfl, hA.sm.seq hS, hD, by omega, by omega, by omega, fun g g0 g1 => ?_⟩
      refine ⟨_, _, rfl, rfl, _, rfl, _, _, rfl, rfl, .inr ⟨_, rfl, _, _, rfl, rfl, ?_⟩⟩
      obtain ⟨b, hb, b0, b1, bp⟩ : ∃ b : Int, b = (if decide ((0 + (i : Int)) > 0) = true then 1 else 0) ∧ 0 ≤ b ∧ b ≤ 1 ∧ (0 < i → b = 1) := by
        refine ⟨_, rfl, ?_⟩
        split
        · exact ⟨by omega, by omega, fun _ => rfl⟩
        · rename_i h
          exact ⟨by omega, by omega, fun h2 => absurd (decide_eq_true (by omega)) h⟩
      rw [← hb]
      refine ⟨_, rfl, _, rfl, _, _, rfl, rfl, _, rfl, _, _, rfl, rfl, .inl (by decide), _, _, rfl, rfl, _, rfl, a, ns, k + 12 + 17 * (0 + (i : Int)), most, rfl, hA.sm.seq hS, hD, by omega, by omega, by omega, fun z H2 sm2 hz hl => ?_⟩
      have hA2 := hA.same sm2
      refine ⟨fun σ H3 => H3 = H2 ∧ ∃ x : Str, IsLet x ∧ x.length ≤ most ∧ σ = [some (.ref a), some (.int k), some (.int most), some (.ref p), some (.int (num + g + b)), some (.int (0 + (i : Int))), some (.str x)], ?_, ?_⟩
      · refine ⟨_, rfl, _, _, rfl, rfl, _, rfl, ite2 (fun e => ?_) (fun e => iteF ⟨rfl, z, hz, hl, rfl⟩)⟩
        have e' := of_decide_eq_true e
        refine ⟨_, rfl, _, rfl, _, _, rfl, rfl, _, rfl, _, _, rfl, rfl, a, ns, k + 3 + (0 + (i : Int)), 7, rfl, hA2.sm.seq hS, hD, by omega, by omega, by omega, fun r5 _ _ => ?_⟩
        refine ⟨rfl, _, rfl, ite2 (fun e2 => ?_) (fun e2 => ⟨rfl, z, hz, hl, rfl⟩)⟩
        obtain ⟨t, ht, hm2⟩ := at_map (fun q : Addr × Int × Str => V.ref q.1) (xs := L) (i := (0 + (i : Int)) - 1) (by omega) (by have := hA.len; omega)
        refine ⟨_, rfl, _, rfl, _, _, rfl, rfl, p, _, _, _, rfl, rfl, SqL.of hA2.at_, ht, _, _, _, _, rfl, rfl, hA2.ps t hm2, (show atI [V.int t.2.1, V.str t.2.2] 1 = some (.str t.2.2) from rfl), rfl, t.2.2, ?_⟩
        have := hA.hs.txt t.2 (List.mem_map_of_mem hm2)
        exact ⟨this.1, this.2, rfl⟩
      · rintro σ' H3 ⟨rfl, x, hx, hxl, rfl⟩
        refine ⟨_, rfl, .inl ⟨rfl, _, SqL.of hA2.at_⟩, _, rfl, _, rfl, (by show 2 ≤ sizeLine; decide), fun t ht => ?_⟩
        have pt : p ≠ t := ne_of_none hA2.at_ ht
        have at2 : (upd H3 t (.tup [.int (num + g + b), .str x])) p = some (.lst (refs L)) := by rw [upd_ne pt]; exact hA2.at_
        refine ⟨p, _, _, rfl, rfl, at2, ?_, ?_⟩
        · show (L.map _).length < sizeLine
          rw [List.length_map, hA2.len]; exact Nat.lt_of_le_of_lt (by omega : i ≤ 1000) (by decide)
        have sm3 : Same H3 (upd H3 t (.tup [.int (num + g + b), .str x])) := same_new ht
        have smp : ∀ o, Same H (upd (upd H3 t (.tup [.int (num + g + b), .str x])) p o) := fun o => same_mut (hA2.sm.trans sm3) hp
        have ltn : ∀ q ∈ L, q.2.1 < num + g + b := fun q hq => by
          have h := hA.le q hq
          have : 0 < i := by
            have := hA.len
            have := List.length_pos_of_mem hq
            omega
          have := bp this
          omega
        refine ⟨L ++ [(t, num + g + b, x)], num + g + b, _, _, rfl, smp _, ?_, ?_, ?_, ?_, ?_, by omega, by omega⟩
        · rw [upd_same]; show _ = some (HO.lst (List.map _ _)); rw [List.map_append]; rfl
        · refine pairs_put at2 fun q hq => ?_
          rcases List.mem_append.mp hq with m1 | m1
          · exact same_tup sm3 (hA2.ps q m1)
          · rw [List.mem_singleton.mp m1]; exact .inl (.inl upd_same)
        · rw [List.length_append, hA.len]; rfl
        · rw [List.map_append]
          exact hs_snoc hA.hs (fun q hq => by obtain ⟨y, hy, rfl⟩ := List.mem_map.mp hq; exact ltn y hy) (by omega) (by omega) hx hxl
        · intro q hq
          rcases List.mem_append.mp hq with m1 | m1
          · have := ltn q m1; omega
          · rw [List.mem_singleton.mp m1]; exact Int.le_refl _
    · obtain ⟨L, num, y5, y6, rfl, hA⟩ := hW
      exact ⟨_, rfl, q p L H' hA.sm hp hA.at_ hA.ps (by have := hA.len; omega) hA.hs⟩
end

end SH
set_option Elab.async false
set_option linter.all false
set_option maxRecDepth 100000
set_option maxHeartbeats 4000000
namespace SH
open PySem PySem.Spec PyProof.Rows L2
section
variable {P : Program} {w : World} {K : PySem.W.Frag} {mg : Str → Option Value} {base : Heap} {ea : Ea}
/-- how many ends are ahead of all that begin with the word (or begin with it) -/
def spCount (K : PySem.W.Frag) : Sp := fun vs H Q _ => ∃ (d o : Addr) (kvs : List (Key × V)) (h : List (Int × Str)) (R : QT) (E : List E3) (wd : Str) (b : Bool), vs = [.ref d, .ref o, .str wd, .bl b] ∧ H d = some (.dK kvs) ∧ (∀ n, valV kvs (.inl n) = (lk n h).map V.str) ∧ (h.map (·.1)).Pairwise (· < ·) ∧ (∀ q ∈ h, q.2.length ≤ 1000) ∧
  SqL K H o (qrefs R) ∧ QAt K H R ∧ R.map (·.2) = E.map (·.2) ∧ (∀ e ∈ E, e ∈ ends3 h) ∧ E.Pairwise (fun p q => le3 p q = true) ∧ wd.length ≤ 1000 ∧ Q (.int ((E.filter (prW wd b)).length : Nat)) H
theorem sc__count_before : FnScope ["texts", "order", "word", "with_word", "low", "high", "middle", "number", "start", "letters"] ["texts", "order", "word", "with_word"] (defScope s__count_before) := ⟨rfl, rfl, rfl, by decide +kernel, rfl, by decide +kernel, by decide +kernel⟩
theorem ok__count_before (T : Txt K mg ea) : Cl P w K mg base 1 "_count_before" (spCount K) := by
  have nd := sc__count_before.nd
  refine cl_of T.d__count_before sc__count_before (fun vs H Q E h => ?_) (fun f cdv A outer s H vs Q E0 hr h => ?_)
  · obtain ⟨d, o, kvs, h, R, E, wd, b, rfl, _⟩ := h
    rfl
  · obtain ⟨d, o, kvs, h, R, E, wd, b, rfl, hd, tv, asc, hz, hO, hR, re, hE, pw, wl, q⟩ := h
    refine ⟨_, (pss_cons (ps_set (i := 4) nd rfl (.inl rfl) pe_int)
      (pss_cons (ps_set (i := 5) nd rfl (.inl rfl) (pe_callB call_len_seq (by rfl) T.b_len PySem.boot_len (pa_cons (pv 1) pa_nil)))
      (pss_cons (ps_while PassesOwn.never (pt_cmpR op_lt (pv 4) (pv 5) (nomark _))
        (pss_cons (ps_set (i := 6) nd rfl (.inl rfl) (pe_op op_fdiv (pe_op op_add (pv 4) (pv 5)) pe_int))
          (pss_cons (ps_asg (pe_ix (ixl (K := K)) (pv 1) (pv 6) (fun _ _ => rfl)) (pg_tup rfl (pgs_cons (pg_name (i := 7) nd rfl (.inl rfl)) (pgs_cons (pg_name (i := 8) nd rfl (.inl rfl)) pgs_nil))))
          (pss_cons (ps_set (i := 9) nd rfl (.inl rfl) (pe_slice sl_str (pe_dget (hu_of hr) (pv 0) (pv 7) (fun _ _ => rfl)) (po_some (pv 8)) (po_some (pe_op op_add (pv 8) (pe_callB call_len_str (by rfl) T.b_len PySem.boot_len (pa_cons (pv 2) pa_nil))))))
          (pss_one (ps_if (PW.pt (pw_or (pt_cmpR op_lt_str (pv 9) (pv 2) (nomark _)) (pw_or1 (PW.pt (pw_and (pt_val (pv 3)) (pw_and1 (pt_cmpR op_eq (pv 9) (pv 2) (nomark _))))))))
            (pss_one (ps_set (i := 4) nd rfl (.inl rfl) (pe_op op_add (pv 6) pe_int)))
            (pss_one (ps_set (i := 5) nd rfl (.inl rfl) (pv 6)))))))))
      (pss_one (ps_ret (pv 4)))))), ?_⟩
    have rl := qrefs_len R
    have el : R.length = E.length := by have := congrArg List.length re; simpa using this
    have fl : (E.filter (prW wd b)).length ≤ E.length := List.length_filter_le _ _
    refine ⟨_, rfl, o, _, rfl, .inl hO, ?_⟩
    refine while_i (fun m σ H' => H' = H ∧ ∃ (lo hi : Nat) (y6 y7 y8 y9 : Option V), m = hi - lo ∧ lo ≤ hi ∧ hi ≤ E.length ∧ σ = [some (.ref d), some (.ref o), some (.str wd), some (.bl b), some (.int (lo : Int)), some (.int (hi : Int)), y6, y7, y8, y9] ∧
        (∀ (i : Nat) (h : i < E.length), i < lo → prW wd b E[i] = true) ∧ (∀ (i : Nat) (h : i < E.length), hi ≤ i → prW wd b E[i] = false))
      ⟨rfl, 0, E.length, none, none, none, none, rfl, Nat.zero_le _, Nat.le_refl _, by rw [rl, el]; rfl, fun i _ z => absurd z (by omega), fun i h z => absurd h (by omega)⟩ (fun m σ H' hW => ?_) (fun σ H Q Q' m h => ?_)
    · obtain ⟨rfl, lo, hi, y6, y7, y8, y9, rfl, l1, l2, rfl, p1, p2⟩ := hW
      refine ⟨_, rfl, _, rfl, _, _, rfl, rfl, _, rfl, ite2 (fun e => ?_) (fun e => ?_)⟩
      · have e1 : lo < hi := by have := of_decide_eq_true e; omega
        obtain ⟨mi, hmi, m1, m2⟩ : ∃ mi : Nat, (((lo : Int) + (hi : Int)) / 2) = (mi : Int) ∧ lo ≤ mi ∧ mi < hi := ⟨(lo + hi) / 2, by omega, by omega, by omega⟩
        have me : mi < E.length := by omega
        have ge : E[mi]? = some E[mi] := List.getElem?_eq_getElem me
        obtain ⟨r, hr1, rm⟩ : ∃ r, R[mi]? = some r ∧ r ∈ R := ⟨R[mi]'(by omega), List.getElem?_eq_getElem (by omega), List.getElem_mem _⟩
        have r2 : r.2 = E[mi].2 := by
          have h2 : (R.map (·.2))[mi]? = some r.2 := by rw [List.getElem?_map, hr1]; rfl
          rw [re, List.getElem?_map, ge] at h2
          exact (Option.some.inj h2).symm
        obtain ⟨t, ht, st, hst, ee⟩ := mem_ends3.mp (hE _ (List.getElem_mem me))
        have rn : r.2.1 = t.1 := by rw [r2, ee]
        have rs : r.2.2 = (st : Int) := by rw [r2, ee]
        have hrt := hR r rm
        rw [rn, rs] at hrt
        have lt : lk t.1 h = some t.2 := lk_of asc ht
        have dg : DGet H' d (.int t.1) (some (.str t.2)) := by
          have := DGet.k (k := .inl t.1) hd
          rw [tv, lt] at this
          exact this
        refine ⟨_, rfl, _, rfl, _, _, rfl, rfl, _, _, rfl, rfl, (by constructor <;> decide), ?_⟩
        simp only [hmi]
        refine ⟨_, rfl, _, rfl, o, _, _, _, rfl, rfl, hO, atI_nat (by unfold qrefs; rw [List.getElem?_map, hr1]; rfl), ?_⟩
        refine ⟨_, _, rfl, hrt, rfl, _, _, rfl, _, _, rfl, rfl, ?_⟩
        refine ⟨_, rfl, _, rfl, d, _, rfl, dg, _, rfl, st, rfl, _, rfl, _, rfl, _, rfl, Nat.le_trans wl (by decide), _, _, rfl, rfl, _, rfl, t.2, rfl, Nat.le_trans (hz t ht) (by decide), ?_⟩
        have cl : TL.tl (cutS t.2 (some (st : Int)) (some ((st : Int) + ((wd.length : Nat) : Int)))) = (TL.tl E[mi].1).take wd.length := by
          rw [cut_mid hst, ee, suf_tl]
        generalize cutS t.2 (some (st : Int)) (some ((st : Int) + ((wd.length : Nat) : Int))) = u at cl ⊢
        have pr : prW wd b E[mi] = (decide (u.cps.toList < wd.cps.toList) || (b && decide (V.str u = V.str wd))) := by
          unfold prW
          rw [← cl]
          have a1 : decide (TL.tl E[mi].1 < TL.tl wd) = decide (u.cps.toList < wd.cps.toList) := decide_eq_decide.mpr (by
            rw [← take_lt]
            have : (TL.tl E[mi].1).take (TL.tl wd).length = TL.tl u := cl.symm
            rw [this])
          have a2 : decide (TL.tl u = TL.tl wd) = decide (V.str u = V.str wd) := decide_eq_decide.mpr ⟨fun h => by rw [str_ext h], fun h => by rw [V.str.inj h]⟩
          rw [a1, a2]
        have lo' : prW wd b E[mi] = true → ∀ (i : Nat) (h : i < E.length), i < mi + 1 → prW wd b E[i] = true := fun z i hi l => prW_mono (pw_at pw le3_refl hi me (by omega)) z
        have hi' : prW wd b E[mi] = false → ∀ (i : Nat) (h : i < E.length), mi ≤ i → prW wd b E[i] = false := fun z i hi l => by
          cases c : prW wd b E[i] with
          | false => rfl
          | true => rw [prW_mono (pw_at pw le3_refl me hi l) c] at z; cases z
        refine ⟨_, rfl, _, rfl, _, _, rfl, rfl, _, rfl, ite2 (fun e2 => ?_) (fun e2 => ?_)⟩
        · have pt : prW wd b E[mi] = true := by rw [pr, e2]; rfl
          refine ⟨_, rfl, _, _, rfl, rfl, hi - (mi + 1), by omega, rfl, mi + 1, hi, _, _, _, _, rfl, by omega, l2, rfl, lo' pt, p2⟩
        · have e2' : decide (u.cps.toList < wd.cps.toList) = false := by simpa using e2
          rw [e2', Bool.false_or] at pr
          refine ⟨_, rfl, b, rfl, ?_⟩
          cases b with
          | false => exact ⟨_, rfl, mi - lo, by omega, rfl, lo, mi, _, _, _, _, rfl, by omega, by omega, rfl, p1, hi' pr⟩
          | true =>
            rw [Bool.true_and] at pr
            refine iteT ⟨_, rfl, _, rfl, rfl, _, rfl, ite2 (fun e3 => ?_) (fun e3 => ?_)⟩
            · have pt : prW wd true E[mi] = true := by rw [pr]; exact e3
              exact ⟨_, rfl, _, _, rfl, rfl, hi - (mi + 1), by omega, rfl, mi + 1, hi, _, _, _, _, rfl, by omega, l2, rfl, lo' pt, p2⟩
            · have pf : prW wd true E[mi] = false := by rw [pr]; simpa using e3
              exact ⟨_, rfl, mi - lo, by omega, rfl, lo, mi, _, _, _, _, rfl, by omega, by omega, rfl, p1, hi' pf⟩
      · have e1 : lo = hi := by
          have : ¬ lo < hi := fun z => e (decide_eq_true (by omega))
          omega
        subst e1
        rw [filter_cut p1 p2, List.length_take, Nat.min_eq_left l2] at q
        exact ⟨_, rfl, q⟩
    · obtain ⟨v1, hv1, v2, hv2, i, j, e1, e2, k, hk, r⟩ := h
      exact ⟨v1, hv1, v2, hv2, i, j, e1, e2, k, hk, m _ _ r⟩
/-- the range of a word -/
def spRange (K : PySem.W.Frag) : Sp := fun vs H Q _ => ∃ (a o : Addr) (L : PL) (R : QT) (E : List E3) (wd : Str), vs = [.ref a, .ref o, .str wd] ∧ HsAt K H a L ∧ ((L.map (·.2)).map (·.1)).Pairwise (· < ·) ∧ (∀ q ∈ L, q.2.2.length ≤ 1000) ∧
  SqL K H o (qrefs R) ∧ QAt K H R ∧ R.map (·.2) = E.map (·.2) ∧ (∀ e ∈ E, e ∈ ends3 (L.map (·.2))) ∧ E.Pairwise (fun p q => le3 p q = true) ∧ wd.length ≤ 1000 ∧
  ∀ (t : Addr) (H' : Hp), Same H H' → H' t = some (.tup [.int (rFirst wd E : Nat), .int (rFirst wd E + rMany wd E : Nat)]) → Q (.ref t) H'
theorem sc_range_of : FnScope ["house", "order", "word", "texts"] ["house", "order", "word"] (defScope s_range_of) := ⟨rfl, rfl, rfl, by decide +kernel, rfl, by decide +kernel, by decide +kernel⟩
theorem ok_range_of (T : Txt K mg ea) (c__count_before : Cl P w K mg base 1 "_count_before" (spCount K)) : Cl P w K mg base 2 "range_of" (spRange K) := by
  have nd := sc_range_of.nd
  refine cl_of T.d_range_of sc_range_of (fun vs H Q E h => ?_) (fun f cdv A outer s H vs Q E0 hr h => ?_)
  · obtain ⟨a, o, L, R, E, wd, rfl, _⟩ := h
    rfl
  · obtain ⟨a, o, L, R, E, wd, rfl, hA, asc, hz, hO, hR, re, hE, pw, wl, q⟩ := h
    refine ⟨_, (pss_cons (ps_set (i := 3) nd rfl (.inl rfl) (pe_callTy (call_dictP rfl) (by rfl) T.b_dict (by decide +kernel) (pa_cons (pv 0) pa_nil)))
      (pss_one (ps_ret (pe_tup (pa_cons (C8.pe_c c__count_before hr (by decide) (by rfl) (pa_cons (pv 3) (pa_cons (pv 1) (pa_cons (pv 2) (pa_cons pe_bl pa_nil))))) (pa_cons (C8.pe_c c__count_before hr (by decide) (by rfl) (pa_cons (pv 3) (pa_cons (pv 1) (pa_cons (pv 2) (pa_cons pe_bl pa_nil))))) pa_nil)))))), ?_⟩
    have eps : refs L = (L.map (·.1)).map V.ref := by rw [List.map_map]; rfl
    refine ⟨_, rfl, a, L.map (fun q : Addr × Int × Str => q.1), L.map fun q : Addr × Int × Str => ((Sum.inl q.2.1 : Key), V.str q.2.2), rfl, by rw [← eps]; exact hA.1, Dct.paired_house hA.2, fun d nd1 => ?_⟩
    have sm1 := same_new (o := .dK (mergeK [] (L.map fun q => ((Sum.inl q.2.1 : Key), V.str q.2.2)))) nd1
    have hd : (upd H d (.dK (mergeK [] (L.map fun q => ((Sum.inl q.2.1 : Key), V.str q.2.2))))) d = some (.dK (mergeK [] (L.map fun q => ((Sum.inl q.2.1 : Key), V.str q.2.2)))) := upd_same
    have tv : ∀ n, valV (mergeK [] (L.map fun q => ((Sum.inl q.2.1 : Key), V.str q.2.2))) (.inl n) = (lk n (L.map (·.2))).map V.str := lk_val asc
    generalize mergeK [] (L.map fun q => ((Sum.inl q.2.1 : Key), V.str q.2.2)) = kvs at sm1 hd tv ⊢
    generalize upd H d (.dK kvs) = H1 at sm1 hd ⊢
    have hz' : ∀ q ∈ L.map (·.2), q.2.length ≤ 1000 := fun q hq => by
      obtain ⟨y, hy, rfl⟩ := List.mem_map.mp hq
      exact hz y hy
    refine ⟨_, rfl, _, rfl, _, rfl, d, o, kvs, L.map (·.2), R, E, wd, false, rfl, hd, tv, asc, hz', sm1.seq hO, hR.same sm1, re, hE, pw, wl, ?_⟩
    refine ⟨_, rfl, _, rfl, _, rfl, d, o, kvs, L.map (·.2), R, E, wd, true, rfl, hd, tv, asc, hz', sm1.seq hO, hR.same sm1, re, hE, pw, wl, ?_⟩
    refine ⟨(by show 2 ≤ sizeLine; decide), fun t nt => q t _ (sm1.trans (same_new nt)) ?_⟩
    rw [upd_same, prW_f, prW_t]
end

end SH
set_option Elab.async false
set_option linter.all false
set_option maxRecDepth 100000
set_option maxHeartbeats 4000000
namespace SH
open PySem PySem.Spec PyProof.Rows L2
section
variable {P : Program} {w : World} {K : PySem.W.Frag} {mg : Str → Option Value} {base : Heap} {ea : Ea}
theorem sc_order_of : FnScope ["house", "rows", "number", "text", "start", "_"] ["house"] (defScope s_order_of) := ⟨rfl, rfl, rfl, by decide +kernel, rfl, by decide +kernel, by decide +kernel⟩
theorem ok_order_of (T : Txt K mg ea) : Cl P w K mg base 1 "order_of" (spOrder K) := by
  have nd := sc_order_of.nd
  refine cl_of T.d_order_of sc_order_of (fun vs H Q E h => ?_) (fun f cdv A outer s H vs Q E hr h => ?_)
  · obtain ⟨a, L, rfl, _⟩ := h
    rfl
  · obtain ⟨a, L, rfl, hA, hl, hz, q⟩ := h
    refine ⟨_, (pss_cons (ps_setLc2 (i := 1) (own := [("number", 2), ("text", 3), ("start", 4)]) (vs1 := [4]) (g := (gTup K 2 (gCons (gName 2) (gCons (gName 3) gNil)))) (g1 := (gName 4)) rfl nd rfl rfl (sw_true rfl rfl rfl (by decide +kernel)) (pi_listK (K := K) (pv 0)) (blkOk_by (own := [("number", 2), ("text", 3), ("start", 4)]) (N := ["house", "rows", "number", "text", "start", "_"]) (sc := defScope s_order_of) (by decide +kernel)) (by decide) (fun _ _ _ _ _ => (pg_tup rfl (pgs_cons (pg_name (i := 2) nd rfl (.inl rfl)) (pgs_cons (pg_name (i := 3) nd rfl (.inl rfl)) pgs_nil)))) (fun _ _ _ _ _ => pts_nil) (fun _ _ _ _ _ => (pi_range1 rfl T.b_range (pa_cons (pe_op op_add (pe_callB call_len_str (by rfl) T.b_len PySem.boot_len (pa_cons (pv 3) pa_nil)) pe_int) pa_nil))) (fun _ _ _ _ _ => (pg_name (i := 4) nd rfl (.inl rfl))) (fun _ _ _ _ _ => pts_nil) (fun _ _ _ _ _ => (pe_tup (pa_cons (pe_slice sl_str (pv 3) (po_some (pv 4)) po_none) (pa_cons (pv 2) (pa_cons (pv 4) pa_nil))))))
      (pss_one (ps_ret (pe_lc (own := [("_", 5), ("number", 2), ("start", 4)]) (g := (gTup K 3 (gCons (gName 5) (gCons (gName 2) (gCons (gName 4) gNil))))) rfl nd (pi_listK (K := K) (pe_callB (cr_sortDK (K := K) hr.units) (by rfl) T.b_sorted (by decide +kernel) (pa_cons (pv 1) pa_nil))) (blkOk_by (own := [("_", 5), ("number", 2), ("start", 4)]) (N := ["house", "rows", "number", "text", "start", "_"]) (sc := defScope s_order_of) (by decide +kernel)) (fun _ _ _ _ _ => (pg_tup rfl (pgs_cons (pg_name (i := 5) nd rfl (.inl rfl)) (pgs_cons (pg_name (i := 2) nd rfl (.inl rfl)) (pgs_cons (pg_name (i := 4) nd rfl (.inl rfl)) pgs_nil))))) (fun _ _ _ _ _ => pts_nil) (fun _ _ _ _ _ => (pe_tup (pa_cons (pv 2) (pa_cons (pv 4) pa_nil)))))))), ?_⟩
    have rl : (refs L).length = L.length := List.length_map ..
    have ml : (L.map (·.2)).length = L.length := List.length_map ..
    have big : ∀ h : List (Int × Str), h.length ≤ 500 → (∀ q ∈ h, q.2.length ≤ 100) → (ends3 h).length ≤ 50500 := fun h h1 h2 => Nat.le_trans (ends3_len h2) (by omega)
    refine ⟨_, rfl, a, rfl, ⟨_, hA.1⟩, fun D nD => ?_⟩
    refine walk_gen (walk_list (xs := refs L)) (fun i H' => ∃ Z : FT, Same H H' ∧ H' D = some (.lst (frefs Z)) ∧ FAt H' Z ∧ Z.map (·.2) = ends3 ((L.map (·.2)).take i))
      ⟨[], same_new nD, upd_same, (fun z m => nomatch m), rfl⟩ (fun i H' _ hW => ?_) (fun i x H1 H2 hi hW y => ?_) (fun H1 hW => ?_)
    · obtain ⟨Z, sm, _⟩ := hW
      exact sm.seq hA.1
    · obtain ⟨Z, sm, at_, za, ze⟩ := hW
      obtain ⟨rfl, hx⟩ := y
      obtain ⟨t, ht, tm, rfl⟩ := refs_get hx
      have tl := hz t tm
      have ht2 : (L.map (·.2))[i]? = some t.2 := by rw [List.getElem?_map, ht]; rfl
      have tk := take_snoc ht2
      refine ⟨_, _, rfl, same_tup sm (hA.2 t tm), rfl, _, _, rfl, _, _, rfl, rfl, rfl, ?_⟩
      refine ⟨_, rfl, t.2.2, rfl, Nat.le_trans tl (by decide), _, _, rfl, rfl, _, rfl, by omega, by omega, ?_⟩
      refine walk_gen (walk_range (lo := 0) (n := ((t.2.2.length : Int) + 1).toNat)) (fun j H' => ∃ Z : FT, Same H H' ∧ H' D = some (.lst (frefs Z)) ∧ FAt H' Z ∧ Z.map (·.2) = ends3 ((L.map (·.2)).take i) ++ (endsOf t.2).take j)
        ⟨Z, sm, at_, za, by rw [ze]; simp⟩ (fun _ _ _ _ => trivial) (fun j x H1 H2 hj hW y => ?_) (fun H1 hW => ?_)
      · obtain ⟨Z, sm, at_, za, ze⟩ := hW
        obtain ⟨rfl, ex⟩ := y
        obtain rfl : x = V.int (j : Int) := ex.trans (congrArg V.int (Int.zero_add _))
        refine ⟨rfl, _, rfl, _, rfl, _, rfl, t.2.2, rfl, Nat.le_trans tl (by decide), _, rfl, _, rfl, (by show 3 ≤ sizeLine; decide), fun u nu => ?_⟩
        have s2 := same_new (o := .tup [.str (suf t.2.2 j), .int t.2.1, .int (j : Int)]) nu
        have at2 := s2 _ _ at_
        have zl : Z.length ≤ 50500 := by
          have e := congrArg List.length ze
          rw [List.length_map, List.length_append] at e
          have b1 := List.length_take_le' j (endsOf t.2)
          rw [endsOf_len] at b1
          have b2 : (ends3 ((L.map (·.2)).take (i + 1))).length ≤ 50500 := big _ (by have := List.length_take_le' (i + 1) (L.map (·.2)); omega) fun q hq => by
            obtain ⟨z, hz2, rfl⟩ := List.mem_map.mp (List.mem_of_mem_take hq)
            exact hz z hz2
          rw [tk, ends3_snoc, List.length_append, endsOf_len] at b2
          omega
        refine ⟨_, at2, ?_, Z ++ [(u, suf t.2.2 j, t.2.1, (j : Int))], same_mut (sm.trans s2) nD, ?_, ?_, ?_⟩
        · show (List.map _ Z).length < _
          rw [List.length_map]
          exact Nat.lt_of_le_of_lt zl (by decide)
        · rw [upd_same]
          show _ = some (HO.lst (List.map _ _))
          rw [List.map_append]
          rfl
        · refine FAt.put (l := frefs Z) ?_ at2
          exact (za.same s2).snoc upd_same
        · rw [List.map_append, ze, take_snoc (endsOf_at (q := t.2) (s := j) (by omega)), List.append_assoc]
          rfl
      · obtain ⟨Z, sm, at_, za, ze⟩ := hW
        refine ⟨Z, sm, at_, za, ?_⟩
        rw [ze, tk, ends3_snoc, List.take_of_length_le (l := endsOf t.2) (by rw [endsOf_len]; omega)]
    · obtain ⟨Z, sm', at_, za, ze⟩ := hW
      rw [List.take_of_length_le (by omega)] at ze
      have zl : Z.length ≤ 50500 := by
        have e := congrArg List.length ze
        rw [List.length_map] at e
        rw [e]
        exact big _ (by omega) fun q hq => by
          obtain ⟨z, hz2, rfl⟩ := List.mem_map.mp hq
          exact hz z hz2
      refine ⟨_, rfl, E3, eFlat, D, Z.map fun z => (V.ref z.1, z.2), rfl, ?_, ?_, ?_, ?_, fun z _ => flat_deep z.2, fun p np => ?_⟩
      · rw [List.map_map]
        exact SqL.of at_
      · intro z hz2
        obtain ⟨y, hy, rfl⟩ := List.mem_map.mp hz2
        exact .tup (.inl (.inl (za y hy))) (.cons (.str _) (.cons (.int _) (.cons (.int _) .nil)))
      · rw [List.map_map]
        exact flat_alike (fun z : Addr × E3 => z.2) Z
      · rw [List.map_map]
        exact flat_able (fun z : Addr × E3 => z.2) Z
      · rw [sort_flat]
        have s2 := same_new (o := .lst (frefs (Z.mergeSort fun p q => le3 p.2 q.2))) np
        have za2 : FAt (upd H1 p (.lst (frefs (Z.mergeSort fun p q => le3 p.2 q.2)))) (Z.mergeSort fun p q => le3 p.2 q.2) := fun z m => s2 _ _ (za z (List.mem_mergeSort.mp m))
        have ee : (Z.mergeSort fun p q => le3 p.2 q.2).map (·.2) = ordE (L.map (·.2)) := by
          rw [sort3_map (fun z : Addr × E3 => z.2), ze]
          rfl
        have zl2 : (Z.mergeSort fun p q => le3 p.2 q.2).length ≤ 50500 := by rw [List.length_mergeSort]; exact zl
        generalize (Z.mergeSort fun p q => le3 p.2 q.2) = Y at s2 za2 ee zl2 ⊢
        refine ⟨p, rfl, ⟨_, SqL.of upd_same⟩, fun D2 nD2 => ?_⟩
        have yl : (frefs Y).length = Y.length := List.length_map ..
        refine lc_w (walk_list (xs := frefs Y)) nD2 (by omega) (fun H' e => SqL.of (e _ _ upd_same)) (fun i acc H' => ∃ R : QT, acc = qrefs R ∧ QAt K H' R ∧ R.map (·.2) = (Y.take i).map fun z => z.2.2) (fun _ _ => ⟨[], rfl, (fun q m => nomatch m), rfl⟩)
          (fun i acc Ha Hb l hD e r => by obtain ⟨R, r1, r2, r3⟩ := r; exact ⟨R, r1, fun z m => but_tup hD e (r2 z m), r3⟩) (fun i H x H' y => by rw [y.1]; exact Same.refl _) (fun i x acc Ha Hb Qn Qf hi sm y r at_ kn kf => ?_) (fun acc Hb sm at_ _ r => ?_)
        · obtain ⟨rfl, hx⟩ := y
          obtain ⟨R, rfl, r2, r3⟩ := r
          obtain ⟨z, hz1, hz2⟩ : ∃ z, Y[i]? = some z ∧ x = .ref z.1 := by
            unfold frefs at hx
            rw [List.getElem?_map] at hx
            cases e : Y[i]? with
            | none => rw [e] at hx; cases hx
            | some z => rw [e] at hx; cases hx; exact ⟨z, rfl, rfl⟩
          subst hz2
          have zz := sm _ _ (za2 z (List.mem_of_getElem? hz1))
          refine ⟨_, _, rfl, .inl (.inl zz), rfl, _, _, rfl, _, _, rfl, _, _, rfl, rfl, rfl, ?_⟩
          refine ⟨_, rfl, _, rfl, (by show 2 ≤ sizeLine; decide), fun u nu => kn _ _ (same_new nu) ⟨R ++ [(u, z.2.2.1, z.2.2.2)], ?_, fun y hy => ?_, ?_⟩⟩
          · unfold qrefs
            rw [List.map_append]
            rfl
          · rcases List.mem_append.mp hy with m | m
            · exact same_tup (same_new nu) (r2 y m)
            · rw [List.mem_singleton.mp m]
              exact .inl (.inl upd_same)
          · rw [List.map_append, r3, take_snoc hz1, List.map_append]
            rfl
        · obtain ⟨R, rfl, r2, r3⟩ := r
          rw [List.take_of_length_le (by omega)] at r3
          refine q D2 R Hb ((sm'.trans s2).trans sm) (sm'.free (s2.free nD2)) at_ r2 ?_
          rw [r3, ← ee, List.map_map]
          rfl
end

section
variable {P : Program} {w : World} {K : PySem.W.Frag} {mg : Str → Option Value} {base : Heap} {ea : Ea}
/-- with how many letters two ends begin alike -/
def spCommon (K : PySem.W.Frag) : Sp := fun vs H Q _ => ∃ (d t1 t2 : Addr) (kvs : List (Key × V)) (n1 n2 : Int) (s1 s2 : Nat) (z1 z2 : Str), vs = [.ref d, .ref t1, .ref t2] ∧ SqT K H t1 [.int n1, .int (s1 : Int)] ∧ SqT K H t2 [.int n2, .int (s2 : Int)] ∧
  H d = some (.dK kvs) ∧ valV kvs (.inl n1) = some (.str z1) ∧ valV kvs (.inl n2) = some (.str z2) ∧ z1.length ≤ 1000 ∧ z2.length ≤ 1000 ∧ ∀ H', Same H H' → Q (.int (comm ((TL.tl z1).drop s1) ((TL.tl z2).drop s2) : Nat)) H'
theorem sc__common_size : FnScope ["texts", "one", "two", "number", "start", "other", "begin", "size", "letter", "mate"] ["texts", "one", "two"] (defScope s__common_size) := ⟨rfl, rfl, rfl, by decide +kernel, rfl, by decide +kernel, by decide +kernel⟩
theorem ok__common_size (T : Txt K mg ea) : Cl P w K mg base 1 "_common_size" (spCommon K) := by
  have nd := sc__common_size.nd
  refine cl_of T.d__common_size sc__common_size (fun vs H Q E h => ?_) (fun f cdv A outer s H vs Q E hr h => ?_)
  · obtain ⟨d, t1, t2, kvs, n1, n2, s1, s2, z1, z2, rfl, _⟩ := h
    rfl
  · obtain ⟨d, t1, t2, kvs, n1, n2, s1, s2, z1, z2, rfl, h1, h2, hd, g1, g2, l1, l2, q⟩ := h
    refine ⟨_, (pss_cons (ps_asg (pv 1) (pg_tup rfl (pgs_cons (pg_name (i := 3) nd rfl (.inl rfl)) (pgs_cons (pg_name (i := 4) nd rfl (.inl rfl)) pgs_nil))))
      (pss_cons (ps_asg (pv 2) (pg_tup rfl (pgs_cons (pg_name (i := 5) nd rfl (.inl rfl)) (pgs_cons (pg_name (i := 6) nd rfl (.inl rfl)) pgs_nil))))
      (pss_cons (ps_set (i := 7) nd rfl (.inl rfl) pe_int)
      (pss_cons (ps_for PassesOwn.never rfl (pi_zipS (by rfl) T.b_zip (pa_cons (pe_slice sl_str (pe_dget (hu_of hr) (pv 0) (pv 3) (fun _ _ => rfl)) (po_some (pv 4)) po_none) (pa_cons (pe_slice sl_str (pe_dget (hu_of hr) (pv 0) (pv 5) (fun _ _ => rfl)) (po_some (pv 6)) po_none) pa_nil))) (pg_tup rfl (pgs_cons (pg_name (i := 8) nd rfl (.inl rfl)) (pgs_cons (pg_name (i := 9) nd rfl (.inl rfl)) pgs_nil)))
        (pss_cons (ps_if (pt_cmpR op_ne (pv 8) (pv 9) (nomark _))
            (pss_one ps_break)
            pss_nil)
          (pss_one (ps_aug (i := 7) nd rfl (.inl rfl) pe_int ip_add))))
      (pss_one (ps_ret (pv 7))))))), ?_⟩
    have dg1 : DGet H d (.int n1) (some (.str z1)) := by
      have := DGet.k (k := .inl n1) hd
      rw [g1] at this
      exact this
    have dg2 : DGet H d (.int n2) (some (.str z2)) := by
      have := DGet.k (k := .inl n2) hd
      rw [g2] at this
      exact this
    refine ⟨_, rfl, _, _, rfl, h1, rfl, _, _, rfl, _, _, rfl, rfl, ?_⟩
    refine ⟨_, rfl, _, _, rfl, h2, rfl, _, _, rfl, _, _, rfl, rfl, ?_⟩
    have b1 : z1.length ≤ sizeLine := Nat.le_trans l1 (by decide)
    have b2 : z2.length ≤ sizeLine := Nat.le_trans l2 (by decide)
    refine ⟨_, rfl, _, rfl, d, _, rfl, dg1, _, rfl, s1, rfl, z1, rfl, b1, _, rfl, _, rfl, d, _, rfl, dg2, _, rfl, s2, rfl, z2, rfl, b2, _, _, rfl, ?_⟩
    have e1 := suf_tl z1 s1
    have e2 := suf_tl z2 s2
    rw [← e1, ← e2] at q
    show ∃ W, _
    have sz : ∀ u : Str, u.cps.size = (TL.tl u).length := fun u => rfl
    have gt : ∀ (u : Str) (i : Nat), (TL.tl u)[i]? = u.cps[i]? := fun u i => by show u.cps.toList[i]? = _; rw [Array.getElem?_toList]
    refine for_it (walk_zips (x := suf z1 s1) (y := suf z2 s2)) (fun i σ H' => ∃ y8 y9 : Option V, σ = [some (.ref d), some (.ref t1), some (.ref t2), some (.int n1), some (.int (s1 : Int)), some (.int n2), some (.int (s2 : Int)), some (.int (i : Int)), y8, y9] ∧ Same H H' ∧ ∀ j, j < i → (TL.tl (suf z1 s1))[j]? = (TL.tl (suf z2 s2))[j]?)
      ⟨none, none, rfl, Same.refl H, fun j h => absurd h (by omega)⟩ (fun _ _ _ _ _ => trivial) (fun i x σ H1 H2 hi hW y => ?_) (fun σ H1 hW => ?_)
    · obtain ⟨y8, y9, rfl, sm, al⟩ := hW
      obtain ⟨t, c, c', rfl, nt, rfl, hc, hc'⟩ := y
      have sx := sm.trans (same_new (o := .tup [.str ⟨#[c]⟩, .str ⟨#[c']⟩]) nt)
      rw [sz, sz] at hi
      refine ⟨_, _, rfl, .inl (.inl upd_same), rfl, _, _, rfl, _, _, rfl, rfl, ?_⟩
      refine ⟨_, rfl, _, rfl, rfl, _, rfl, ite2 (fun e => ?_) (fun e => ?_)⟩
      · -- the first ones that differ
        have ne : c ≠ c' := fun z => by
          subst z
          simp at e
        have := comm_of (x := TL.tl (suf z1 s1)) (y := TL.tl (suf z2 s2)) (n := i) (by omega) (by omega) al (.inr (.inr (by rw [gt, gt, hc, hc']; exact fun z => ne (Option.some.inj z))))
        have q2 := q _ sx
        rw [this] at q2
        exact ⟨_, rfl, q2⟩
      · have eq : c = c' := Decidable.byContradiction fun z => e (by
          have : ¬ V.str ⟨#[c]⟩ = V.str ⟨#[c']⟩ := fun h => z (by
            have h := V.str.inj h
            have h := Str.mk.inj h
            simpa using h)
          rw [decide_eq_false this]
          rfl)
        refine ⟨_, rfl, _, _, rfl, rfl, _, _, rfl, sx, fun j hj => ?_⟩
        rcases Nat.lt_or_ge j i with h | h
        · exact al j h
        · have : j = i := by omega
          subst this
          rw [gt, gt, hc, hc', eq]
    · obtain ⟨y8, y9, rfl, sm, al⟩ := hW
      rw [sz, sz] at al ⊢
      have := comm_of (x := TL.tl (suf z1 s1)) (y := TL.tl (suf z2 s2)) (n := min (TL.tl (suf z1 s1)).length (TL.tl (suf z2 s2)).length) (by omega) (by omega) al (by omega)
      have q2 := q _ sm
      rw [this] at q2
      exact ⟨_, rfl, q2⟩
end

section
variable {P : Program} {w : World} {K : PySem.W.Frag} {mg : Str → Option Value} {base : Heap} {ea : Ea}
/-- the commons of an order (of ends of the house): a new list -/
def spCommons (K : PySem.W.Frag) : Sp := fun vs H Q _ => ∃ (a o : Addr) (L : PL) (R : QT) (E : List E3), vs = [.ref a, .ref o] ∧ HsAt K H a L ∧ ((L.map (·.2)).map (·.1)).Pairwise (· < ·) ∧ (∀ q ∈ L, q.2.2.length ≤ 1000) ∧
  SqL K H o (qrefs R) ∧ QAt K H R ∧ R.map (·.2) = E.map (·.2) ∧ (∀ e ∈ E, e ∈ ends3 (L.map (·.2))) ∧ R.length ≤ 60000 ∧
  ∀ (l : Addr) (H' : Hp), Same H H' → H l = none → H' l = some (.lst ((cmsE E).map V.int)) → Q (.ref l) H'
theorem sc_commons_of : FnScope ["house", "order", "texts", "commons", "one", "two"] ["house", "order"] (defScope s_commons_of) := ⟨rfl, rfl, rfl, by decide +kernel, rfl, by decide +kernel, by decide +kernel⟩
theorem ok_commons_of (T : Txt K mg ea) (c__common_size : Cl P w K mg base 1 "_common_size" (spCommon K)) : Cl P w K mg base 2 "commons_of" (spCommons K) := by
  have nd := sc_commons_of.nd
  refine cl_of T.d_commons_of sc_commons_of (fun vs H Q E h => ?_) (fun f cdv A outer s H vs Q E0 hr h => ?_)
  · obtain ⟨a, o, L, R, E, rfl, _⟩ := h
    rfl
  · obtain ⟨a, o, L, R, E, rfl, hA, asc, hz, hO, hR, re, hE, rl, q⟩ := h
    refine ⟨_, (pss_cons (ps_set (i := 2) nd rfl (.inr rfl) (pe_callTy (call_dictP rfl) (by rfl) T.b_dict (by decide +kernel) (pa_cons (pv 0) pa_nil)))
      (pss_cons (ps_setLc (i := 3) (own := [("one", 4), ("two", 5)]) (g := (gTup K 2 (gCons (gName 4) (gCons (gName 5) gNil)))) rfl nd rfl rfl (sw_true rfl rfl rfl (by decide +kernel)) (pi_zip (by rfl) T.b_zip (pa_cons (pv 1) (pa_cons (pe_slice sl_list (pv 1) (po_some pe_int) po_none) pa_nil))) (blkOk_by (own := [("one", 4), ("two", 5)]) (N := ["house", "order", "texts", "commons", "one", "two"]) (sc := defScope s_commons_of) (by decide +kernel)) (fun _ _ _ _ _ => (pg_tup rfl (pgs_cons (pg_name (i := 4) nd rfl (.inl rfl)) (pgs_cons (pg_name (i := 5) nd rfl (.inl rfl)) pgs_nil)))) (fun _ _ _ _ _ => pts_nil) (fun _ _ _ _ _ => (C8.pe_c c__common_size hr (by decide) (by rfl) (pa_cons (pv 2) (pa_cons (pv 4) (pa_cons (pv 5) pa_nil))))))
      (pss_cons (ps_if (pt_cmpR op_gt (pe_callB call_len_seq (by rfl) T.b_len PySem.boot_len (pa_cons (pv 1) pa_nil)) pe_int (nomark _))
        (pss_one (ps_expr (pe_bm PySem.F.plainAttrs_list PySem.F.slot_list_insert PySem.F.type_list_insert mt_insert (pv 3) (pa_cons pe_int (pa_cons pe_int pa_nil)))))
        pss_nil)
      (pss_one (ps_ret (pv 3)))))), ?_⟩
    have eps : refs L = (L.map (·.1)).map V.ref := by rw [List.map_map]; rfl
    refine ⟨_, rfl, a, L.map (fun q : Addr × Int × Str => q.1), L.map fun q : Addr × Int × Str => ((Sum.inl q.2.1 : Key), V.str q.2.2), rfl, by rw [← eps]; exact hA.1, Dct.paired_house hA.2, fun dT ndT => ?_⟩
    have s1 := same_new (o := .dK (mergeK [] (L.map fun q => ((Sum.inl q.2.1 : Key), V.str q.2.2)))) ndT
    have hdT : (upd H dT (.dK (mergeK [] (L.map fun q => ((Sum.inl q.2.1 : Key), V.str q.2.2))))) dT = some (.dK (mergeK [] (L.map fun q => ((Sum.inl q.2.1 : Key), V.str q.2.2)))) := upd_same
    have tget : ∀ {n : Int} {z : Str}, (n, z) ∈ L.map (·.2) → valV (mergeK [] (L.map fun q => ((Sum.inl q.2.1 : Key), V.str q.2.2))) (.inl n) = some (.str z) := fun h => Dct.house_get asc h
    generalize mergeK [] (L.map fun q => ((Sum.inl q.2.1 : Key), V.str q.2.2)) = kvs at s1 hdT tget ⊢
    generalize upd H dT (.dK kvs) = H1 at s1 hdT ⊢
    have ql := qrefs_len R
    have el : R.length = E.length := by have := congrArg List.length re; simpa using this
    refine ⟨_, rfl, _, rfl, 1, rfl, o, _, rfl, s1.seq hO, fun o2 no2 => ?_⟩
    have ec : cutV (qrefs R) (some 1) none = (qrefs R).drop 1 := Dct.cut_from _ 1
    rw [ec]
    have s2 := s1.trans (same_new (o := .lst ((qrefs R).drop 1)) no2)
    have hdT2 := (same_new (o := .lst ((qrefs R).drop 1)) no2) _ _ hdT
    have ho2 : (upd H1 o2 (.lst ((qrefs R).drop 1))) o2 = some (.lst ((qrefs R).drop 1)) := upd_same
    generalize upd H1 o2 (.lst ((qrefs R).drop 1)) = H2 at s2 hdT2 ho2 ⊢
    refine ⟨o, o2, qrefs R, (qrefs R).drop 1, rfl, s2.seq hO, SqL.of ho2, fun D nD => ?_⟩
    have nD0 := s2.free nD
    have dl : ((qrefs R).drop 1).length = R.length - 1 := by rw [List.length_drop, ql]
    refine lc_w (walk_zip (K := K) (a := o) (b := o2) (xs := qrefs R) (ys := (qrefs R).drop 1) (n := R.length - 1) (by rw [ql, dl]; omega)) nD (by omega) (fun H' e => ⟨e.seq (s2.seq hO), SqL.of (e _ _ ho2)⟩)
      (fun i acc _ => acc = ((List.range i).map (cmAt E)).map V.int) (fun _ _ => rfl) (fun _ _ _ _ _ _ _ r => r) (fun i H x H' y => by obtain ⟨T, x1, x2, rfl, nt, rfl, _⟩ := y; exact same_new nt) (fun i x acc Ha Hb Qn Qf hi sm y r at_ kn kf => ?_) (fun acc Hb sm at_ _ r => ?_)
    · obtain ⟨t, x1, x2, rfl, nt, rfl, hx1, hx2⟩ := y
      subst r
      obtain ⟨r1, hr1, rm1, rfl⟩ := qrefs_at hx1
      have hx2 : ((qrefs R).drop 1)[i]? = some x2 := hx2
      rw [List.getElem?_drop] at hx2
      obtain ⟨r2, hr2, rm2, rfl⟩ := qrefs_at hx2
      have ends : ∀ {k : Nat} {r : Addr × Int × Int}, R[k]? = some r → ∃ (z : Str) (s : Nat), (r.2.1, z) ∈ L.map (·.2) ∧ r.2.2 = (s : Int) ∧ letsAt E k = (TL.tl z).drop s := fun {k r} h => by
        have h2 : (R.map (·.2))[k]? = some r.2 := by rw [List.getElem?_map, h]; rfl
        rw [re, List.getElem?_map] at h2
        cases e : E[k]? with
        | none => rw [e] at h2; cases h2
        | some x =>
          rw [e] at h2
          have h3 : x.2 = r.2 := Option.some.inj h2
          obtain ⟨q, hq, s, hs, rfl⟩ := mem_ends3.mp (hE x (List.mem_of_getElem? e))
          have h4 : q.1 = r.2.1 := congrArg Prod.fst h3
          have h5 : (s : Int) = r.2.2 := congrArg Prod.snd h3
          refine ⟨q.2, s, by rw [← h4]; exact hq, h5.symm, ?_⟩
          rw [letsAt_eq e]
          exact suf_tl _ _
      obtain ⟨z1, p1, m1, k1, w1⟩ := ends hr1
      obtain ⟨z2, p2, m2, k2, w2⟩ := ends hr2
      have lz : ∀ {n : Int} {z : Str}, (n, z) ∈ L.map (·.2) → z.length ≤ 1000 := fun h => by
        obtain ⟨y, hy, e⟩ := List.mem_map.mp h
        have := hz y hy
        rw [e] at this
        exact this
      have sT := s2.trans sm
      have q1 := same_tup sT (hR r1 rm1)
      have q2 := same_tup sT (hR r2 rm2)
      rw [k1] at q1
      rw [k2] at q2
      refine ⟨_, _, rfl, .inl (.inl upd_same), rfl, _, _, rfl, _, _, rfl, rfl, rfl, ?_⟩
      refine ⟨_, rfl, _, rfl, _, rfl, dT, r1.1, r2.1, kvs, r1.2.1, r2.2.1, p1, p2, z1, z2, rfl, q1, q2, sm _ _ hdT2, tget m1, tget m2, lz m1, lz m2, fun H' e => kn _ _ e ?_⟩
      rw [List.range_succ, List.map_append, List.map_append, ← w1, ← w2]
      have : letsAt E (1 + i) = letsAt E (i + 1) := by rw [Nat.add_comm]
      rw [this]
      rfl
    · subst r
      have sT := s2.trans sm
      refine ⟨_, rfl, o, _, rfl, .inl (sT.seq hO), _, _, rfl, rfl, _, rfl, ite2 (fun e => ?_) (fun e => ?_)⟩
      · have e' := of_decide_eq_true e
        rw [ql] at e'
        refine ⟨_, rfl, .inl ⟨rfl, _, SqL.of at_⟩, D, _, 0, _, rfl, rfl, at_, ?_, by omega, by decide, ?_⟩
        · rw [List.length_map, List.length_map, List.length_range]
          exact Nat.lt_of_le_of_lt (by omega : _ ≤ 60000) (by decide)
        · refine ⟨_, rfl, q D _ (same_mut sT nD0) nD0 ?_⟩
          rw [upd_same, cmsE_cons (n := R.length - 1) (by omega)]
          rfl
      · have e0 : R.length = 0 := by
          rcases Nat.eq_zero_or_pos R.length with h | h
          · exact h
          · exact absurd (decide_eq_true (by rw [ql]; omega)) e
        refine ⟨_, rfl, q D _ sT nD0 ?_⟩
        rw [at_]
        have : E = [] := List.eq_nil_of_length_eq_zero (by omega)
        rw [this, e0]
        rfl
end

end SH
set_option Elab.async false
set_option linter.all false
set_option maxRecDepth 100000
set_option maxHeartbeats 4000000
namespace SH
open PySem PySem.Spec PyProof.Rows L2
section
variable {P : Program} {w : World} {K : PySem.W.Frag} {mg : Str → Option Value} {base : Heap} {ea : Ea}
theorem cut_len (z : Str) (lo hi : Option Int) : (cutS z lo hi).length ≤ z.length := by
  show ((z.cps.toList.drop (HT.sIx z.length 0 lo)).take (HT.sIx z.length z.length hi - HT.sIx z.length 0 lo)).toArray.size ≤ z.length
  rw [List.size_toArray]
  refine Nat.le_trans (List.length_take_le' _ _) ?_
  rw [List.length_drop]
  exact Nat.sub_le _ _
/-- a word drawn -/
def spWord (K : PySem.W.Frag) : Sp := fun vs H Q _ => ∃ (a c : Addr) (ns : List Int) (k : Int) (L : PL), vs = [.ref a, .int k, .ref c] ∧ SqL K H a (ns.map V.int) ∧ Dr ns ∧ 0 ≤ k ∧ k < 50000 ∧ HsAt K H c L ∧ L.length ≤ 500 ∧ (∀ q ∈ L, IsLet q.2.2 ∧ q.2.2.length ≤ 100) ∧
  ∀ (z : Str) (H' : Hp), Same H H' → IsLet z → z.length ≤ 200 → Q (.str z) H'
theorem sc__law_word : FnScope ["draws", "k", "house", "word", "text", "start", "j"] ["draws", "k", "house"] (defScope s__law_word) := ⟨rfl, rfl, rfl, by decide +kernel, rfl, by decide +kernel, by decide +kernel⟩
theorem ok__law_word (T : Txt K mg ea) (c__law_mix : Cl P w K mg base 1 "_law_mix" (spDraw K)) : Cl P w K mg base 2 "_law_word" (spWord K) := by
  have nd := sc__law_word.nd
  refine cl_of T.d__law_word sc__law_word (fun vs H Q E h => ?_) (fun f cdv A outer s H vs Q E hr h => ?_)
  · obtain ⟨a, c, ns, k, L, rfl, _⟩ := h
    rfl
  · obtain ⟨a, c, ns, k, L, rfl, hS, hD, h0, h1, hA, hl, hz, q⟩ := h
    refine ⟨_, (pss_cons (ps_set (i := 3) nd rfl (.inl rfl) (pe_join pe_str (pe_lc (own := [("j", 6)]) (g := (gName 6)) rfl nd (pi_range1 rfl T.b_range (pa_cons (C8.pe_c c__law_mix hr (by decide) (by rfl) (pa_cons (pv 0) (pa_cons (pv 1) (pa_cons pe_int pa_nil)))) pa_nil)) (blkOk_by (own := [("j", 6)]) (N := ["draws", "k", "house", "word", "text", "start", "j"]) (sc := defScope s__law_word) (by decide +kernel)) (fun _ _ _ _ _ => (pg_name (i := 6) nd rfl (.inl rfl))) (fun _ _ _ _ _ => pts_nil) (fun _ _ _ _ _ => (pe_ix ix_str pe_str (C8.pe_c c__law_mix hr (by decide) (by rfl) (pa_cons (pv 0) (pa_cons (pe_op op_add (pe_op op_add (pv 1) pe_int) (pv 6)) (pa_cons pe_int pa_nil)))) (fun _ _ => rfl))))))
      (C8.pss_cut (ps_if (PW.pt (pw_and (pt_cmpR op_gt (pe_callB call_len_seq (by rfl) T.b_len PySem.boot_len (pa_cons (pv 2) pa_nil)) pe_int (nomark _)) (pw_and1 (pt_cmpR op_gt (C8.pe_c c__law_mix hr (by decide) (by rfl) (pa_cons (pv 0) (pa_cons (pe_op op_add (pv 1) pe_int) (pa_cons pe_int pa_nil)))) pe_int (nomark _)))))
        (pss_cons (ps_set (i := 4) nd rfl (.inl rfl) (pe_ix (ixt (K := K)) (pe_ix (ixl (K := K)) (pv 2) (C8.pe_c c__law_mix hr (by decide) (by rfl) (pa_cons (pv 0) (pa_cons (pe_op op_add (pv 1) pe_int) (pa_cons (pe_callB call_len_seq (by rfl) T.b_len PySem.boot_len (pa_cons (pv 2) pa_nil)) pa_nil)))) (fun _ _ => rfl)) pe_int (fun _ _ => rfl)))
          (pss_cons (ps_set (i := 5) nd rfl (.inl rfl) (C8.pe_c c__law_mix hr (by decide) (by rfl) (pa_cons (pv 0) (pa_cons (pe_op op_add (pv 1) pe_int) (pa_cons (pe_op op_add (pe_callB call_len_str (by rfl) T.b_len PySem.boot_len (pa_cons (pv 4) pa_nil)) pe_int) pa_nil)))))
          (pss_one (ps_set (i := 3) nd rfl (.inl rfl) (pe_op op_add_str (pe_slice sl_str (pv 4) (po_some (pv 5)) (po_some (pe_op op_add (pv 5) (C8.pe_c c__law_mix hr (by decide) (by rfl) (pa_cons (pv 0) (pa_cons (pv 1) (pa_cons pe_int pa_nil))))))) (pe_ix (ixl (K := K)) (pe_lst (pa_cons pe_str (pa_cons pe_str (pa_cons pe_str (pa_cons pe_str pa_nil))))) (C8.pe_c c__law_mix hr (by decide) (by rfl) (pa_cons (pv 0) (pa_cons (pe_op op_add (pv 1) pe_int) (pa_cons pe_int pa_nil)))) (fun _ _ => rfl)))))))
        pss_nil)
      (pss_one (ps_ret (pv 3))))), ?_⟩
    have rl := refs_len L
    refine ⟨⟨_, rfl⟩, _, rfl, _, rfl, a, ns, k, 4, rfl, hS, hD, by omega, by omega, by omega, fun r r0 r1 => ?_⟩
    refine ⟨r, rfl, by omega, by omega, fun D nD => ?_⟩
    have menu : IsLet ("ab ~B" : Str) := by decide
    refine lc_w (walk_range (lo := 0) (n := r.toNat)) nD (by omega) (fun _ _ => trivial) (fun i acc _ => ∃ ys : List Str, acc = ys.map V.str ∧ ys.length = i ∧ ∀ y ∈ ys, y.length = 1 ∧ IsLet y) (fun _ _ => ⟨[], rfl, rfl, fun _ h => nomatch h⟩) (fun _ _ _ _ _ _ _ r => r) (fun i H x H' y => by rw [y.1]; exact Same.refl _) (fun i v acc H1 H2 Qn Qf hi sm y rr at_ kn kf => ?_) (fun acc H1 sm at_ _ rr => ?_)
    · obtain ⟨rfl, rfl⟩ := y
      obtain ⟨ys, rfl, yl, ya⟩ := rr
      refine ⟨rfl, _, rfl, _, rfl, _, _, rfl, rfl, _, rfl, _, _, rfl, rfl, a, ns, k + 4 + (0 + (i : Int)), 5, rfl, sm.seq hS, hD, by omega, by omega, by omega, fun g g0 g1 => ?_⟩
      refine ixs_let menu (by decide) g0 (by show g < 5; exact g1) fun c hc => ?_
      exact kn _ _ (Same.refl _) ⟨ys ++ [⟨#[c]⟩], by rw [List.map_append]; rfl, by rw [List.length_append, yl]; rfl, fun y hy => by
        rcases List.mem_append.mp hy with m | m
        · exact ya y m
        · rw [List.mem_singleton.mp m]; exact ⟨rfl, let_one hc⟩⟩
    · obtain ⟨ys, rfl, yl, ya⟩ := rr
      obtain ⟨j1, j2, j3⟩ := join_ones ya
      refine ⟨"", D, ys, rfl, rfl, .inl (SqL.of at_), ?_, ?_⟩
      · rw [j1]
        show ys.length + ys.length * 0 ≤ 16777216
        omega
      generalize (Txt.join "" ys) = z at j2 j3 ⊢
      refine ⟨fun σ H' => Same H H' ∧ ∃ (x : Str) (y4 y5 y6 : Option V), IsLet x ∧ x.length ≤ 200 ∧ σ = [some (.ref a), some (.int k), some (.ref c), some (.str x), y4, y5, y6], ?_, ?_⟩
      · refine ⟨_, rfl, c, _, rfl, .inl (sm.seq hA.1), ?_⟩
        repeat (first | refine ⟨_, rfl, ?_⟩ | refine ⟨rfl, ?_⟩ | refine ⟨_, _, rfl, rfl, ?_⟩ | refine ⟨_, _, _, rfl, rfl, ?_⟩)
        refine ite2 (fun e => ?_) (fun e => iteF ⟨sm, _, _, _, _, j3, by omega, rfl⟩)
        have e' := of_decide_eq_true e
        repeat (first | refine ⟨_, rfl, ?_⟩ | refine ⟨rfl, ?_⟩ | refine ⟨_, _, rfl, rfl, ?_⟩ | refine ⟨_, _, _, rfl, rfl, ?_⟩)
        refine ⟨a, ns, k + 1, 4, rfl, sm.seq hS, hD, by omega, by omega, by omega, fun r _ _ => ?_⟩
        repeat (first | refine ⟨_, rfl, ?_⟩ | refine ⟨rfl, ?_⟩ | refine ⟨_, _, rfl, rfl, ?_⟩ | refine ⟨_, _, _, rfl, rfl, ?_⟩)
        refine ite2 (fun e => ?_) (fun e => ⟨sm, _, _, _, _, j3, by omega, rfl⟩)
        repeat (first | refine ⟨_, rfl, ?_⟩ | refine ⟨rfl, ?_⟩ | refine ⟨_, _, rfl, rfl, ?_⟩ | refine ⟨_, _, _, rfl, rfl, ?_⟩)
        refine ⟨c, _, rfl, .inl (sm.seq hA.1), a, ns, k + 2, ((refs L).length : Int), rfl, sm.seq hS, hD, by omega, by omega, by omega, fun i i0 i1 => ?_⟩
        obtain ⟨t, ht, hm⟩ := at_map (fun q : Addr × Int × Str => V.ref q.1) (xs := L) i0 (by omega)
        refine ⟨c, _, _, _, rfl, rfl, sm.seq hA.1, ht, ?_⟩
        refine ⟨_, _, _, _, rfl, rfl, same_tup sm (hA.2 t hm), (show atI [V.int t.2.1, V.str t.2.2] 1 = some (.str t.2.2) from rfl), ?_⟩
        obtain ⟨hz1, hz2⟩ := hz t hm
        repeat (first | refine ⟨_, rfl, ?_⟩ | refine ⟨rfl, ?_⟩ | refine ⟨_, _, rfl, rfl, ?_⟩ | refine ⟨_, _, _, rfl, rfl, ?_⟩)
        refine ⟨Nat.le_trans hz2 (by decide), ?_⟩
        repeat (first | refine ⟨_, rfl, ?_⟩ | refine ⟨rfl, ?_⟩ | refine ⟨_, _, rfl, rfl, ?_⟩ | refine ⟨_, _, _, rfl, rfl, ?_⟩)
        refine ⟨a, ns, k + 3, (t.2.2.length : Int) + 1, rfl, sm.seq hS, hD, by omega, by omega, by omega, fun s s0 s1 => ?_⟩
        repeat (first | refine ⟨_, rfl, ?_⟩ | refine ⟨rfl, ?_⟩ | refine ⟨_, _, rfl, rfl, ?_⟩ | refine ⟨_, _, _, rfl, rfl, ?_⟩)
        refine ⟨a, ns, k, 6, rfl, sm.seq hS, hD, by omega, by omega, by omega, fun n n0 n1 => ?_⟩
        repeat (first | refine ⟨_, rfl, ?_⟩ | refine ⟨rfl, ?_⟩ | refine ⟨_, _, rfl, rfl, ?_⟩ | refine ⟨_, _, _, rfl, rfl, ?_⟩)
        refine ⟨Nat.le_trans hz2 (by decide), ?_⟩
        have cl : IsLet (cutS t.2.2 (some s) (some (s + n))) := cut_let hz1 _ _
        have cn : (cutS t.2.2 (some s) (some (s + n))).length ≤ 100 := Nat.le_trans (cut_len _ _ _) hz2
        generalize cutS t.2.2 (some s) (some (s + n)) = u at cl cn ⊢
        refine ⟨(by show 4 ≤ sizeLine; decide), fun l nl => ?_⟩
        have s1 := same_new (o := .lst ([("" : Str), "", "a", "~"].map V.str)) nl
        repeat (first | refine ⟨_, rfl, ?_⟩ | refine ⟨rfl, ?_⟩ | refine ⟨_, _, rfl, rfl, ?_⟩ | refine ⟨_, _, _, rfl, rfl, ?_⟩)
        refine ⟨a, ns, k + 1, 4, rfl, (sm.trans s1).seq hS, hD, by omega, by omega, by omega, fun g g0 g1 => ?_⟩
        obtain ⟨x, hx, hxm⟩ := at_map V.str (xs := [("" : Str), "", "a", "~"]) (i := g) g0 g1
        have hx1 : IsLet x ∧ x.length ≤ 1 := by
          simp only [List.mem_cons, List.not_mem_nil, or_false] at hxm
          rcases hxm with e | e | e | e <;> subst e <;> exact ⟨by decide, by decide⟩
        refine ⟨l, _, g, .str x, rfl, rfl, .inl (.inl upd_same), hx, ?_⟩
        have b1 : (u ++ x).length ≤ 101 := by rw [len_app]; omega
        refine ⟨u, x, rfl, rfl, Nat.le_trans (by omega : u.length + x.length ≤ 101) (by decide), ?_⟩
        exact ⟨sm.trans s1, u ++ x, _, _, _, let_app cl hx1.1, by omega, rfl⟩
      · rintro σ' H' ⟨sm2, x, y4, y5, y6, xl, xn, rfl⟩
        exact ⟨_, rfl, q x H' sm2 xl xn⟩
end

end SH
set_option Elab.async false
set_option linter.all false
set_option maxRecDepth 100000
set_option maxHeartbeats 4000000
namespace SH
open PySem PySem.Spec PyProof.Rows L2
section
variable {P : Program} {w : World} {K : PySem.W.Frag} {mg : Str → Option Value} {base : Heap} {ea : Ea}
theorem sc_places : FnScope ["house", "word", "size", "found", "number", "text", "start"] ["house", "word"] (defScope s_places) := ⟨rfl, rfl, rfl, by decide +kernel, rfl, by decide +kernel, by decide +kernel⟩
theorem ok_places (T : Txt K mg ea) : Cl P w K mg base 1 "places" (spPlaces K) := by
  have nd := sc_places.nd
  refine cl_of T.d_places sc_places (fun vs H Q E h => ?_) (fun f cdv A outer s H vs Q E hr h => ?_)
  · obtain ⟨a, L, wd, rfl, _⟩ := h
    rfl
  · obtain ⟨a, L, wd, rfl, hA, hl, hz, wl, q⟩ := h
    refine ⟨_, (pss_cons (ps_set (i := 2) nd rfl (.inl rfl) (pe_callB call_len_str (by rfl) T.b_len PySem.boot_len (pa_cons (pv 1) pa_nil)))
      (pss_cons (ps_set (i := 3) nd rfl (.inl rfl) (pe_lst pa_nil))
      (pss_cons (ps_for PassesOwn.never rfl (pi_listK (K := K) (pv 0)) (pg_tup rfl (pgs_cons (pg_name (i := 4) nd rfl (.inl rfl)) (pgs_cons (pg_name (i := 5) nd rfl (.inl rfl)) pgs_nil)))
        (pss_one (ps_for PassesOwn.never rfl (pi_range1 rfl T.b_range (pa_cons (pe_op op_add (pe_op op_sub (pe_callB call_len_str (by rfl) T.b_len PySem.boot_len (pa_cons (pv 5) pa_nil)) (pv 2)) pe_int) pa_nil)) (pg_name (i := 6) nd rfl (.inl rfl))
            (pss_one (ps_if (pt_cmpR op_eq (pe_slice sl_str (pv 5) (po_some (pv 6)) (po_some (pe_op op_add (pv 6) (pv 2)))) (pv 1) (nomark _))
                (pss_one (ps_expr (pe_bm PySem.F.plainAttrs_list PySem.F.slot_list_append PySem.F.type_list_append mt_append (pv 3) (pa_cons (pe_tup (pa_cons (pv 4) (pa_cons (pv 6) pa_nil))) pa_nil))))
                pss_nil)))))
      (pss_one (ps_ret (pv 3)))))), ?_⟩
    have rl : (refs L).length = L.length := refs_len L
    have big : ∀ i, (plc ((L.map (·.2)).take i) wd).length ≤ 50500 := fun i => by
      refine Nat.le_trans (plc_len (m := 100) fun q hq => ?_) (by have := List.length_take_le' i (L.map (·.2)); rw [List.length_map] at this; omega)
      obtain ⟨z, hz2, rfl⟩ := List.mem_map.mp (List.mem_of_mem_take hq)
      exact hz z hz2
    refine ⟨_, rfl, wd, rfl, Nat.le_trans wl (by decide), ?_⟩
    refine ⟨Nat.zero_le _, fun D nD => ?_⟩
    have sm0 : Same H (upd H D (.lst [])) := same_new nD
    refine ⟨_, rfl, a, rfl, ⟨_, sm0.seq hA.1⟩, ?_⟩
    refine for_it (walk_list (K := K) (a := a) (xs := refs L)) (fun i σ H' => ∃ (R : QT) (y4 y5 y6 : Option V), σ = [some (.ref a), some (.str wd), some (.int (wd.length : Int)), some (.ref D), y4, y5, y6] ∧ Same H H' ∧ H' D = some (.lst (qrefs R)) ∧ QAt K H' R ∧ R.map (·.2) = plc ((L.map (·.2)).take i) wd)
      ⟨[], none, none, none, rfl, sm0, upd_same, (fun z m => nomatch m), rfl⟩ (fun i σ H' _ hW => ?_) (fun i x σ H1 H2 hi hW y => ?_) (fun σ H1 hW => ?_)
    · obtain ⟨R, y4, y5, y6, rfl, sm, _⟩ := hW
      exact sm.seq hA.1
    · obtain ⟨R, y4, y5, y6, rfl, sm, at_, za, ze⟩ := hW
      obtain ⟨rfl, hx⟩ := y
      obtain ⟨t, ht, tm, rfl⟩ := refs_get hx
      have tl := hz t tm
      have ht2 : (L.map (·.2))[i]? = some t.2 := by rw [List.getElem?_map, ht]; rfl
      have tk := take_snoc ht2
      refine ⟨_, _, rfl, same_tup sm (hA.2 t tm), rfl, _, _, rfl, _, _, rfl, rfl, ?_⟩
      refine ⟨_, rfl, t.2.2, rfl, Nat.le_trans tl (by decide), _, rfl, _, _, rfl, rfl, _, _, rfl, rfl, _, rfl, by omega, by omega, ?_⟩
      have en : ((t.2.2.length : Int) - (wd.length : Int) + 1).toNat = t.2.2.length + 1 - wd.length := by omega
      refine for_range (lo := 0) (n := ((t.2.2.length : Int) - (wd.length : Int) + 1).toNat) (fun j σ H' => ∃ (R : QT) (y6 : Option V), σ = [some (.ref a), some (.str wd), some (.int (wd.length : Int)), some (.ref D), some (.int t.2.1), some (.str t.2.2), y6] ∧ Same H H' ∧ H' D = some (.lst (qrefs R)) ∧ QAt K H' R ∧ R.map (·.2) = plc ((L.map (·.2)).take i) wd ++ ((List.range j).filter (standsP wd t.2.2)).map fun s : Nat => (t.2.1, (s : Int)))
        ⟨R, y6, rfl, sm, at_, za, by rw [ze]; simp⟩ (fun j σ H2 hj hW => ?_) (fun σ H1 hW => ?_)
      · obtain ⟨R, y6, rfl, sm, at_, za, ze⟩ := hW
        have e0 : (0 : Int) + (j : Int) = (j : Int) := Int.zero_add _
        rw [e0]
        rw [en] at hj
        refine ⟨_, rfl, _, rfl, j, rfl, _, rfl, _, rfl, _, _, rfl, rfl, _, rfl, t.2.2, rfl, Nat.le_trans tl (by decide), _, rfl, rfl, _, rfl, ?_⟩
        have cv : decide (V.str (cutS t.2.2 (some (j : Int)) (some ((j : Int) + (wd.length : Int)))) = V.str wd) = standsP wd t.2.2 j := decide_eq_decide.mpr (by
          rw [← cut_mid (by omega)]
          exact ⟨fun h => by rw [V.str.inj h], fun h => by rw [str_ext h]⟩)
        rw [cv]
        have sn : (List.range (j + 1)).filter (standsP wd t.2.2) = (List.range j).filter (standsP wd t.2.2) ++ if standsP wd t.2.2 j = true then [j] else [] := by
          rw [List.range_succ, List.filter_append]
          congr 1
          by_cases c : standsP wd t.2.2 j = true
          · rw [if_pos c, List.filter_cons_of_pos c]; rfl
          · rw [if_neg c, List.filter_cons_of_neg c]; rfl
        refine ite2 (fun e => ?_) (fun e => ?_)
        · refine ⟨_, rfl, .inl ⟨rfl, _, SqL.of at_⟩, _, rfl, _, rfl, (by show 2 ≤ sizeLine; decide), fun u nu => ?_⟩
          have s2 := same_new (o := .tup [.int t.2.1, .int (j : Int)]) nu
          have at2 := s2 _ _ at_
          have zl : R.length ≤ 60000 := by
            have e := congrArg List.length ze
            rw [List.length_map, List.length_append, List.length_map] at e
            have b1 := List.length_filter_le (standsP wd t.2.2) (List.range j)
            rw [List.length_range] at b1
            have := big i
            omega
          refine ⟨D, _, _, rfl, rfl, at2, ?_, R ++ [(u, t.2.1, (j : Int))], _, rfl, same_mut (sm.trans s2) nD, ?_, ?_, ?_⟩
          · rw [qrefs_len]
            exact Nat.lt_of_le_of_lt zl (by decide)
          · rw [upd_same]
            show _ = some (HO.lst (List.map _ _))
            rw [List.map_append]
            rfl
          · refine QAt.put (l := qrefs R) (fun y hy => ?_) at2
            rcases List.mem_append.mp hy with m | m
            · exact same_tup s2 (za y m)
            · rw [List.mem_singleton.mp m]
              exact .inl (.inl upd_same)
          · rw [List.map_append, ze, sn, if_pos e, List.map_append, List.append_assoc]
            rfl
        · refine ⟨R, _, rfl, sm, at_, za, ?_⟩
          rw [ze, sn, if_neg e, List.append_nil]
      · obtain ⟨R, y6, rfl, sm, at_, za, ze⟩ := hW
        refine ⟨R, _, _, _, rfl, sm, at_, za, ?_⟩
        rw [ze, tk, plc_snoc, en, plcOf_cut]
    · obtain ⟨R, y4, y5, y6, rfl, sm, at_, za, ze⟩ := hW
      rw [List.take_of_length_le (by rw [List.length_map, rl]; exact Nat.le_refl _)] at ze
      exact ⟨_, rfl, q D R H1 sm nD at_ za ze⟩
end

section
variable {P : Program} {w : World} {K : PySem.W.Frag} {mg : Str → Option Value} {base : Heap} {ea : Ea}
def spCountW (K : PySem.W.Frag) : Sp := fun vs H Q _ => ∃ (a : Addr) (L : PL) (wd : Str), vs = [.ref a, .str wd] ∧ HsAt K H a L ∧ L.length ≤ 500 ∧ (∀ q ∈ L, q.2.2.length ≤ 100) ∧ wd.length ≤ 1000 ∧ ∀ (H' : Hp), Same H H' → Q (.int ((plc (L.map (·.2)) wd).length : Nat)) H'
theorem sc_count : FnScope ["house", "word"] ["house", "word"] (defScope s_count) := ⟨rfl, rfl, rfl, by decide +kernel, rfl, by decide +kernel, by decide +kernel⟩
theorem ok_count (T : Txt K mg ea) (c_places : Cl P w K mg base 1 "places" (spPlaces K)) : Cl P w K mg base 2 "count" (spCountW K) := by
  have nd := sc_count.nd
  refine cl_of T.d_count sc_count (fun vs H Q E h => ?_) (fun f cdv A outer s H vs Q E hr h => ?_)
  · obtain ⟨a, L, wd, rfl, _⟩ := h
    rfl
  · obtain ⟨a, L, wd, rfl, hA, hl, hz, wl, q⟩ := h
    refine ⟨_, (pss_one (ps_ret (pe_callB call_len_seq (by rfl) T.b_len PySem.boot_len (pa_cons (C8.pe_c c_places hr (by decide) (by rfl) (pa_cons (pv 0) (pa_cons (pv 1) pa_nil))) pa_nil)))), ?_⟩
    refine ⟨_, rfl, _, rfl, a, L, wd, rfl, hA, hl, hz, wl, fun l R H' sm nl at_ za ze => ?_⟩
    refine ⟨_, _, rfl, .inl (SqL.of at_), ?_⟩
    have := q H' sm
    rw [← ze, List.length_map] at this
    rw [qrefs_len]
    exact this
end

end SH
set_option Elab.async false
set_option linter.all false
set_option maxRecDepth 100000
set_option maxHeartbeats 4000000
namespace SH
open PySem PySem.Spec PyProof.Rows L2
section
variable {P : Program} {w : World} {K : PySem.W.Frag} {mg : Str → Option Value} {base : Heap} {ea : Ea}
def spLaw (K : PySem.W.Frag) : Sp := fun vs H Q _ => ∃ (a : Addr) (ns : List Int), vs = [.ref a] ∧ SqL K H a (ns.map V.int) ∧ ns.length ≤ 63 ∧ ∀ H', Q (.bl true) H'
/-- the commons at the edges of a word's range and within -/
theorem cm_in {E : List E3} (pw : E.Pairwise (fun p q => le3 p q = true)) (w : Str) : ∀ k, rFirst w E < k → k < rFirst w E + rMany w E → (w.length : Int) ≤ cmAt E (k - 1) := by
  intro k h1 h2
  obtain ⟨r1, r2, r3⟩ := rng_cut pw w
  have fl : rFirst w E + rMany w E ≤ E.length := by
    have := congrArg List.length r1
    rw [List.length_take, List.length_drop] at this
    have h : (E.filter (begP w)).length = rMany w E := rfl
    rw [h] at this
    omega
  have beg : ∀ j, rFirst w E ≤ j → j < rFirst w E + rMany w E → (letsAt E j).take w.length = TL.tl w ∧ w.length ≤ (letsAt E j).length := fun j a b => by
    have hj : j < E.length := by omega
    have e : E[j] ∈ E.filter (begP w) := by
      rw [← r1]
      refine List.mem_of_getElem? (i := j - rFirst w E) ?_
      rw [List.getElem?_take, if_pos (by omega), List.getElem?_drop, show rFirst w E + (j - rFirst w E) = j by omega]
      exact List.getElem?_eq_getElem hj
    have c := of_decide_eq_true (List.mem_filter.mp e).2
    rw [letsAt_eq (List.getElem?_eq_getElem hj)]
    refine ⟨c, ?_⟩
    have := congrArg List.length c
    rw [List.length_take] at this
    have : (TL.tl w).length = w.length := rfl
    omega
  have b1 := beg (k - 1) (by omega) (by omega)
  have b2 := beg k (by omega) (by omega)
  have := take_comm w.length (letsAt E (k - 1)) (letsAt E k) b1.2 b2.2 (by rw [b1.1, b2.1])
  unfold cmAt
  rw [show k - 1 + 1 = k by omega]
  omega
theorem cm_edge {E : List E3} (pw : E.Pairwise (fun p q => le3 p q = true)) (w : Str) (k : Nat) (h0 : 0 < k) (hk : k < E.length) (he : (k = rFirst w E ∧ 0 < rMany w E) ∨ (k = rFirst w E + rMany w E ∧ 0 < rMany w E)) : cmAt E (k - 1) < (w.length : Int) := by
  obtain ⟨r1, r2, r3⟩ := rng_cut pw w
  have fl : rFirst w E + rMany w E ≤ E.length := by
    have := congrArg List.length r1
    rw [List.length_take, List.length_drop] at this
    have h : (E.filter (begP w)).length = rMany w E := rfl
    rw [h] at this
    omega
  have beg : ∀ j, rFirst w E ≤ j → j < rFirst w E + rMany w E → (letsAt E j).take w.length = TL.tl w := fun j a b => by
    have hj : j < E.length := by omega
    have e : E[j] ∈ E.filter (begP w) := by
      rw [← r1]
      refine List.mem_of_getElem? (i := j - rFirst w E) ?_
      rw [List.getElem?_take, if_pos (by omega), List.getElem?_drop, show rFirst w E + (j - rFirst w E) = j by omega]
      exact List.getElem?_eq_getElem hj
    have c := of_decide_eq_true (List.mem_filter.mp e).2
    rw [letsAt_eq (List.getElem?_eq_getElem hj)]
    exact c
  have ahead : ∀ j, j < rFirst w E → (letsAt E j).take w.length ≠ TL.tl w := fun j a => by
    have hj : j < E.length := by omega
    have e : E[j] ∈ E.filter (prW w false) := by
      rw [← r2]
      refine List.mem_of_getElem? (i := j) ?_
      rw [List.getElem?_take, if_pos a]
      exact List.getElem?_eq_getElem hj
    have c := (List.mem_filter.mp e).2
    rw [letsAt_eq (List.getElem?_eq_getElem hj)]
    intro z
    unfold prW at c
    rw [decide_eq_false (take_eq_not_lt z)] at c
    simp at c
  have behind : ∀ j, rFirst w E + rMany w E ≤ j → j < E.length → (letsAt E j).take w.length ≠ TL.tl w := fun j a hj => by
    have e : E[j] ∈ E.filter (fun e => !prW w true e) := by
      rw [← r3]
      refine List.mem_of_getElem? (i := j - (rFirst w E + rMany w E)) ?_
      rw [List.getElem?_drop, show rFirst w E + rMany w E + (j - (rFirst w E + rMany w E)) = j by omega]
      exact List.getElem?_eq_getElem hj
    have c := (List.mem_filter.mp e).2
    rw [letsAt_eq (List.getElem?_eq_getElem hj)]
    intro z
    unfold prW at c
    rw [decide_eq_true z, Bool.true_and, Bool.or_true] at c
    exact absurd c (by decide)
  have ne : (letsAt E (k - 1)).take w.length ≠ (letsAt E k).take w.length := by
    rcases he with ⟨e, m⟩ | ⟨e, m⟩
    · rw [beg k (by omega) (by omega)]
      exact ahead (k - 1) (by omega)
    · rw [beg (k - 1) (by omega) (by omega)]
      exact fun z => behind k (by omega) hk z.symm
  unfold cmAt
  rw [show k - 1 + 1 = k by omega]
  rcases Nat.lt_or_ge (comm (letsAt E (k - 1)) (letsAt E k)) w.length with c | c
  · omega
  · exact absurd (comm_take _ _ _ c) ne
theorem cms_at {E : List E3} {k : Nat} (h : k < E.length) : atI ((cmsE E).map V.int) (k : Int) = some (.int (if k = 0 then 0 else cmAt E (k - 1))) := by
  refine atI_nat ?_
  unfold cmsE
  rw [List.getElem?_map, List.getElem?_map, List.getElem?_range h]
  rfl
theorem cut_both (xs : List V) (f m : Nat) (h : f + m ≤ xs.length) : cutV xs (some (f : Int)) (some (f + m : Int)) = (xs.drop f).take m := by
  have e : ((f : Int) + (m : Int)) = ((f + m : Nat) : Int) := by omega
  rw [e]
  unfold cutV
  rw [HT.sIx_nat, HT.sIx_nat, Nat.min_eq_left h, Nat.min_eq_left (by omega), Nat.add_sub_cancel_left]
theorem sc_law : FnScope ["script", "draws", "house", "order", "commons", "turn", "word", "first", "stop", "k"] ["script"] (defScope s_law) := ⟨rfl, rfl, rfl, by decide +kernel, rfl, by decide +kernel, by decide +kernel⟩
theorem ok_law (T : Txt K mg ea) {f : Addr} {fd : FuncData} (F0 : Fun K "law" "law" s_law f fd) (c__law_draws : Cl P w K mg base 1 "_law_draws" (spDraws K)) (c__law_house : Cl P w K mg base 3 "_law_house" (spHouse K))
    (c_order_of : Cl P w K mg base 1 "order_of" (spOrder K)) (c_commons_of : Cl P w K mg base 2 "commons_of" (spCommons K)) (c__law_word : Cl P w K mg base 2 "_law_word" (spWord K)) (c_range_of : Cl P w K mg base 2 "range_of" (spRange K)) (c_places : Cl P w K mg base 1 "places" (spPlaces K)) (c_count : Cl P w K mg base 2 "count" (spCountW K)) :
    FnOk P w K mg base CX0 8 f fd ["script"] (spLaw K) := by
  have nd := sc_law.nd
  refine F0.ok sc_law (fun vs H Q E h => ?_) (fun cdv A outer s H vs Q E hr h => ?_)
  · obtain ⟨a, ns, rfl, _⟩ := h
    rfl
  · obtain ⟨a, ns, rfl, hS, hl, q⟩ := h
    refine ⟨_, (pss_cons (ps_set (i := 1) nd rfl (.inl rfl) (C8.pe_c c__law_draws hr (by decide) (by rfl) (pa_cons (pv 0) pa_nil)))
      (pss_cons (ps_set (i := 2) nd rfl (.inl rfl) (C8.pe_c c__law_house hr (by decide) (by rfl) (pa_cons (pv 1) (pa_cons pe_int (pa_cons pe_int pa_nil)))))
      (pss_cons (ps_set (i := 3) nd rfl (.inl rfl) (C8.pe_c c_order_of hr (by decide) (by rfl) (pa_cons (pv 2) pa_nil)))
      (pss_cons (ps_set (i := 4) nd rfl (.inl rfl) (C8.pe_c c_commons_of hr (by decide) (by rfl) (pa_cons (pv 2) (pa_cons (pv 3) pa_nil))))
      (pss_cons (ps_for PassesOwn.never rfl (pi_range1 rfl T.b_range (pa_cons pe_int pa_nil)) (pg_name (i := 5) nd rfl (.inl rfl))
        (pss_cons (ps_set (i := 6) nd rfl (.inl rfl) (C8.pe_c c__law_word hr (by decide) (by rfl) (pa_cons (pv 1) (pa_cons (pe_op op_add pe_int (pe_op op_mul pe_int (pv 5))) (pa_cons (pv 2) pa_nil)))))
          (pss_cons (ps_asg (C8.pe_c c_range_of hr (by decide) (by rfl) (pa_cons (pv 2) (pa_cons (pv 3) (pa_cons (pv 6) pa_nil)))) (pg_tup rfl (pgs_cons (pg_name (i := 7) nd rfl (.inl rfl)) (pgs_cons (pg_name (i := 8) nd rfl (.inl rfl)) pgs_nil))))
          (pss_cons (ps_if (PW.pt (pw_or (pt_cmpR (op_neDK (K := K) hr.units) (pe_callB (cr_sortDK (K := K) hr.units) (by rfl) T.b_sorted (by decide +kernel) (pa_cons (pe_slice sl_list (pv 3) (po_some (pv 7)) (po_some (pv 8))) pa_nil)) (C8.pe_c c_places hr (by decide) (by rfl) (pa_cons (pv 2) (pa_cons (pv 6) pa_nil))) (nomark _)) (pw_or1 (pt_cmpR op_ne (C8.pe_c c_count hr (by decide) (by rfl) (pa_cons (pv 2) (pa_cons (pv 6) pa_nil))) (pe_op op_sub (pv 8) (pv 7)) (nomark _)))))
            (pss_one (ps_ret pe_bl))
            pss_nil)
          (pss_cons (ps_for PassesOwn.never rfl (pi_range2 rfl T.b_range (pa_cons (pe_op op_add (pv 7) pe_int) (pa_cons (pv 8) pa_nil))) (pg_name (i := 9) nd rfl (.inl rfl))
            (pss_one (ps_if (pt_cmpR op_lt (pe_ix (ixl (K := K)) (pv 4) (pv 9) (fun _ _ => rfl)) (pe_callB call_len_str (by rfl) T.b_len PySem.boot_len (pa_cons (pv 6) pa_nil)) (nomark _))
                (pss_one (ps_ret pe_bl))
                pss_nil)))
          (pss_one (ps_if (PW.pt (pw_and (pt_cmpR op_ne (pv 6) pe_str (nomark _)) (pw_and1 (pt_cmpR op_lt (pv 7) (pv 8) (nomark _)))))
            (pss_one (ps_if (PW.pt (pw_or (pt_cmpR op_ge (pe_ix (ixl (K := K)) (pv 4) (pv 7) (fun _ _ => rfl)) (pe_callB call_len_str (by rfl) T.b_len PySem.boot_len (pa_cons (pv 6) pa_nil)) (nomark _)) (pw_or1 (PW.pt (pw_and (pt_cmpR op_lt (pv 8) (pe_callB call_len_seq (by rfl) T.b_len PySem.boot_len (pa_cons (pv 3) pa_nil)) (nomark _)) (pw_and1 (pt_cmpR op_ge (pe_ix (ixl (K := K)) (pv 4) (pv 8) (fun _ _ => rfl)) (pe_callB call_len_str (by rfl) T.b_len PySem.boot_len (pa_cons (pv 6) pa_nil)) (nomark _))))))))
                (pss_one (ps_ret pe_bl))
                pss_nil))
            pss_nil)))))))
      (pss_one (ps_ret pe_bl))))))), ?_⟩
    refine ⟨_, rfl, a, ns, rfl, hS, hl, fun dr ds H1 s1 nd1 at1 hD => ?_⟩
    refine ⟨_, rfl, dr, ds, 3, 14, rfl, SqL.of at1, hD, by omega, by omega, by omega, fun hp L H2 s2 nh at2 hpr hlen hh => ?_⟩
    have lets : LetAll (L.map (·.2)) := hh.letAll
    have tx : ∀ q ∈ L, q.2.2.length ≤ 14 := fun q hq => (hh.txt q.2 (List.mem_map_of_mem hq)).2
    have tx100 : ∀ q ∈ L, q.2.2.length ≤ 100 := fun q hq => Nat.le_trans (tx q hq) (by decide)
    have tx1000 : ∀ q ∈ L, q.2.2.length ≤ 1000 := fun q hq => Nat.le_trans (tx q hq) (by decide)
    have txl : ∀ q ∈ L, IsLet q.2.2 ∧ q.2.2.length ≤ 100 := fun q hq => ⟨(hh.txt q.2 (List.mem_map_of_mem hq)).1, tx100 q hq⟩
    have hA2 : HsAt K H2 hp L := ⟨SqL.of at2, hpr⟩
    refine ⟨_, rfl, hp, L, rfl, hA2, by omega, tx100, fun lo R H3 s3 nlo at3 q3 r3 => ?_⟩
    have rlen : R.length = (ordE (L.map (·.2))).length := by
      have e := congrArg List.length r3
      rwa [List.length_map, List.length_map] at e
    have rl : R.length ≤ 50500 := by
      rw [rlen]
      refine Nat.le_trans (ordE_len (m := 100) fun q hq => ?_) (by rw [List.length_map]; omega)
      obtain ⟨z, hz2, rfl⟩ := List.mem_map.mp hq
      exact tx100 z hz2
    have pw := ordE_pw (L.map (·.2))
    have oin : ∀ e ∈ ordE (L.map (·.2)), e ∈ ends3 (L.map (·.2)) := fun e he => mem_ordE.mp he
    have perm : (ordE (L.map (·.2))).Perm (ends3 (L.map (·.2))) := List.mergeSort_perm _ _
    refine ⟨_, rfl, _, rfl, hp, lo, L, R, ordE (L.map (·.2)), rfl, hA2.same s3, hh.asc, tx1000, SqL.of at3, q3, r3, oin, by omega, fun lc H4 s4 nlc at4 => ?_⟩
    have hA4 := (hA2.same s3).same s4
    have lo4 := s4 _ _ at3
    have q4 := q3.same s4
    have dr4 : SqL K H4 dr (ds.map V.int) := ((s2.trans s3).trans s4).seq (SqL.of at1)
    have elen : (ordE (L.map (·.2))).length ≤ 50500 := by omega
    generalize ordE (L.map (·.2)) = E at *
    refine ⟨8, rfl, by decide, by decide, ?_⟩
    refine for_range (lo := 0) (n := 8) (fun i σ H' => Same H4 H' ∧ ∃ y5 y6 y7 y8 y9 : Option V, σ = [some (.ref a), some (.ref dr), some (.ref hp), some (.ref lo), some (.ref lc), y5, y6, y7, y8, y9])
      ⟨Same.refl _, none, none, none, none, none, rfl⟩ (fun i σ H' hi hW => ?_) (fun σ H' hW => q _)
    obtain ⟨sm, y5, y6, y7, y8, y9, rfl⟩ := hW
    repeat (first | refine ⟨_, rfl, ?_⟩ | refine ⟨rfl, ?_⟩ | refine ⟨_, _, rfl, rfl, ?_⟩ | refine ⟨_, _, _, rfl, rfl, ?_⟩)
    refine ⟨.inl (by decide), ?_⟩
    repeat (first | refine ⟨_, rfl, ?_⟩ | refine ⟨rfl, ?_⟩ | refine ⟨_, _, rfl, rfl, ?_⟩ | refine ⟨_, _, _, rfl, rfl, ?_⟩)
    refine ⟨dr, hp, ds, _, L, rfl, sm.seq dr4, hD, by omega, by omega, hA4.same sm, by omega, txl, fun wd H5 s5 wl wn => ?_⟩
    have sm5 := sm.trans s5
    refine ⟨_, rfl, _, rfl, _, rfl, hp, lo, L, R, E, wd, rfl, hA4.same sm5, hh.asc, tx1000, SqL.of (sm5 _ _ lo4), q4.same sm5, r3, oin, pw, by omega, fun t H6 s6 at6 => ?_⟩
    have sm6 := sm5.trans s6
    obtain ⟨c1, c2, c3⟩ := rng_cut pw wd
    have lenm : (E.filter (begP wd)).length = rMany wd E := rfl
    have fl : rFirst wd E + rMany wd E ≤ E.length := by
      have := congrArg List.length c1
      rw [List.length_take, List.length_drop, lenm] at this
      have ff : rFirst wd E ≤ E.length := List.length_filter_le _ _
      omega
    have ci := cm_in pw wd
    have ce := cm_edge pw wd
    have plcl : (plc (L.map (·.2)) wd).length = rMany wd E := by
      rw [← plc_ends, List.length_map, ← lenm]
      exact ((perm.filter _).length_eq).symm
    rw [Int.natCast_add] at at6
    refine ⟨_, _, rfl, .inl (.inl at6), rfl, _, _, rfl, _, _, rfl, rfl, ?_⟩
    -- sorted(order[first:stop]) is what the scan finds
    refine ⟨_, rfl, _, rfl, _, rfl, _, rfl, _, rfl, lo, _, rfl, SqL.of (sm6 _ _ lo4), fun p np => ?_⟩
    rw [cut_both _ _ _ (by rw [qrefs_len, rlen]; exact fl)]
    have s7 := same_new (o := .lst (((qrefs R).drop (rFirst wd E)).take (rMany wd E))) np
    have at7 : (upd H6 p (.lst (((qrefs R).drop (rFirst wd E)).take (rMany wd E)))) p = some (.lst (((qrefs R).drop (rFirst wd E)).take (rMany wd E))) := upd_same
    have smP := sm6.trans s7
    generalize upd H6 p (.lst (((qrefs R).drop (rFirst wd E)).take (rMany wd E))) = H7 at s7 at7 smP ⊢
    have hq : ((qrefs R).drop (rFirst wd E)).take (rMany wd E) = qrefs ((R.drop (rFirst wd E)).take (rMany wd E)) := by
      unfold qrefs
      rw [List.map_take, List.map_drop]
    rw [hq] at at7
    have qS : QAt K H7 ((R.drop (rFirst wd E)).take (rMany wd E)) := fun y hy => (q4.same smP) y (List.mem_of_mem_drop (List.mem_of_mem_take hy))
    have rS : ((R.drop (rFirst wd E)).take (rMany wd E)).map (·.2) = (E.filter (begP wd)).map (·.2) := by
      rw [List.map_take, List.map_drop, r3, ← List.map_drop, ← List.map_take, c1]
    generalize (R.drop (rFirst wd E)).take (rMany wd E) = S at at7 qS rS
    refine ⟨Int × Int, dP2, p, S.map fun z => (V.ref z.1, z.2), rfl, ?_, ?_, ?_, ?_, fun z _ => p2_deep z.2, fun p2 np2 => ?_⟩
    · rw [List.map_map]
      exact SqL.of at7
    · intro z hz2
      obtain ⟨y, hy, rfl⟩ := List.mem_map.mp hz2
      exact .tup (qS y hy) (.cons (.int _) (.cons (.int _) .nil))
    · rw [List.map_map]
      exact p2_alike (fun z : Addr × Int × Int => z.2) S
    · rw [List.map_map]
      exact p2_able (fun z : Addr × Int × Int => z.2) S
    rw [sort_q]
    have s8 := same_new (o := .lst (qrefs (S.mergeSort fun p q => le3 (e2 p.2) (e2 q.2)))) np2
    have at8 : (upd H7 p2 (.lst (qrefs (S.mergeSort fun p q => le3 (e2 p.2) (e2 q.2))))) p2 = some (.lst (qrefs (S.mergeSort fun p q => le3 (e2 p.2) (e2 q.2)))) := upd_same
    have sIs : (S.mergeSort fun p q => le3 (e2 p.2) (e2 q.2)).map (·.2) = plc (L.map (·.2)) wd := by
      refine sort_q_is ?_ (plc_asc wd hh.asc)
      rw [rS, ← plc_ends]
      exact (perm.filter _).map _
    have qS2 : QAt K H7 (S.mergeSort fun p q => le3 (e2 p.2) (e2 q.2)) := fun y hy => qS y (List.mem_mergeSort.mp hy)
    generalize (S.mergeSort fun p q => le3 (e2 p.2) (e2 q.2)) = S2 at s8 at8 sIs qS2 ⊢
    generalize upd H7 p2 (.lst (qrefs S2)) = H8 at s8 at8 ⊢
    have sm8 := smP.trans s8
    refine ⟨_, rfl, _, rfl, hp, L, wd, rfl, hA4.same sm8, by omega, tx100, by omega, fun lp R2 H9 s9 nlp at9 q9 r9 => ?_⟩
    have okq := okd_sh (okd_Q (plc (L.map (·.2)) wd))
    refine ⟨_, _, (by rw [← sIs]; exact dp_q (SqL.of (s9 _ _ at8)) ((qS2.same s8).same s9) : Dp K H9 (.ref p2) (dQ (plc (L.map (·.2)) wd))), by rw [← r9]; exact dp_q (SqL.of at9) q9, okq.1, okq.1, ?_⟩
    rw [okq.2]
    refine ⟨_, rfl, iteF ?_⟩
    have sm9 := sm8.trans s9
    refine ⟨_, rfl, _, rfl, hp, L, wd, rfl, hA4.same sm9, by omega, tx100, by omega, fun H10 s10 => ?_⟩
    have sm10 := sm9.trans s10
    rw [plcl]
    refine ⟨_, rfl, _, rfl, _, _, rfl, rfl, rfl, _, rfl, ?_⟩
    rw [decide_eq_true (by congr 1; omega : V.int (rMany wd E : Nat) = V.int ((rFirst wd E : Nat) + (rMany wd E : Nat) - (rFirst wd E : Nat)))]
    refine iteF ?_
    -- the commons within
    have lc10 : SqL K H10 lc ((cmsE E).map V.int) := SqL.of (sm10 _ _ at4)
    refine ⟨_, rfl, _, _, rfl, rfl, _, rfl, _, _, rfl, ⟨by omega, by omega, by omega, by omega⟩, ?_⟩
    refine for_range (lo := ((rFirst wd E : Nat) : Int) + 1) (n := (((rFirst wd E : Nat) : Int) + ((rMany wd E : Nat) : Int) - (((rFirst wd E : Nat) : Int) + 1)).toNat) (fun j σ H' => H' = H10 ∧ ∃ y9 : Option V, σ = [some (.ref a), some (.ref dr), some (.ref hp), some (.ref lo), some (.ref lc), some (.int (0 + (i : Int))), some (.str wd), some (.int (rFirst wd E : Nat)), some (.int ((rFirst wd E : Nat) + (rMany wd E : Nat))), y9])
      ⟨rfl, _, rfl⟩ (fun j σ H' hj hW => ?_) (fun σ H' hW => ?_)
    · obtain ⟨rfl, y9, rfl⟩ := hW
      have ek : ((rFirst wd E : Nat) : Int) + 1 + (j : Int) = ((rFirst wd E + 1 + j : Nat) : Int) := by omega
      rw [ek]
      have := ci (rFirst wd E + 1 + j) (by omega) (by omega)
      refine ⟨_, rfl, _, rfl, lc, _, _, _, rfl, rfl, lc10, cms_at (by omega), _, rfl, wd, rfl, Nat.le_trans wn (by decide), _, _, rfl, rfl, _, rfl, ?_⟩
      rw [if_neg (by omega), decide_eq_false (by omega)]
      exact iteF ⟨rfl, _, rfl⟩
    · obtain ⟨rfl, y9, rfl⟩ := hW
      have fin : Same H4 H' ∧ ∃ y5 y6 y7 y8 y9' : Option V, [some (V.ref a), some (.ref dr), some (.ref hp), some (.ref lo), some (.ref lc), some (.int (0 + (i : Int))), some (.str wd), some (.int (rFirst wd E : Nat)), some (.int ((rFirst wd E : Nat) + (rMany wd E : Nat))), y9] = [some (.ref a), some (.ref dr), some (.ref hp), some (.ref lo), some (.ref lc), y5, y6, y7, y8, y9'] := ⟨sm10, _, _, _, _, _, rfl⟩
      -- .. and at the edges
      refine ⟨_, rfl, rfl, _, rfl, ite2 (fun e => ?_) (fun e => iteF fin)⟩
      have w0 : 0 < wd.length := by
        rcases Nat.eq_zero_or_pos wd.length with z | z
        · exfalso
          have : wd = ("" : Str) := str_ext (List.eq_nil_of_length_eq_zero z)
          subst this
          exact absurd e (by decide)
        · exact z
      refine ⟨_, rfl, _, rfl, _, _, rfl, rfl, _, rfl, ite2 (fun e2 => ?_) (fun e2 => fin)⟩
      have m0 : 0 < rMany wd E := by have := of_decide_eq_true e2; omega
      refine ⟨_, rfl, _, rfl, lc, _, _, _, rfl, rfl, lc10, cms_at (by omega), _, rfl, wd, rfl, Nat.le_trans wn (by decide), _, _, rfl, rfl, _, rfl, ?_⟩
      have c0 : (if rFirst wd E = 0 then (0 : Int) else cmAt E (rFirst wd E - 1)) < (wd.length : Int) := by
        split
        · omega
        · exact ce (rFirst wd E) (by omega) (by omega) (.inl ⟨rfl, m0⟩)
      rw [decide_eq_false (by omega)]
      refine iteF ?_
      refine ⟨_, rfl, _, rfl, lo, _, rfl, .inl (SqL.of (sm10 _ _ lo4)), _, _, rfl, rfl, _, rfl, ?_⟩
      rw [qrefs_len, rlen]
      refine ite2 (fun e3 => ?_) (fun e3 => iteF fin)
      have l3 := of_decide_eq_true e3
      have es : ((rFirst wd E : Nat) : Int) + ((rMany wd E : Nat) : Int) = ((rFirst wd E + rMany wd E : Nat) : Int) := by omega
      refine ⟨_, rfl, _, rfl, lc, _, _, _, rfl, rfl, lc10, by rw [es]; exact cms_at (by omega), _, rfl, wd, rfl, Nat.le_trans wn (by decide), _, _, rfl, rfl, _, rfl, ?_⟩
      have := ce (rFirst wd E + rMany wd E) (by omega) (by omega) (.inr ⟨rfl, m0⟩)
      rw [if_neg (by omega), decide_eq_false (by omega)]
      exact iteF fin
end

end SH
set_option Elab.async false
set_option linter.all false
set_option maxRecDepth 100000
set_option maxHeartbeats 4000000
namespace SH
open PySem PySem.Spec PyProof.Rows L2
theorem law_all {P : Program} {w : World} {K : PySem.W.Frag} {mg : Str → Option Value} {base : Heap} {ea : Ea} {f : Addr} {fd : FuncData} (T : Txt K mg ea) (F : Fun K "law" "law" s_law f fd) : FnOk P w K mg base CX0 8 f fd ["script"] (spLaw K) :=
  have mix := ok__law_mix (P := P) (w := w) (base := base) T
  have pl := ok_places (P := P) (w := w) (base := base) T
  ok_law T F (ok__law_draws T) (ok__law_house T mix (ok__law_text T mix)) (ok_order_of T) (ok_commons_of T (ok__common_size T)) (ok__law_word T mix) (ok_range_of T (ok__count_before T)) pl (ok_count T pl)
theorem all_mk {P : Program} {w : World} {K : PySem.W.Frag} {h : Heap} {mg : Str → Option Value} {fa : Addr} (X : K.In h) (G : h.Ns mainGlobals mg) (hfa : mg "law" = some (.ref fa))
    {f_range_of f__count_before f_order_of f_commons_of f__common_size f_places f_count f__law_draws f__law_at f__law_mix f__law_text f__law_house f__law_word f_law : Addr}
    {od_range_of an_range_of od__count_before an__count_before od_order_of an_order_of od_commons_of an_commons_of od__common_size an__common_size od_places an_places od_count an_count od__law_draws an__law_draws od__law_at an__law_at od__law_mix an__law_mix od__law_text an__law_text od__law_house an__law_house od__law_word an__law_word od_law an_law : Option Addr}
    {sl_range_of sl__count_before sl_order_of sl_commons_of sl__common_size sl_places sl_count sl__law_draws sl__law_at sl__law_mix sl__law_text sl__law_house sl__law_word sl_law : Array (Option Value)}
    {oc_range_of kV_range_of dc_range_of pm_range_of cd_range_of ct_range_of oc__count_before kV__count_before dc__count_before pm__count_before cd__count_before ct__count_before oc_order_of kV_order_of dc_order_of pm_order_of cd_order_of ct_order_of oc_commons_of kV_commons_of dc_commons_of pm_commons_of cd_commons_of ct_commons_of oc__common_size kV__common_size dc__common_size pm__common_size cd__common_size ct__common_size oc_places kV_places dc_places pm_places cd_places ct_places oc_count kV_count dc_count pm_count cd_count ct_count oc__law_draws kV__law_draws dc__law_draws pm__law_draws cd__law_draws ct__law_draws oc__law_at kV__law_at dc__law_at pm__law_at cd__law_at ct__law_at oc__law_mix kV__law_mix dc__law_mix pm__law_mix cd__law_mix ct__law_mix oc__law_text kV__law_text dc__law_text pm__law_text cd__law_text ct__law_text oc__law_house kV__law_house dc__law_house pm__law_house cd__law_house ct__law_house oc__law_word kV__law_word dc__law_word pm__law_word cd__law_word ct__law_word oc_law kV_law dc_law pm_law cd_law ct_law : Value}
    (z_abs : PySem.W.nsIn K mainGlobals "abs" = some none)
    (z_bool : PySem.W.nsIn K mainGlobals "bool" = some none)
    (z_dict : PySem.W.nsIn K mainGlobals "dict" = some none)
    (z_int : PySem.W.nsIn K mainGlobals "int" = some none)
    (z_isinstance : PySem.W.nsIn K mainGlobals "isinstance" = some none)
    (z_len : PySem.W.nsIn K mainGlobals "len" = some none)
    (z_list : PySem.W.nsIn K mainGlobals "list" = some none)
    (z_min : PySem.W.nsIn K mainGlobals "min" = some none)
    (z_range : PySem.W.nsIn K mainGlobals "range" = some none)
    (z_sorted : PySem.W.nsIn K mainGlobals "sorted" = some none)
    (z_zip : PySem.W.nsIn K mainGlobals "zip" = some none)
    (a_range_of : PySem.W.nsIn K mainGlobals "range_of" = some (some (.ref f_range_of)))
    (l_range_of : K.lookup f_range_of = some ⟨oc_range_of, od_range_of, .func (PySem.W.fnOf "range_of" "range_of" (defArgs s_range_of) (defBody s_range_of) (defScope s_range_of) .none kV_range_of dc_range_of pm_range_of an_range_of cd_range_of ct_range_of), sl_range_of⟩)
    (c_range_of : PySem.W.codeIn K cd_range_of "range_of" = true)
    (k_range_of : PySem.W.keepIn K (.ref f_range_of) = true)
    (a__count_before : PySem.W.nsIn K mainGlobals "_count_before" = some (some (.ref f__count_before)))
    (l__count_before : K.lookup f__count_before = some ⟨oc__count_before, od__count_before, .func (PySem.W.fnOf "_count_before" "_count_before" (defArgs s__count_before) (defBody s__count_before) (defScope s__count_before) .none kV__count_before dc__count_before pm__count_before an__count_before cd__count_before ct__count_before), sl__count_before⟩)
    (c__count_before : PySem.W.codeIn K cd__count_before "_count_before" = true)
    (k__count_before : PySem.W.keepIn K (.ref f__count_before) = true)
    (a_order_of : PySem.W.nsIn K mainGlobals "order_of" = some (some (.ref f_order_of)))
    (l_order_of : K.lookup f_order_of = some ⟨oc_order_of, od_order_of, .func (PySem.W.fnOf "order_of" "order_of" (defArgs s_order_of) (defBody s_order_of) (defScope s_order_of) .none kV_order_of dc_order_of pm_order_of an_order_of cd_order_of ct_order_of), sl_order_of⟩)
    (c_order_of : PySem.W.codeIn K cd_order_of "order_of" = true)
    (k_order_of : PySem.W.keepIn K (.ref f_order_of) = true)
    (a_commons_of : PySem.W.nsIn K mainGlobals "commons_of" = some (some (.ref f_commons_of)))
    (l_commons_of : K.lookup f_commons_of = some ⟨oc_commons_of, od_commons_of, .func (PySem.W.fnOf "commons_of" "commons_of" (defArgs s_commons_of) (defBody s_commons_of) (defScope s_commons_of) .none kV_commons_of dc_commons_of pm_commons_of an_commons_of cd_commons_of ct_commons_of), sl_commons_of⟩)
    (c_commons_of : PySem.W.codeIn K cd_commons_of "commons_of" = true)
    (k_commons_of : PySem.W.keepIn K (.ref f_commons_of) = true)
    (a__common_size : PySem.W.nsIn K mainGlobals "_common_size" = some (some (.ref f__common_size)))
    (l__common_size : K.lookup f__common_size = some ⟨oc__common_size, od__common_size, .func (PySem.W.fnOf "_common_size" "_common_size" (defArgs s__common_size) (defBody s__common_size) (defScope s__common_size) .none kV__common_size dc__common_size pm__common_size an__common_size cd__common_size ct__common_size), sl__common_size⟩)
    (c__common_size : PySem.W.codeIn K cd__common_size "_common_size" = true)
    (k__common_size : PySem.W.keepIn K (.ref f__common_size) = true)
    (a_places : PySem.W.nsIn K mainGlobals "places" = some (some (.ref f_places)))
    (l_places : K.lookup f_places = some ⟨oc_places, od_places, .func (PySem.W.fnOf "places" "places" (defArgs s_places) (defBody s_places) (defScope s_places) .none kV_places dc_places pm_places an_places cd_places ct_places), sl_places⟩)
    (c_places : PySem.W.codeIn K cd_places "places" = true)
    (k_places : PySem.W.keepIn K (.ref f_places) = true)
    (a_count : PySem.W.nsIn K mainGlobals "count" = some (some (.ref f_count)))
    (l_count : K.lookup f_count = some ⟨oc_count, od_count, .func (PySem.W.fnOf "count" "count" (defArgs s_count) (defBody s_count) (defScope s_count) .none kV_count dc_count pm_count an_count cd_count ct_count), sl_count⟩)
    (c_count : PySem.W.codeIn K cd_count "count" = true)
    (k_count : PySem.W.keepIn K (.ref f_count) = true)
    (a__law_draws : PySem.W.nsIn K mainGlobals "_law_draws" = some (some (.ref f__law_draws)))
    (l__law_draws : K.lookup f__law_draws = some ⟨oc__law_draws, od__law_draws, .func (PySem.W.fnOf "_law_draws" "_law_draws" (defArgs s__law_draws) (defBody s__law_draws) (defScope s__law_draws) .none kV__law_draws dc__law_draws pm__law_draws an__law_draws cd__law_draws ct__law_draws), sl__law_draws⟩)
    (c__law_draws : PySem.W.codeIn K cd__law_draws "_law_draws" = true)
    (k__law_draws : PySem.W.keepIn K (.ref f__law_draws) = true)
    (a__law_at : PySem.W.nsIn K mainGlobals "_law_at" = some (some (.ref f__law_at)))
    (l__law_at : K.lookup f__law_at = some ⟨oc__law_at, od__law_at, .func (PySem.W.fnOf "_law_at" "_law_at" (defArgs s__law_at) (defBody s__law_at) (defScope s__law_at) .none kV__law_at dc__law_at pm__law_at an__law_at cd__law_at ct__law_at), sl__law_at⟩)
    (c__law_at : PySem.W.codeIn K cd__law_at "_law_at" = true)
    (k__law_at : PySem.W.keepIn K (.ref f__law_at) = true)
    (a__law_mix : PySem.W.nsIn K mainGlobals "_law_mix" = some (some (.ref f__law_mix)))
    (l__law_mix : K.lookup f__law_mix = some ⟨oc__law_mix, od__law_mix, .func (PySem.W.fnOf "_law_mix" "_law_mix" (defArgs s__law_mix) (defBody s__law_mix) (defScope s__law_mix) .none kV__law_mix dc__law_mix pm__law_mix an__law_mix cd__law_mix ct__law_mix), sl__law_mix⟩)
    (c__law_mix : PySem.W.codeIn K cd__law_mix "_law_mix" = true)
    (k__law_mix : PySem.W.keepIn K (.ref f__law_mix) = true)
    (a__law_text : PySem.W.nsIn K mainGlobals "_law_text" = some (some (.ref f__law_text)))
    (l__law_text : K.lookup f__law_text = some ⟨oc__law_text, od__law_text, .func (PySem.W.fnOf "_law_text" "_law_text" (defArgs s__law_text) (defBody s__law_text) (defScope s__law_text) .none kV__law_text dc__law_text pm__law_text an__law_text cd__law_text ct__law_text), sl__law_text⟩)
    (c__law_text : PySem.W.codeIn K cd__law_text "_law_text" = true)
    (k__law_text : PySem.W.keepIn K (.ref f__law_text) = true)
    (a__law_house : PySem.W.nsIn K mainGlobals "_law_house" = some (some (.ref f__law_house)))
    (l__law_house : K.lookup f__law_house = some ⟨oc__law_house, od__law_house, .func (PySem.W.fnOf "_law_house" "_law_house" (defArgs s__law_house) (defBody s__law_house) (defScope s__law_house) .none kV__law_house dc__law_house pm__law_house an__law_house cd__law_house ct__law_house), sl__law_house⟩)
    (c__law_house : PySem.W.codeIn K cd__law_house "_law_house" = true)
    (k__law_house : PySem.W.keepIn K (.ref f__law_house) = true)
    (a__law_word : PySem.W.nsIn K mainGlobals "_law_word" = some (some (.ref f__law_word)))
    (l__law_word : K.lookup f__law_word = some ⟨oc__law_word, od__law_word, .func (PySem.W.fnOf "_law_word" "_law_word" (defArgs s__law_word) (defBody s__law_word) (defScope s__law_word) .none kV__law_word dc__law_word pm__law_word an__law_word cd__law_word ct__law_word), sl__law_word⟩)
    (c__law_word : PySem.W.codeIn K cd__law_word "_law_word" = true)
    (k__law_word : PySem.W.keepIn K (.ref f__law_word) = true)
    (a_law : PySem.W.nsIn K mainGlobals "law" = some (some (.ref f_law)))
    (l_law : K.lookup f_law = some ⟨oc_law, od_law, .func (PySem.W.fnOf "law" "law" (defArgs s_law) (defBody s_law) (defScope s_law) .none kV_law dc_law pm_law an_law cd_law ct_law), sl_law⟩)
    (c_law : PySem.W.codeIn K cd_law "law" = true)
    (k_law : PySem.W.keepIn K (.ref f_law) = true)
    : ∃ fd : FuncData, (∀ (s : Shared) (v : Value), BindsTo s fd ⟨[v], []⟩ [("script", v)]) ∧ ∀ base : Heap, K.In base → base.Ns mainGlobals mg → FnOk P w K mg base CX0 8 fa fd ["script"] (spLaw K) := by
  have e := hfa.symm.trans (PySem.W.mg_of X G a_law)
  cases e
  have T : Txt K mg ⟨fa⟩ := ⟨PySem.W.mg_none_of X G z_abs, PySem.W.mg_none_of X G z_bool, PySem.W.mg_none_of X G z_dict, PySem.W.mg_none_of X G z_int, PySem.W.mg_none_of X G z_isinstance, PySem.W.mg_none_of X G z_len, PySem.W.mg_none_of X G z_list, PySem.W.mg_none_of X G z_min, PySem.W.mg_none_of X G z_range, PySem.W.mg_none_of X G z_sorted, PySem.W.mg_none_of X G z_zip, ⟨_, _, fun_mk (st := s_range_of) l_range_of c_range_of k_range_of, PySem.W.mg_of X G a_range_of, (fun_mk (st := s_range_of) l_range_of c_range_of k_range_of).binds (ps := ["house", "order", "word"]) fun _ _ _ _ _ _ us hl => match us, hl with | [_, _, _], _ => rfl⟩, ⟨_, _, fun_mk (st := s__count_before) l__count_before c__count_before k__count_before, PySem.W.mg_of X G a__count_before, (fun_mk (st := s__count_before) l__count_before c__count_before k__count_before).binds (ps := ["texts", "order", "word", "with_word"]) fun _ _ _ _ _ _ us hl => match us, hl with | [_, _, _, _], _ => rfl⟩, ⟨_, _, fun_mk (st := s_order_of) l_order_of c_order_of k_order_of, PySem.W.mg_of X G a_order_of, (fun_mk (st := s_order_of) l_order_of c_order_of k_order_of).binds (ps := ["house"]) fun _ _ _ _ _ _ us hl => match us, hl with | [_], _ => rfl⟩, ⟨_, _, fun_mk (st := s_commons_of) l_commons_of c_commons_of k_commons_of, PySem.W.mg_of X G a_commons_of, (fun_mk (st := s_commons_of) l_commons_of c_commons_of k_commons_of).binds (ps := ["house", "order"]) fun _ _ _ _ _ _ us hl => match us, hl with | [_, _], _ => rfl⟩, ⟨_, _, fun_mk (st := s__common_size) l__common_size c__common_size k__common_size, PySem.W.mg_of X G a__common_size, (fun_mk (st := s__common_size) l__common_size c__common_size k__common_size).binds (ps := ["texts", "one", "two"]) fun _ _ _ _ _ _ us hl => match us, hl with | [_, _, _], _ => rfl⟩, ⟨_, _, fun_mk (st := s_places) l_places c_places k_places, PySem.W.mg_of X G a_places, (fun_mk (st := s_places) l_places c_places k_places).binds (ps := ["house", "word"]) fun _ _ _ _ _ _ us hl => match us, hl with | [_, _], _ => rfl⟩, ⟨_, _, fun_mk (st := s_count) l_count c_count k_count, PySem.W.mg_of X G a_count, (fun_mk (st := s_count) l_count c_count k_count).binds (ps := ["house", "word"]) fun _ _ _ _ _ _ us hl => match us, hl with | [_, _], _ => rfl⟩, ⟨_, _, fun_mk (st := s__law_draws) l__law_draws c__law_draws k__law_draws, PySem.W.mg_of X G a__law_draws, (fun_mk (st := s__law_draws) l__law_draws c__law_draws k__law_draws).binds (ps := ["script"]) fun _ _ _ _ _ _ us hl => match us, hl with | [_], _ => rfl⟩, ⟨_, _, fun_mk (st := s__law_at) l__law_at c__law_at k__law_at, PySem.W.mg_of X G a__law_at, (fun_mk (st := s__law_at) l__law_at c__law_at k__law_at).binds (ps := ["draws", "k", "many"]) fun _ _ _ _ _ _ us hl => match us, hl with | [_, _, _], _ => rfl⟩, ⟨_, _, fun_mk (st := s__law_mix) l__law_mix c__law_mix k__law_mix, PySem.W.mg_of X G a__law_mix, (fun_mk (st := s__law_mix) l__law_mix c__law_mix k__law_mix).binds (ps := ["draws", "k", "many"]) fun _ _ _ _ _ _ us hl => match us, hl with | [_, _, _], _ => rfl⟩, ⟨_, _, fun_mk (st := s__law_text) l__law_text c__law_text k__law_text, PySem.W.mg_of X G a__law_text, (fun_mk (st := s__law_text) l__law_text c__law_text k__law_text).binds (ps := ["draws", "k", "most"]) fun _ _ _ _ _ _ us hl => match us, hl with | [_, _, _], _ => rfl⟩, ⟨_, _, fun_mk (st := s__law_house) l__law_house c__law_house k__law_house, PySem.W.mg_of X G a__law_house, (fun_mk (st := s__law_house) l__law_house c__law_house k__law_house).binds (ps := ["draws", "k", "most"]) fun _ _ _ _ _ _ us hl => match us, hl with | [_, _, _], _ => rfl⟩, ⟨_, _, fun_mk (st := s__law_word) l__law_word c__law_word k__law_word, PySem.W.mg_of X G a__law_word, (fun_mk (st := s__law_word) l__law_word c__law_word k__law_word).binds (ps := ["draws", "k", "house"]) fun _ _ _ _ _ _ us hl => match us, hl with | [_, _, _], _ => rfl⟩, ⟨_, _, fun_mk (st := s_law) l_law c_law k_law, PySem.W.mg_of X G a_law, (fun_mk (st := s_law) l_law c_law k_law).binds (ps := ["script"]) fun _ _ _ _ _ _ us hl => match us, hl with | [_], _ => rfl⟩⟩
  exact ⟨PySem.W.fnOf "law" "law" (defArgs s_law) (defBody s_law) (defScope s_law) .none kV_law dc_law pm_law an_law cd_law ct_law, fun s v => .of_eq rfl, fun base _ _ => law_all T (fun_mk (st := s_law) l_law c_law k_law)⟩
end SH
open PySem PySem.W PyProof.Rows
set_option maxHeartbeats 0 in
theorem PySem.Challenge.cw_suffixhouse_k18_whole_ranges_are_places_holds : PySem.Challenge.rw_suffixhouse_k18_whole_ranges_are_places.Holds := by
  w_on; o_law; k_head; (case hw => w_witness2)
  k_fill
  refine L2.walk_of (l := PySem.Challenge.rw_suffixhouse_k18_whole_ranges_are_places) (n := 63) (k := 8) (x := "script") (CX := fun _ => L2.CX0) (sp := fun w => SH.spLaw _) rfl (by decide) rfl ⟨rfl, by decide, by decide⟩ (fun w h Y => PySem.W.kIn_of Y) ?F (fun _ _ a ns hl _ hS => ⟨a, ns, rfl, hS, hl, fun _ => rfl⟩) (fun _ _ _ _ _ h => h)
  case F =>
    intro w mg fa h KX G hmg
    refine' SH.all_mk KX G hmg ?z_abs ?z_bool ?z_dict ?z_int ?z_isinstance ?z_len ?z_list ?z_min ?z_range ?z_sorted ?z_zip ?a_range_of ?l_range_of ?c_range_of ?k_range_of ?a__count_before ?l__count_before ?c__count_before ?k__count_before ?a_order_of ?l_order_of ?c_order_of ?k_order_of ?a_commons_of ?l_commons_of ?c_commons_of ?k_commons_of ?a__common_size ?l__common_size ?c__common_size ?k__common_size ?a_places ?l_places ?c_places ?k_places ?a_count ?l_count ?c_count ?k_count ?a__law_draws ?l__law_draws ?c__law_draws ?k__law_draws ?a__law_at ?l__law_at ?c__law_at ?k__law_at ?a__law_mix ?l__law_mix ?c__law_mix ?k__law_mix ?a__law_text ?l__law_text ?c__law_text ?k__law_text ?a__law_house ?l__law_house ?c__law_house ?k__law_house ?a__law_word ?l__law_word ?c__law_word ?k__law_word ?a_law ?l_law ?c_law ?k_law
    (case z_abs => first | k_is | rfl)
    (case z_bool => first | k_is | rfl)
    (case z_dict => first | k_is | rfl)
    (case z_int => first | k_is | rfl)
    (case z_isinstance => first | k_is | rfl)
    (case z_len => first | k_is | rfl)
    (case z_list => first | k_is | rfl)
    (case z_min => first | k_is | rfl)
    (case z_range => first | k_is | rfl)
    (case z_sorted => first | k_is | rfl)
    (case z_zip => first | k_is | rfl)
    (case a_range_of => first | k_is | rfl)
    (case l_range_of => first | k_is | rfl)
    (case c_range_of => first | k_is | rfl)
    (case k_range_of => first | k_is | rfl)
    (case a__count_before => first | k_is | rfl)
    (case l__count_before => first | k_is | rfl)
    (case c__count_before => first | k_is | rfl)
    (case k__count_before => first | k_is | rfl)
    (case a_order_of => first | k_is | rfl)
    (case l_order_of => first | k_is | rfl)
    (case c_order_of => first | k_is | rfl)
    (case k_order_of => first | k_is | rfl)
    (case a_commons_of => first | k_is | rfl)
    (case l_commons_of => first | k_is | rfl)
    (case c_commons_of => first | k_is | rfl)
    (case k_commons_of => first | k_is | rfl)
    (case a__common_size => first | k_is | rfl)
    (case l__common_size => first | k_is | rfl)
    (case c__common_size => first | k_is | rfl)
    (case k__common_size => first | k_is | rfl)
    (case a_places => first | k_is | rfl)
    (case l_places => first | k_is | rfl)
    (case c_places => first | k_is | rfl)
    (case k_places => first | k_is | rfl)
    (case a_count => first | k_is | rfl)
    (case l_count => first | k_is | rfl)
    (case c_count => first | k_is | rfl)
    (case k_count => first | k_is | rfl)
    (case a__law_draws => first | k_is | rfl)
    (case l__law_draws => first | k_is | rfl)
    (case c__law_draws => first | k_is | rfl)
    (case k__law_draws => first | k_is | rfl)
    (case a__law_at => first | k_is | rfl)
    (case l__law_at => first | k_is | rfl)
    (case c__law_at => first | k_is | rfl)
    (case k__law_at => first | k_is | rfl)
    (case a__law_mix => first | k_is | rfl)
    (case l__law_mix => first | k_is | rfl)
    (case c__law_mix => first | k_is | rfl)
    (case k__law_mix => first | k_is | rfl)
    (case a__law_text => first | k_is | rfl)
    (case l__law_text => first | k_is | rfl)
    (case c__law_text => first | k_is | rfl)
    (case k__law_text => first | k_is | rfl)
    (case a__law_house => first | k_is | rfl)
    (case l__law_house => first | k_is | rfl)
    (case c__law_house => first | k_is | rfl)
    (case k__law_house => first | k_is | rfl)
    (case a__law_word => first | k_is | rfl)
    (case l__law_word => first | k_is | rfl)
    (case c__law_word => first | k_is | rfl)
    (case k__law_word => first | k_is | rfl)
    (case a_law => first | k_is | rfl)
    (case l_law => first | k_is | rfl)
    (case c_law => first | k_is | rfl)
    (case k_law => first | k_is | rfl)
