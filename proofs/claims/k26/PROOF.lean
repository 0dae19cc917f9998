import PyProof.Rows.All
import Wide.All
import OpenK.AllK
import Wide.FinOn
import PyProof.EqAt
import PyProof.EqKinds
import PyProof.TupleCall
import HandS.ForMost
import HandS.Wide
import HandS.Codes
import HandS.TupLe
import HandS.Star
import HandS.StrMore
import HandS.FStr
import HandS.Evl
import HandS.Exc
import HandS.TryMany
import HandS.ExcInit
import HandS.ExcField
import HandS.WideBits
import HandS.WordsExc
import HandS.Walk
import HandS.SortRule
import KE.SortData
import HandS.Set
import HandS.SetBool
import HandS.SetKeys
import HandS.SortKw
import KE.SortKeyHeap
import HandS.Comp
import HandS.Dict
import PyProof.StrWalks
import HandS.Strs
import PyProof.StrLawsIn
import HandS.Style
import HandS.Conv
import HandS.Flt
import HandS.IsInst
import HandS.DictComp
import HandS.More
import PySem.Challenge.RW_suffixhouse_k26_least_absent_words
set_option Elab.async false
set_option linter.all false
set_option maxRecDepth 100000
set_option maxHeartbeats 4000000
namespace SH
open PySem PySem.Spec PyProof.Rows L2
section
variable {P : Program} {w : World} {K : PySem.W.Frag} {mg : Str → Option Value} {base : Heap}
/-- a def of the top as it stands: its text, its name's value, how it binds -/
structure Dd (K : PySem.W.Frag) (mg : Str → Option Value) (x : Str) (st : Stmt) (ps : List Str) : Prop where
  ex : ∃ (f : Addr) (fd : FuncData), Fun K x x st f fd ∧ mg x = some (.ref f) ∧ Binds K fd ps []
/-- a def that lets nothing out, callable by its name -/
abbrev Cl (P : Program) (w : World) (K : PySem.W.Frag) (mg : Str → Option Value) (base : Heap) (k : Nat) (x : Str) (sp : Sp) : Prop := C8.Cal P w K mg base k x sp []
/-- a def that may raise -/
structure ClX (P : Program) (w : World) (K : PySem.W.Frag) (mg : Str → Option Value) (base : Heap) (k : Nat) (x : Str) (sp : Sp) : Prop where
  ex : ∃ (f : Addr) (fd : FuncData) (ps : List Str), FnOk P w K mg base (L2.CX P w) k f fd ps sp ∧ mg x = some (.ref f) ∧ PySem.W.keepIn K (.ref f) = true ∧ Binds K fd ps []
theorem cl_of {x : Str} {st : Stmt} {ps N : List Str} {k : Nat} {sp : Sp} (D : Dd K mg x st ps) (S : FnScope N ps (defScope st)) (len : ∀ vs H Q E, sp vs H Q E → vs.length = ps.length)
    (hbody : ∀ (f : Addr) (cdv : Value) (A : Around) (outer : List Env) (s : Shared) (H : Hp) (vs : List V) (Q : VK) (E : XK), Room k (A.deeper (envOfC x (defScope st) s.heap.objs.size f cdv)) → sp vs H Q E →
      ∃ t, PSs (cxOf CX0 P w K mg base N x (defScope st) f cdv A outer s H E).nox (defBody st) t ∧ t { nx := fun _ H' => Q .non H', rt := Q } (start N vs) H) : Cl P w K mg base (k + 1) x sp := by
  obtain ⟨f, fd, F, hm, b⟩ := D.ex
  exact ⟨f, fd, ps, [], F.ok S len (fun cdv A outer s H vs Q E hr h => hbody f cdv A outer s H vs Q E hr h), hm, F.kp, b, .nil⟩
theorem clx_of {x : Str} {st : Stmt} {ps N : List Str} {k : Nat} {sp : Sp} (D : Dd K mg x st ps) (S : FnScope N ps (defScope st)) (len : ∀ vs H Q E, sp vs H Q E → vs.length = ps.length)
    (hbody : ∀ (f : Addr) (cdv : Value) (A : Around) (outer : List Env) (s : Shared) (H : Hp) (vs : List V) (Q : VK) (E : XK), Room k (A.deeper (envOfC x (defScope st) s.heap.objs.size f cdv)) → sp vs H Q E →
      ∃ t, PSs (cxOf (L2.CX P w) P w K mg base N x (defScope st) f cdv A outer s H E) (defBody st) t ∧ t { nx := fun _ H' => Q .non H', rt := Q } (start N vs) H) : ClX P w K mg base (k + 1) x sp := by
  obtain ⟨f, fd, F, hm, b⟩ := D.ex
  exact ⟨f, fd, ps, F.okX S len (fun cdv A outer s H vs Q E hr h => hbody f cdv A outer s H vs Q E hr h), hm, F.kp, b⟩
end
section
variable {X : Cx} {k j : Nat} {x : Str} {sp : Sp} {p pos : Pos} {e : Expr} {es : List Expr} {t : TA}
/-- f(e, ..) of a def that may raise, in a try's body or where it passes on -/
theorem pe_cx (c : ClX X.prog X.w X.K X.mg X.base k x sp) {E : L2.St → XK} (hr : Room j X.A) (hk : k ≤ j) (hx : ∀ σ, PassesAt (L2.CX X.prog X.w) X σ (E σ)) (hg : Gl X x) (ha : PA X (e :: es) t)
    (hdb : (x == ("__debug__" : Str)) = false := by decide) (he : starEach (e :: es) X.env = (false, eval e X.env) :: starEach es X.env := by rfl) (hpl : (backTo pos (starEach es X.env)).any (·.1) = false := by rfl) :
    PE X (.Call (.Name x p) (e :: es) [] pos) (tCallS sp E t) := by
  obtain ⟨f, fd, ps, F, hm, kp, b⟩ := c.ex
  exact pe_callS F (hr.mono hk) hg hm kp b hx ha hdb he hpl
end
theorem ixt {X : Cx} {K : PySem.W.Frag} (h : X.K = K := by rfl) : IxR X (rIxT K) := h ▸ ix_tup
theorem ixl {X : Cx} {K : PySem.W.Frag} (h : X.K = K := by rfl) : IxR X (rIxL K) := h ▸ ix_list
/-- a module's number -/
theorem pe_k {X : Cx} {x : Str} {pos : Pos} {v : Int} (h : ∃ t, X.mg x = some (.int v t)) (hg : Gl X x := by rfl) (hdb : (x == ("__debug__" : Str)) = false := by decide) : PE X (.Name x pos) (tC (.int v)) := by
  obtain ⟨t, h⟩ := h
  exact pe_glob hg h ⟨t, rfl⟩ hdb
/-! ### numbers drawn: a list of small numbers -/
def Dr (ns : List Int) : Prop := ns.length ≤ 4000 ∧ ∀ n ∈ ns, 0 ≤ n ∧ n < 65536
/-- r(draws, k, many): a number from 0 below many -/
def spDraw (K : PySem.W.Frag) : Sp := fun vs H Q _ => ∃ (a : Addr) (ns : List Int) (k many : Int), vs = [.ref a, .int k, .int many] ∧ SqL K H a (ns.map V.int) ∧ Dr ns ∧ 0 ≤ k ∧ k < 100000 ∧ 0 < many ∧ ∀ r : Int, 0 ≤ r → r < many → Q (.int r) H
theorem at_ints {ns : List Int} {i : Int} (h0 : 0 ≤ i) (h1 : i < ns.length) : ∃ z, atI (ns.map V.int) i = some (.int z) ∧ z ∈ ns := by
  obtain ⟨j, rfl⟩ : ∃ j : Nat, i = j := ⟨i.toNat, by omega⟩
  have hj : j < ns.length := by omega
  refine ⟨ns[j], ?_, List.getElem_mem hj⟩
  refine atI_nat ?_
  rw [List.getElem?_map, List.getElem?_eq_getElem hj]
  rfl
/-! ### heaps -/
theorem same_new {H : Hp} {p : Addr} {o : HO} (h : H p = none) : Same H (upd H p o) := fun b x e => by
  rw [upd_ne (ne_of_none e h)]
  exact e
theorem same_mut {H H' : Hp} {p : Addr} {o : HO} (e : Same H H') (h : H p = none) : Same H (upd H' p o) := fun b x hb => by
  rw [upd_ne (ne_of_none hb h)]
  exact e b x hb
theorem same_tup {K : PySem.W.Frag} {H H' : Hp} {a : Addr} {xs : List V} (e : Same H H') (h : SqT K H a xs) : SqT K H' a xs := by
  rcases h with (h | ⟨o, h⟩) | h
  · exact .inl (.inl (e _ _ h))
  · exact .inl (.inr ⟨o, e _ _ h⟩)
  · exact .inr h
/-! ### texts of letters -/
def okc (c : Nat) : Bool := decide (32 ≤ c) && (decide (c ≤ 126) && decide (c ≠ 37))
def IsLet (z : Str) : Prop := z.cps.toList.all okc = true
instance (z : Str) : Decidable (IsLet z) := inferInstanceAs (Decidable (_ = true))
theorem str_at {z : Str} {i : Int} (h0 : 0 ≤ i) (h1 : i < (z.cps.toList.length : Int)) : ∃ c, atI z.cps.toList i = some c ∧ c ∈ z.cps.toList := by
  obtain ⟨j, rfl⟩ : ∃ j : Nat, i = j := ⟨i.toNat, by omega⟩
  have hj : j < z.cps.toList.length := by omega
  exact ⟨z.cps.toList[j], atI_nat (List.getElem?_eq_getElem hj), List.getElem_mem hj⟩
theorem let_at {z : Str} {c : Nat} (h : IsLet z) (hc : c ∈ z.cps.toList) : IsLet ⟨#[c]⟩ := by
  have := List.all_eq_true.mp h c hc
  show ([c].all okc) = true
  simp [this]
theorem let_app {a b : Str} (ha : IsLet a) (hb : IsLet b) : IsLet (a ++ b) := by
  have e : (a ++ b).cps.toList = a.cps.toList ++ b.cps.toList := TL.tl_append a b
  show (a ++ b).cps.toList.all okc = true
  rw [e, List.all_append, Bool.and_eq_true]
  exact ⟨ha, hb⟩
theorem len_app (a b : Str) : (a ++ b).length = a.length + b.length := by
  have e : (a ++ b).cps.toList = a.cps.toList ++ b.cps.toList := TL.tl_append a b
  have e2 := congrArg List.length e
  rw [List.length_append] at e2
  simpa [Str.length] using e2
theorem at_map {α : Type} (f : α → V) {xs : List α} {i : Int} (h0 : 0 ≤ i) (h1 : i < xs.length) : ∃ x, atI (xs.map f) i = some (f x) ∧ x ∈ xs := by
  obtain ⟨j, rfl⟩ : ∃ j : Nat, i = j := ⟨i.toNat, by omega⟩
  have hj : j < xs.length := by omega
  refine ⟨xs[j], ?_, List.getElem_mem hj⟩
  refine atI_nat ?_
  rw [List.getElem?_map, List.getElem?_eq_getElem hj]
  rfl
theorem ixs_let {z : Str} {j : Int} {H : Hp} {Q : VK} (hz : IsLet z) (hl : z.length ≤ sizeLine) (h0 : 0 ≤ j) (h1 : j < (z.cps.toList.length : Int)) (h : ∀ c, okc c = true → Q (.str ⟨#[c]⟩) H) : rIxS (.str z) (.int j) H Q := by
  obtain ⟨c, hc, hm⟩ := str_at h0 h1
  exact ⟨z, j, c, rfl, rfl, hl, hc, h c (List.all_eq_true.mp hz c hm)⟩
theorem let_one {c : Nat} (h : okc c = true) : IsLet ⟨#[c]⟩ := by
  show ([c].all okc) = true
  simp [h]
/-! ### houses: pairs of a number and a text, each at its address -/
abbrev PL := List (Addr × Int × Str)
def refs (L : PL) : List V := L.map fun q => V.ref q.1
def PairsAt (K : PySem.W.Frag) (H : Hp) (L : PL) : Prop := ∀ q ∈ L, SqT K H q.1 [.int q.2.1, .str q.2.2]
def HsAt (K : PySem.W.Frag) (H : Hp) (a : Addr) (L : PL) : Prop := SqL K H a (refs L) ∧ PairsAt K H L
theorem PairsAt.same {K : PySem.W.Frag} {H H' : Hp} {L : PL} (e : Same H H') (h : PairsAt K H L) : PairsAt K H' L := fun q hq => same_tup e (h q hq)
theorem HsAt.same {K : PySem.W.Frag} {H H' : Hp} {a : Addr} {L : PL} (e : Same H H') (h : HsAt K H a L) : HsAt K H' a L := ⟨e.seq h.1, h.2.same e⟩
/-- numbers ascending from 0 to 99, texts of at most m letters -/
structure IsHs (m : Nat) (h : List (Int × Str)) : Prop where
  asc : (h.map (·.1)).Pairwise (· < ·)
  num : ∀ q ∈ h, 0 ≤ q.1 ∧ q.1 ≤ 99
  txt : ∀ q ∈ h, IsLet q.2 ∧ q.2.length ≤ m
/-- == of data, the frame said -/
theorem op_eqDK {X : Cx} {K : PySem.W.Frag} (hu : X.A.units + 64 < cLine) (h : X.K = K := by rfl) : OpR X (compareOp .Eq) (rEqD K) := h ▸ op_eqD hu
theorem op_neDK {X : Cx} {K : PySem.W.Frag} (hu : X.A.units + 64 < cLine) (h : X.K = K := by rfl) : OpR X (compareOp .NotEq) (rNeD K) := h ▸ op_neD hu
end SH
set_option Elab.async false
set_option linter.all false
set_option maxRecDepth 100000
set_option maxHeartbeats 4000000
/-! except clauses, any number, with and without a name -/
namespace SH
open PySem PySem.Spec PyProof.Rows L2
abbrev Suite := Addr → Value → Option Addr → TS
/-- behind a suite whose name is forgotten -/
def gone (i : Nat) (D : Ends) : Ends :=
  ⟨fun τ G => D.nx (τ.set i none) G, D.rt, fun τ G => D.bk (τ.set i none) G, fun τ G => D.ct (τ.set i none) G⟩
/-- how a suite is entered: with its name in slot i, or without one -/
def enter (o : Option Nat) (ts : Suite) (a : Addr) (c : Value) (d : Option Addr) (D : Ends) (τ : L2.St) (G : Hp) : Prop :=
  match o with
  | none => ts a c d D τ G
  | some i => ts a c d (gone i D) (τ.set i (some (.ref a))) G
/-- the clauses' wishes: the first that matches -/
def wHds (K : PySem.W.Frag) (Wo : WX) (D : Ends) : List (Value × Option Nat × Suite) → WX
  | [] => Wo
  | q :: r => fun c d τ G => ∃ b, PySem.W.exmOne K c q.1 = some b ∧ (b = true → ∀ a, G a = none → enter q.2.1 q.2.2 a c d D τ G) ∧ (b = false → wHds K Wo D r c d τ G)
/-- a suite's text does what ts says -/
def SuiteOk (X : Cx) (sts : List Stmt) (ts : Suite) : Prop :=
  ∀ (a : Addr) (o : Obj) (c : Value) (d : Option Addr) (l : List (Addr × Obj)), Zc c d o → (∃ f, o.data = .fields f) → PSs (X.suite a ((a, o) :: l)) sts (ts a c d)
inductive HdsN (X : Cx) : List ExceptHandler → List (Value × Option Nat × Suite) → Prop
  | nil : HdsN X [] []
  | cons {x : Str} {c : Value} {ts : Suite} {u : Stmt} {us : List Stmt} {p p' : Pos} {hs : List ExceptHandler} {l : List (Value × Option Nat × Suite)} :
      Names X x c → SuiteOk X (u :: us) ts → HdsN X hs l → HdsN X (.ExceptHandler (some (.Name x p)) none (u :: us) p' :: hs) ((c, none, ts) :: l)
  | named {x n : Str} {i : Nat} {c : Value} {ts : Suite} {u : Stmt} {us : List Stmt} {p p' : Pos} {hs : List ExceptHandler} {l : List (Value × Option Nat × Suite)} :
      Names X x c → X.N.Nodup → X.N[i]? = some n → X.env.kindOf n = some .local → SuiteOk X (u :: us) ts → HdsN X hs l → HdsN X (.ExceptHandler (some (.Name x p)) (some n) (u :: us) p' :: hs) ((c, some i, ts) :: l)
/-- an exception that has come down to this frame: at a, of the class c, with its dict d, over the ground B -/
structure Down (X : Cx) (pins : List (Addr × Obj)) (B : Heap) (a : Addr) (c : Value) (d : Option Addr) (τ : L2.St) (G : Hp) (s : Shared) : Prop where
  st : X.stack = X.env :: X.outer
  fr : X.env.frame = some X.env.locals
  fl : HandSPX.FlyingZ B (X.env :: X.outer) a (Zc c d) s.heap
  on : ∀ h, B.StaysIn h → s.heap.UpToSlots h → Inv X pins τ G { s with heap := h }
  ok : Inv X pins τ G s
  no : G a = none
  out : ∀ (h : Heap) (W : WX), HandSPX.HeldZ B (X.env :: X.outer) a (Zc c d) X.env.locals h → s.heap.UpToSlots h → W c d τ G → XE X W (.ref a) { s with heap := h }
section
variable {X : Cx} {pins : List (Addr × Obj)} {B : Heap} {a : Addr} {c : Value} {d : Option Addr} {τ : L2.St} {G : Hp} {s : Shared}
theorem Down.inner (Y : Down X pins B a c d τ G s) : ∃ o, s.heap.get? a = some o ∧ Zc c d o ∧ (∃ f, o.data = .fields f) ∧ Inv (X.suite a ((a, o) :: (X.pn ++ pins))) [] τ G s := by
  obtain ⟨o, f, ga, za, da⟩ := Y.fl.there
  have away : a ∉ frs (X.env :: X.outer) := by
    intro m
    obtain ⟨-, o', g', nf⟩ := Y.fl.2.2.1.mem m
    cases ga.symm.trans g'
    exact nf _ da
  refine ⟨o, ga, za, ⟨f, da⟩, Y.ok.suite ga da Y.no ?_ ?_⟩
  · intro z
    refine away (List.mem_filterMap.mpr ⟨X.env, List.mem_cons_self, ?_⟩)
    rw [Y.fr, z]
  · intro m
    obtain ⟨e, me, q⟩ := List.mem_filterMap.mp m
    exact away (List.mem_filterMap.mpr ⟨e, List.mem_cons_of_mem _ me, q⟩)
/-- the clause's name is asked, and whether the exception is of it -/
theorem Down.asked (Y : Down X pins B a c d τ G s) {x : Str} {p : Pos} {cl : Value} {b : Bool} (nm : Names X x cl) (hb : PySem.W.exmOne X.K c cl = some b) {Q : Bool → Shared → Prop} {E : Value → Shared → Prop} (q : Q b s) :
    wpAny (model X.prog X.w) (X.A.mark (some (.ref a))) (eval (.Name x p) X.env) (fun u s1 => wpAny (model X.prog X.w) (X.A.mark (some (.ref a))) (excMatches (.ref a) u) Q E s1) E s := by
  obtain ⟨o, ga, za, -, S⟩ := Y.inner
  have ty : PySem.W.Looks (model X.prog X.w) s.heap (typeOf (.ref a)) c := fun _ _ _ _ k z => wpAny_typeOf_ref (k _ _ ga) (by rw [za.1]; exact z)
  have mt := (PySem.W.exm_one (M := model X.prog X.w) Y.ok.kIn ty hb).here (A := X.A.mark (some (.ref a))) (Q := Q) (E := E) q
  obtain ⟨g, nd, hm | ⟨hm, hv, nn⟩⟩ := nm
  · exact ld_glob (X := X.suite a ((a, o) :: (X.pn ++ pins))) S g hm mt nd
  · exact ld_blt (X := X.suite a ((a, o) :: (X.pn ++ pins))) S g hm hv mt nn nd
/-- once more at the suite's beginning -/
theorem Down.again (Y : Down X pins B a c d τ G s) {h : Heap} (f : HandSPX.FlyingZ B (X.env :: X.outer) a (Zc c d) h) (u : s.heap.UpToSlots h) : Down X pins B a c d τ G { s with heap := h } :=
  ⟨Y.st, Y.fr, f, fun g k v => Y.on g k (u.trans v), Y.on h f.1 u, Y.no, fun g W k v w => Y.out g W k (u.trans v) w⟩
theorem Down.handle (Y : Down X pins B a c d τ G s) {D : Ends} {Wo : WX} (tk : Takes X Wo) {hs : List ExceptHandler} {l : List (Value × Option Nat × Suite)} (hk : HdsN X hs l) :
    wHds X.K Wo D l c d τ G → wpAny (model X.prog X.w) X.A (handleBy (.ref a) X.env hs) (SP X pins D) X.xe s := by
  induction hk with
  | nil =>
    intro wish
    refine wpAny_handleBy_nil ?_
    obtain ⟨-, -, -, o, f, T, -, -, go, -, dat, f1, -⟩ := id Y.fl
    unfold PySem.passOn
    refine wpAny_bind (wpAny_field go dat f1 ?_)
    rw [if_neg (by simp : ¬ ((Value.ref T == Value.none) = true))]
    have up : wpAny (model X.prog X.w) X.A (setFlight (.ref a) X.env.frame) (fun _ s4 => wpAny (model X.prog X.w) X.A (throw (.ref a) : Sem Flow) (SP X pins D) X.xe s4) X.xe s := by
      rw [Y.fr]
      exact HandSPX.setFlight_upZ Y.fl fun h held u => wpAny_throw (tk _ _ (Y.out h _ held u wish))
    first
      | exact wpAny_bind (wpAny_pure (wpAny_bind up))
      | exact wpAny_bind up
  | @cons x cl ts u us p p' hs l nm so r ih =>
    rintro ⟨b, hb, yes, no⟩
    refine wpAny_handleBy_cons (codeAny_handlers_test (Y.asked nm hb ?_)) (fun z => nomatch z)
    match b, yes, no with
    | false, _, no => exact ih (no rfl)
    | true, yes, _ =>
      refine codeAny_handlers_suite (HandSPX.lands_againZ Y.fl fun h f v => ?_)
      obtain ⟨o, -, zo, fo, S⟩ := (Y.again f v).inner
      refine wpAny_mono ((so a o c d (X.pn ++ pins) zo fo).run [] _ _ G _ S (yes rfl a Y.no)) ?_ (fun _ _ z => z.elim)
      intro g s6 hsp
      match g, hsp with
      | .next, ⟨τ6, G6, S6, z⟩ => exact ⟨τ6, G6, S6.unsuite Y.ok.ok, z⟩
      | .brk, ⟨τ6, G6, S6, z⟩ => exact ⟨τ6, G6, S6.unsuite Y.ok.ok, z⟩
      | .cont, ⟨τ6, G6, S6, z⟩ => exact ⟨τ6, G6, S6.unsuite Y.ok.ok, z⟩
      | .ret u, ⟨v6, τ6, G6, S6, r6, z⟩ => exact ⟨v6, τ6, G6, S6.unsuite Y.ok.ok, r6, z⟩
  | @named x n i cl ts u us p p' hs l nm hN hi ho so r ih =>
    rintro ⟨b, hb, yes, no⟩
    refine wpAny_handleBy_cons (codeAny_handlers_test (Y.asked nm hb ?_)) (fun z => nomatch z)
    match b, yes, no with
    | false, _, no => exact ih (no rfl)
    | true, yes, _ =>
      refine codeAny_handlers_suite_as (HandSPX.lands_againZ Y.fl fun h f v => ?_)
      obtain ⟨o, -, zo, fo, S⟩ := (Y.again f v).inner
      refine store_ok (X := X.suite a ((a, o) :: (X.pn ++ pins))) (v := .ref a) S hN hi (.inl ho) rfl (fun s5 S5 => ?_) (.inr ho)
      refine wpAny_mono ((so a o c d (X.pn ++ pins) zo fo).run [] s5 _ G _ S5 (yes rfl a Y.no)) ?_ (fun _ _ z => z.elim)
      intro g s6 hsp
      match g, hsp with
      | .next, ⟨τ6, G6, S6, z⟩ => exact gone_ok (S6.unsuite Y.ok.ok) hN hi ho fun s7 J => ⟨τ6.set i none, G6, J, z⟩
      | .brk, ⟨τ6, G6, S6, z⟩ => exact gone_ok (S6.unsuite Y.ok.ok) hN hi ho fun s7 J => ⟨τ6.set i none, G6, J, z⟩
      | .cont, ⟨τ6, G6, S6, z⟩ => exact gone_ok (S6.unsuite Y.ok.ok) hN hi ho fun s7 J => ⟨τ6.set i none, G6, J, z⟩
      | .ret u, ⟨v6, τ6, G6, S6, r6, z⟩ => exact gone_ok (S6.unsuite Y.ok.ok) hN hi ho fun s7 J => ⟨v6, τ6.set i none, G6, J, r6, z⟩
end
/-- try: body, any clauses -/
theorem ps_try_hds {X : Cx} {body : List Stmt} {h₀ : ExceptHandler} {hs : List ExceptHandler} {l : List (Value × Option Nat × Suite)} {pos : Pos} {tb : WX → TS} {Wo : WX}
    (st : X.stack = X.env :: X.outer) (fr : X.env.frame = some X.env.locals) (tk : Takes X Wo)
    (bo : ∀ (W : WX) (pn : List (Addr × Obj)) (xe : Value → Shared → Prop), Takes (X.tr pn xe) W → PassesOwn (model X.prog X.w) X.A X.env xe → PSs (X.tr pn xe) body (tb W))
    (hk : HdsN X (h₀ :: hs) l) : PS X (.Try body (h₀ :: hs) [] [] pos) (fun D τ G => tb (wHds X.K Wo D l) D τ G) := by
  constructor
  intro pins s τ G D I q
  have ok := I.ok
  refine wpAny_Try_except (wpAny_mono ((bo (wHds X.K Wo D l) (X.pn ++ pins) _ ?_ PassesOwn.looking).run [] s τ G D (I.toTry _) q) (fun f s1 r => ?_) (fun e s1 r => r))
  · rintro u s2 ⟨a, B, sI, pins', τ2, G2, c, d, rfl, J', nb, up, sky, na, os, ag, wish⟩
    have J := J'.ofTry ok
    have sky2 : Sky B (X.env :: X.outer) a (Zc c d) X.env.locals s2.heap := st ▸ sky
    refine Sky.land Zc.steady (by rw [ok.frames, st]) fr sky2 (fun h f v => ?_)
    refine Down.handle (B := B) (a := a) (c := c) (d := d) (τ := τ2) (G := G2) (s := { s2 with heap := h }) ⟨st, fr, f, fun g k z => J.landed nb k ((up.trans v).trans z) os ag, J.landed nb f.1 (up.trans v) os ag, na, fun g W k z w => ?_⟩ tk hk wish
    exact ⟨a, B, sI, pins, τ2, G2, c, d, rfl, J, nb, (up.trans v).trans z, .inr (.inr (by rw [st]; exact k)), na, os, ag, w⟩
  · match f, r with
    | .next, ⟨τ2, G2, J, z⟩ => exact wpAny_execs_nil ⟨τ2, G2, J.ofTry ok, z⟩
    | .brk, ⟨τ2, G2, J, z⟩ => exact ⟨τ2, G2, J.ofTry ok, z⟩
    | .cont, ⟨τ2, G2, J, z⟩ => exact ⟨τ2, G2, J.ofTry ok, z⟩
    | .ret u, ⟨v, τ2, G2, J, r2, z⟩ => exact ⟨v, τ2, G2, J.ofTry ok, r2, z⟩
end SH
set_option Elab.async false
set_option linter.all false
set_option maxRecDepth 100000
set_option maxHeartbeats 4000000
/-! errors with a number: made by the base's __init__, raised, caught, asked for their number -/
namespace SH
open PySem PySem.Spec PyProof.Rows L2
/-- numbers that an error is made with here -/
def Small (n : Int) : Prop := n.natAbs < 2 ^ 200
theorem small_bits {n : Int} (h : Small n) : decide ((1000 : Int) < ((Builtin.Int.intBits n : Nat) : Int)) = false := by
  have a := PySem.Flt.log2_lt_of (by decide : 0 < 200) h
  have b : Builtin.Int.intBits n ≤ n.natAbs.log2 + 1 := by
    unfold Builtin.Int.intBits
    split <;> omega
  refine decide_eq_false ?_
  omega
theorem small_of {n : Int} (h0 : -1000000 ≤ n) (h1 : n ≤ 1000000) : Small n := Nat.lt_of_le_of_lt (by omega : n.natAbs ≤ 1000000) (by decide)
/-- __init__(self, at) at a new exception: its dict gets the number -/
def spInitAt (K : PySem.W.Frag) : Sp := fun vs H Q _ => ∃ (a C : Addr) (n : Int), vs = [.ref a, .int n] ∧ OexC K C ∧ PySem.W.findIn K (.ref C) "at" = some none ∧ Small n ∧ H a = some (exo a C none) ∧
  ∀ dx : Addr, H dx = none → dx ≠ a → Q .non (upd (upd H dx (exd dx [(("at" : Str), .int n)])) a (exo a C (some dx)))
/-- what the top says of an error's class -/
structure ErrC (K : PySem.W.Frag) (mg : Str → Option Value) (x : Str) (C fI : Addr) : Prop where
  g : mg x = some (.ref C)
  o : OexC K C
  i : PySem.W.findIn K (.ref C) "__init__" = some (some (.ref fI))
  no : PySem.W.findIn K (.ref C) "at" = some none
  f : XfC K C
/-- .. and of the __init__ -/
structure InitOk (P : Program) (w : World) (K : PySem.W.Frag) (mg : Str → Option Value) (base : Heap) (fI : Addr) : Prop where
  ex : ∃ fd : FuncData, FnOk P w K mg base CX0 1 fI fd ["self", "at"] (spInitAt K) ∧ Binds K fd ["self", "at"] [] ∧ PySem.W.typeIn K (.ref fI) = some (.type "function")
/-- .. as it stands in the text -/
structure DdI (K : PySem.W.Frag) (q : Str) (st : Stmt) (fI : Addr) : Prop where
  ex : ∃ fd : FuncData, Fun K "__init__" q st fI fd ∧ Binds K fd ["self", "at"] [] ∧ PySem.W.typeIn K (.ref fI) = some (.type "function")
section
variable {X : Cx} {k : Nat} {x : Str} {C fI : Addr} {e : Expr} {ta : TA} {p pos : Pos}
/-- x(e): a new error of the class at C -/
theorem pmk_at (T : ErrC X.K X.mg x C fI) (I : InitOk X.prog X.w X.K X.mg X.base fI) (hr : Room k X.A) (hk : 2 ≤ k) (hg : Gl X x) (ha : PA X (e :: []) ta)
    (hd : (x == ("__debug__" : Str)) = false := by decide) (he : starEach (e :: []) X.env = (false, eval e X.env) :: starEach [] X.env := by rfl) (hp : (backTo pos (starEach [] X.env)).any (·.1) = false := by rfl) :
    PMk X (.Call (.Name x p) (e :: []) [] pos) (tMkO C (spInitAt X.K) [] ta) := by
  obtain ⟨fd, F, b, t⟩ := I.ex
  exact pmk_oex T.o T.i t F (hr.mono hk) b .nil pass0 hg T.g ha hd he hp
end
/-- the reading of a made error, behind its argument -/
theorem mk_at {K : PySem.W.Frag} {C : Addr} {H1 : Hp} {n : Int} {Q : XK} (To : OexC K C) (Tn : PySem.W.findIn K (.ref C) "at" = some none) (hs : Small n)
    (go : ∀ (d : Addr) (H2 : Hp), Same H1 H2 → H1 d = none → H2 d = some (.xd [(("at" : Str), .int n)]) → Q (.ref C) (some d) H2) :
    [V.int n].length ≤ 1000 ∧ ∀ a, H1 a = none → spInitAt K (.ref a :: ([V.int n] ++ [])) (upd H1 a (exo a C none))
      (fun v H2 => v = .non ∧ ∃ (d : Addr) (fs : List (Str × V)), H2 a = some (exo a C (some d)) ∧ H2 d = some (exd d fs) ∧ H1 d = none ∧ Q (.ref C) (some d) (upd (del H2 a) d (.xd fs))) (fun _ _ _ => False) := by
  refine ⟨(by show 1 ≤ 1000; decide), fun a na => ⟨a, C, n, rfl, To, Tn, hs, upd_same, fun dx ndx ne => ⟨rfl, dx, [(("at" : Str), V.int n)], upd_same, ?_, ?_, ?_⟩⟩⟩
  · rw [upd_ne ne, upd_same]
  · rw [upd_ne ne] at ndx
    exact ndx
  · rw [upd_ne ne] at ndx
    refine go dx _ (fun b o hb => ?_) ndx upd_same
    have b1 : b ≠ dx := ne_of_none hb ndx
    have b2 : b ≠ a := ne_of_none hb na
    rw [upd_ne b1, del_ne b2, upd_ne b2, upd_ne b1, upd_ne b2]
    exact hb
theorem wHds_skip {K : PySem.W.Frag} {Wo : WX} {D : Ends} {q : Value × Option Nat × Suite} {r : List (Value × Option Nat × Suite)} {c : Value} {d : Option Addr} {τ : L2.St} {G : Hp} (h : PySem.W.exmOne K c q.1 = some false)
    (go : wHds K Wo D r c d τ G) : wHds K Wo D (q :: r) c d τ G := ⟨false, h, (fun z => Bool.noConfusion z), fun _ => go⟩
theorem wHds_take {K : PySem.W.Frag} {Wo : WX} {D : Ends} {q : Value × Option Nat × Suite} {r : List (Value × Option Nat × Suite)} {c : Value} {d : Option Addr} {τ : L2.St} {G : Hp} (h : PySem.W.exmOne K c q.1 = some true)
    (go : ∀ a, G a = none → enter q.2.1 q.2.2 a c d D τ G) : wHds K Wo D (q :: r) c d τ G := ⟨true, h, (fun _ => go), (fun z => Bool.noConfusion z)⟩
theorem exm_of {K : PySem.W.Frag} {C D : Addr} {b : Bool} (h1 : PySem.W.subIn K (.ref D) (.type "BaseException") = some true) (h2 : PySem.W.isClsIn K D = true) (h3 : PySem.W.typeIn K (.ref D) = some (.type "type"))
    (h4 : PySem.W.subIn K (.ref C) (.ref D) = some b) : PySem.W.exmOne K (.ref C) (.ref D) = some b := by
  have c1 : (PySem.W.subIn K (.ref D) (.type "BaseException") == some true) = true := by rw [h1]; rfl
  have c2 : ((PySem.W.clsIn K D).isSome && PySem.W.typeIn K (.ref D) == some (.type "type")) = true := by
    have h2' : (PySem.W.clsIn K D).isSome = true := h2
    rw [h3, h2']; rfl
  unfold PySem.W.exmOne
  rw [if_pos c1]
  show (if ((PySem.W.clsIn K D).isSome && PySem.W.typeIn K (.ref D) == some (.type "type")) = true then PySem.W.subIn K (.ref C) (.ref D) else none) = some b
  rw [if_pos c2]
  exact h4
end SH
set_option Elab.async false
set_option linter.all false
set_option maxRecDepth 100000
set_option maxHeartbeats 4000000
namespace SH
open PySem PySem.Spec PyProof.Rows L2
/-! comprehensions whose steps only add to the heap: RL tells what the list made so far is -/
/-- all but what stands at D is as it was -/
def But (D : Addr) (H H' : Hp) : Prop := ∀ b o, b ≠ D → H b = some o → H' b = some o
theorem but_upd {D : Addr} {H : Hp} {o : HO} : But D H (upd H D o) := fun b x n e => by
  rw [upd_ne n]
  exact e
theorem but_tup {K : PySem.W.Frag} {D t : Addr} {H H' : Hp} {l xs : List V} (hD : H D = some (.lst l)) (e : But D H H') (h : SqT K H t xs) : SqT K H' t xs := by
  rcases h with h | h
  · rcases h with h | h
    · refine Or.inl (Or.inl (e _ _ (fun z => ?_) h))
      rw [z, hD] at h
      cases h
    · obtain ⟨o, h⟩ := h
      refine Or.inl (Or.inr ⟨o, e _ _ (fun z => ?_) h⟩)
      rw [z, hD] at h
      cases h
  · exact Or.inr h
theorem but_pairs {K : PySem.W.Frag} {D : Addr} {H H' : Hp} {l : List V} {L : PL} (hD : H D = some (.lst l)) (e : But D H H') (h : PairsAt K H L) : PairsAt K H' L := fun q hq => but_tup hD e (h q hq)
section
variable {J : It} {n : Nat} {G : Hp → Prop} {Y : Nat → Hp → V → Hp → Prop}
theorem lc_w (w : Walk J n G Y) {g : TG} {tt : TT} {te : TE} {vs : List Nat} {τ : L2.St} {H1 : Hp} {D : Addr} {Qd : Hp → Prop} (hD : H1 D = none) (hn : n ≤ 100000) (hG : ∀ H, Same H1 H → G H)
    (RL : Nat → List V → Hp → Prop) (h0 : ∀ H, Same H1 H → RL 0 [] H) (mono : ∀ i acc H H' l, H D = some (.lst l) → But D H H' → RL i acc H → RL i acc H')
    (hY : ∀ i H x H', Y i H x H' → Same H H')
    (hs : ∀ (i : Nat) (x : V) (acc : List V) (H H' : Hp) (Qn : VK) (Qf : Hp → Prop), i < n → Same H1 H' → Y i H x H' → RL i acc H' → H' D = some (.lst acc) → (∀ y H4, Same H' H4 → RL (i + 1) (acc ++ [y]) H4 → Qn y H4) → (∀ H3, Same H' H3 → RL (i + 1) acc H3 → Qf H3) →
      g x (wipe τ vs) H' fun τ2 H2 => wipe τ2 vs = wipe τ vs ∧ tt τ2 H2 fun b H3 => if b = true then te τ2 H3 Qn else Qf H3)
    (hd : ∀ acc H, Same H1 H → H D = some (.lst acc) → acc.length ≤ n → RL n acc H → Qd H) :
    ∃ W : Nat → Nat → Hp → Prop, (∃ m, W 0 m (upd H1 D (.lst []))) ∧ ∀ i m H, W i m H →
      (J.stop i H ∧ Qd H) ∨ (J.go i H ∧ ∃ Nx : Hp → Prop, (∀ H', Nx H' → ∃ m', m' < m ∧ W (i + 1) m' H') ∧ ∀ x H', J.yld i H x H' → g x (wipe τ vs) H' fun τ2 H2 => wipe τ2 vs = wipe τ vs ∧ tt τ2 H2 fun b H3 =>
        if b = true then te τ2 H3 fun y H4 => ∃ acc, H4 D = some (.lst acc) ∧ acc.length < sizeLine ∧ Nx (upd H4 D (.lst (acc ++ [y]))) else Nx H3) := by
  refine lc_it w (fun i H => ∃ acc, Same H1 H ∧ H D = some (.lst acc) ∧ acc.length ≤ i ∧ RL i acc H) ⟨[], same_new hD, upd_same, Nat.le_refl _, h0 _ (same_new hD)⟩ (fun i H _ p => ?_) (fun i x H H' hi p y => ?_) (fun H p => ?_)
  · obtain ⟨acc, e, _⟩ := p
    exact hG H e
  · obtain ⟨acc, e, at_, hl, r⟩ := p
    have e1 := hY i H x H' y
    have at1 := e1 _ _ at_
    refine hs i x acc H H' _ _ hi (e.trans e1) y (mono i acc H H' acc at_ (fun b o _ h => e1 b o h) r) at1 (fun z H4 e2 r2 => ?_) (fun H3 e2 r2 => ?_)
    · have at2 := e2 _ _ at1
      refine ⟨acc, at2, Nat.lt_of_le_of_lt (Nat.le_trans hl (Nat.le_of_lt (Nat.lt_of_lt_of_le hi hn))) (by decide), acc ++ [z], same_mut ((e.trans e1).trans e2) hD, upd_same, by simp; omega, mono _ _ H4 _ acc at2 but_upd r2⟩
    · exact ⟨acc, (e.trans e1).trans e2, e2 _ _ at1, by omega, r2⟩
  · obtain ⟨acc, e, at_, hl, r⟩ := p
    exact hd acc H e at_ hl r
end
/-! ### numbers and texts -/
theorem lt1 (c d : Nat) : decide (([c] : List Nat) < [d]) = decide (c < d) := by
  by_cases h : c < d
  · rw [decide_eq_true h]
    exact decide_eq_true (List.Lex.rel h)
  · rw [decide_eq_false h]
    refine decide_eq_false fun z => ?_
    cases z with
    | rel q => exact h q
    | cons q => cases q
/-- a text of the document: not too long, of letters -/
def isTxt (z : Str) : Bool := decide (z.length ≤ 40) && z.cps.toList.all okc
/-- a house of the document, behind a number -/
def chk (before : Int) : List (Int × Str) → Bool
  | [] => true
  | q :: r => decide (before < q.1) && decide (q.1 ≤ 99) && isTxt q.2 && chk q.1 r
def isH (h : List (Int × Str)) : Bool := decide (h.length ≤ 8) && chk (-1) h
theorem chk_of {m : Nat} (hm : m ≤ 40) : ∀ (h : List (Int × Str)) (b : Int), (∀ q ∈ h, b < q.1) → IsHs m h → chk b h = true
  | [], _, _, _ => rfl
  | q :: r, b, hb, a => by
    have t := a.txt q (List.mem_cons_self ..)
    have n := a.num q (List.mem_cons_self ..)
    have asc := a.asc
    rw [List.map_cons, List.pairwise_cons] at asc
    have ih := chk_of hm r q.1 (fun x hx => asc.1 x.1 (List.mem_map_of_mem hx)) ⟨asc.2, fun x hx => a.num x (List.mem_cons_of_mem _ hx), fun x hx => a.txt x (List.mem_cons_of_mem _ hx)⟩
    show (decide (b < q.1) && decide (q.1 ≤ 99) && isTxt q.2 && chk q.1 r) = true
    have e1 := hb q (List.mem_cons_self ..)
    have e2 : isTxt q.2 = true := by
      unfold isTxt
      rw [decide_eq_true (Nat.le_trans t.2 hm)]
      exact t.1
    rw [ih, e2, decide_eq_true e1, decide_eq_true n.2]
    rfl
end SH
set_option Elab.async false
set_option linter.all false
set_option maxRecDepth 100000
set_option maxHeartbeats 4000000
/-! sorted(xs), xs a list of pairs of a number and a text; pairs with one number have one text -/
namespace SH
open PySem PySem.Spec PyProof.Rows L2
def NT (h : Heap) (v : Value) (p : Int × Str) : Prop := ∃ (a : Addr) (o : Obj) (t u : Tok) (c : Nat), v = .ref a ∧ h.get? a = some o ∧ o.cls = .type "tuple" ∧ o.data = .seq #[.int p.1 t, .str p.2 u] c
theorem NT.on {h h' : Heap} {v : Value} {p : Int × Str} (x : NT h v p) (k : ∀ b o, h.get? b = some o → o.cls = .type "tuple" → h'.get? b = some o) : NT h' v p := by
  obtain ⟨a, o, t, u, c, rfl, g, q, r⟩ := x
  exact ⟨a, o, t, u, c, rfl, k a o g q, q, r⟩
theorem nt_firsts {h : Heap} {k : Value → Int × Str} : ∀ (vs : List Value), (∀ v ∈ vs, NT h v (k v)) → ∃ fs, PySem.W.KatTups h vs fs ∧ fs.length = vs.length ∧ ∀ f ∈ fs, ∃ n t, f = Value.int n t
  | [], _ => ⟨[], PySem.W.KatTups.nil, rfl, fun _ m => nomatch m⟩
  | v :: r, x => by
    obtain ⟨fs, k1, k2, k3⟩ := nt_firsts r (fun u m => x u (List.mem_cons_of_mem _ m))
    obtain ⟨a, o, t, u, c, rfl, g, q, d⟩ := x v (List.mem_cons_self ..)
    refine ⟨_, PySem.W.KatTups.cons g q d rfl k1, by simp [k2], fun f m => ?_⟩
    rcases List.mem_cons.mp m with e | m
    · exact ⟨_, _, e⟩
    · exact k3 f m
def ltN (k : Value → Int × Str) (v u : Value) : Bool := decide ((k v).1 < (k u).1)
theorem ltN_swo (k : Value → Int × Str) : SrtO.Swo (ltN k) :=
  ⟨fun x y h => decide_eq_false (by have := of_decide_eq_true h; omega), fun x y z h1 h2 => decide_eq_false (by have a := of_decide_eq_false h1; have b := of_decide_eq_false h2; omega)⟩
section
variable {prog : Program} {w : World} {A : Around} {s : Shared}
theorem nt_cmp {vs : List Value} {k : Value → Int × Str} (hp : ∀ v ∈ vs, NT s.heap v (k v)) (one : ∀ v ∈ vs, ∀ u ∈ vs, (k v).1 = (k u).1 → (k v).2 = (k u).2) :
    SrtO.Cmp prog w A s (tuples' true) (fun p => p.1 ∈ vs) (SrtO.lt2 (ltN k)) := by
  rintro ⟨x, kx⟩ ⟨y, ky⟩ mp mq
  have same := one _ mp _ mq
  show wpAny (model prog w) A (keyLt' (tuples' true) x y) (fun r s' => s' = s ∧ r = decide ((k x).1 < (k y).1)) (fun _ _ => False) s
  obtain ⟨a, o, t, u, c, e, g, cl, d⟩ := hp _ mp
  obtain ⟨a', o', t', u', c', e', g', cl', d'⟩ := hp _ mq
  have ex : x = .ref a := e
  have ey : y = .ref a' := e'
  subst ex ey
  refine PySem.W.kat_lt g d g' d' (PySem.W.kat_cons (SeqAt.EqAt.int_int _ t _ t' prog w _ _ (PySem.W.kat_go (fun e1 => ?_) (fun e1 => ?_))))
  · have en : (k (.ref a)).1 = (k (.ref a')).1 := by simpa using e1
    have ez := same en
    refine PySem.W.kat_yes (PySem.W.kat_cons (SeqAt.EqAt.str_str _ u _ u' prog w _ _ (PySem.W.kat_go (fun _ => ?_) (fun e2 => ?_))))
    · refine PySem.W.kat_yes (PySem.W.kat_nil ⟨rfl, ?_⟩)
      rw [en]
      simp
    · rw [ez] at e2
      simp at e2
  · exact PySem.W.kat_no (oneLt_int ⟨rfl, rfl⟩)
theorem nt_sortable {a : Addr} {vs : List Value} {k : Value → Int × Str} (h0 : 0 < vs.length) (hp : ∀ v ∈ vs, NT s.heap v (k v)) (one : ∀ v ∈ vs, ∀ u ∈ vs, (k v).1 = (k u).1 → (k v).2 = (k u).2)
    (ha : ∀ o, s.heap.get? a = some o → o.cls ≠ .type "tuple") : SrtO.SortableO prog w A s a vs (ltN k) := by
  intro h' keep
  have hp' : ∀ v ∈ vs, NT h' v (k v) := fun v m => (hp v m).on fun b o g c => keep b o (fun z => ha o (z ▸ g) c) g
  obtain ⟨fs, f1, f2, f3⟩ := nt_firsts vs hp'
  refine ⟨tuples' true, fun Q E q => PySem.W.kat_kind (T := .type "int") f1 (by omega) (fun f m => ?_) (by rfl) ?_, nt_cmp hp' one⟩
  · obtain ⟨n, t, rfl⟩ := f3 f m
    exact PySem.W.Looks.now
  · have e : (Value.type "int" != Value.type "tuple") = true := by first | decide +kernel | rfl
    rw [e]
    exact q
end
/-- sorted(xs): a new list of the same pairs, by their numbers -/
def rSortNT (K : PySem.W.Frag) : List V → Hp → VK → Prop := fun vs H Q => ∃ (a : Addr) (L : PL), vs = [.ref a] ∧ HsAt K H a L ∧ (∀ q ∈ L, ∀ r ∈ L, q.2.1 = r.2.1 → q.2.2 = r.2.2) ∧
  ∀ (L' : PL) (p : Addr), L'.Perm L → L'.Pairwise (fun q r => q.2.1 ≤ r.2.1) → H p = none → Q (.ref p) (upd H p (.lst (refs L')))
/-- what stands at the address in a list of pairs -/
def atAddr (L : PL) (v : Value) : Int × Str := match v with
  | .ref a => match L.find? (fun q => q.1 == a) with
    | some q => q.2
    | none => (0, "")
  | _ => (0, "")
def addrOf : Value → Addr
  | .ref a => a
  | _ => 0
theorem atAddr_of {L : PL} (un : ∀ q ∈ L, ∀ r ∈ L, q.1 = r.1 → q.2 = r.2) {q : Addr × Int × Str} (hq : q ∈ L) : atAddr L (.ref q.1) = q.2 := by
  show (match L.find? (fun r => r.1 == q.1) with | some r => r.2 | none => (0, "")) = q.2
  cases e : L.find? (fun r => r.1 == q.1) with
  | some r =>
    have h1 := List.mem_of_find?_eq_some e
    have h2 := List.find?_some e
    exact un r h1 q hq (by simpa using h2)
  | none =>
    have := List.find?_eq_none.mp e q hq
    simp at this
section
variable {X : Cx}
theorem cr_sortNT : CallR X (.builtin "sorted") (rSortNT X.K) := by
  intro pins s τ H vs us Q I r h
  obtain ⟨a, L, rfl, hA, one, q⟩ := h
  obtain ⟨its, rv, hl, hz⟩ := I.list hA.1
  obtain ⟨u, rfl, ru⟩ := vals1 r
  obtain rfl : u = Value.ref a := ru
  obtain ⟨e1, e2⟩ := refs_back rv (fun x m => by
    obtain ⟨q, _, e⟩ := List.mem_map.mp m
    exact ⟨q.1, e.symm⟩)
  -- one address, one pair
  have un : ∀ q ∈ L, ∀ r ∈ L, q.1 = r.1 → q.2 = r.2 := fun q hq r hr e => by
    have z := I.tuple_inj (hA.2 q hq) (by rw [e]; exact hA.2 r hr)
    obtain ⟨x, n, t⟩ := q
    obtain ⟨y, m, t'⟩ := r
    simp at z
    show (n, t) = (m, t')
    rw [z.1, z.2]
  have mem : ∀ v ∈ its, ∃ q ∈ L, v = Value.ref q.1 := fun v hv => by
    obtain ⟨t, rfl⟩ := e2 v hv
    have m : V.ref t ∈ refs L := by
      rw [e1]
      exact List.mem_map.mpr ⟨_, hv, rfl⟩
    obtain ⟨q, hq, e⟩ := List.mem_map.mp m
    cases e
    exact ⟨q, hq, rfl⟩
  have nt : ∀ v ∈ its, NT s.heap v (atAddr L v) := fun v hv => by
    obtain ⟨q, hq, rfl⟩ := mem v hv
    rw [atAddr_of un hq]
    obtain ⟨i2, r2, ⟨o, g, c, n, d⟩, _⟩ := I.tuple (hA.2 q hq)
    obtain ⟨u1, u2, rfl, ⟨t1, rfl⟩, ⟨t2, rfl⟩⟩ := vals2 r2
    exact ⟨q.1, o, t1, t2, n, rfl, g, c, d⟩
  have one' : ∀ v ∈ its, ∀ u ∈ its, (atAddr L v).1 = (atAddr L u).1 → (atAddr L v).2 = (atAddr L u).2 := fun v hv u hu => by
    obtain ⟨q, hq, rfl⟩ := mem v hv
    obtain ⟨r, hr, rfl⟩ := mem u hu
    rw [atAddr_of un hq, atAddr_of un hr]
    exact one q hq r hr
  refine SrtO.sorted_ord (ltN_swo (atAddr L)) hl.isList (by rw [← rv.length]; exact hz) (fun h2 h₁ b hb kk => ?_) (fun out hs hb => ?_)
  · refine nt_sortable (s := { s with heap := h₁ }) (by omega) (fun v m => (nt v m).on fun c o g _ => (kk c o g).2) one' (fun o g c => ?_)
    have g' : some o = some (seqObj "list" its.toArray 0) := g.symm.trans hb
    cases g'
    exact absurd (Value.type.inj c) (by decide)
  · have mo : ∀ v ∈ out, ∃ q ∈ L, v = Value.ref q.1 := fun v hv => mem v (hb.perm.mem_iff.mp hv)
    -- the pairs in their new order
    let f : Value → Addr × Int × Str := fun v => (addrOf v, atAddr L v)
    have fq : ∀ q ∈ L, f (.ref q.1) = q := fun q hq => by
      show (q.1, atAddr L (.ref q.1)) = q
      rw [atAddr_of un hq]
    have hL : its.map f = L := by
      have z : (refs L).map (fun v => match v with | .ref t => f (.ref t) | _ => (0, 0, "")) = L := by
        unfold refs
        rw [List.map_map]
        calc L.map _ = L.map id := List.map_congr_left fun q hq => fq q hq
          _ = L := List.map_id L
      rw [e1, List.map_map] at z
      refine Eq.trans (List.map_congr_left fun v hv => ?_) z
      obtain ⟨q, _, rfl⟩ := mem v hv
      rfl
    have hp : (out.map f).Perm L := by
      rw [← hL]
      exact hb.perm.map f
    have hr : refs (out.map f) = out.map backV := by
      unfold refs
      rw [List.map_map]
      refine List.map_congr_left fun v hv => ?_
      obtain ⟨q, _, rfl⟩ := mo v hv
      rfl
    have hsrt : (out.map f).Pairwise (fun q r => q.2.1 ≤ r.2.1) := by
      rw [List.pairwise_map]
      refine List.Pairwise.imp (fun {x y} h => ?_) hs
      have := of_decide_eq_false h
      show (atAddr L x).1 ≤ (atAddr L y).1
      omega
    obtain ⟨n, hn⟩ := sortedAll_at s.heap its out.toArray
    have hd : s.heap.objs.size ≤ s.heap.objs.size + 1 := Nat.le_succ _
    refine ⟨.ref (s.heap.objs.size + 1), upd H (s.heap.objs.size + 1) (.lst (refs (out.map f))), I.laid (t' := s.toks) (fun b o g => sortedAll_old g) hd ⟨?_, out, n, ?_, hn⟩, rfl, q _ _ hp hsrt (I.hok.fresh hd)⟩
    · have e3 : (refs (out.map f)).length = (refs L).length := by
        unfold refs
        rw [List.length_map, List.length_map (as := L), hp.length_eq]
      rw [e3]
      exact hz
    · rw [hr]
      exact vals_back fun v hv => by
        obtain ⟨q, _, rfl⟩ := mo v hv
        exact ⟨q.1, rfl⟩
end
end SH
set_option Elab.async false
set_option linter.all false
set_option maxRecDepth 100000
set_option maxHeartbeats 4000000
/-! houses as data, compared -/
namespace SH
open PySem PySem.Spec PyProof.Rows L2
def dPair (q : Int × Str) : PyData := .tuple [.int q.1, .str q.2]
def dH (h : List (Int × Str)) : PyData := .list (h.map dPair)
theorem dp_refs {K : PySem.W.Frag} {H : Hp} : ∀ (L : PL), PairsAt K H L → DpAll K H (refs L) (L.map fun q => dPair q.2)
  | [], _ => .nil
  | q :: r, h => .cons (.tup (h q (List.mem_cons_self ..)) (.cons (.int _) (.cons (.str _) .nil))) (dp_refs r fun x m => h x (List.mem_cons_of_mem _ m))
theorem dp_house {K : PySem.W.Frag} {H : Hp} {a : Addr} {L : PL} (h : HsAt K H a L) : Dp K H (.ref a) (dH (L.map (·.2))) := by
  refine .lst h.1 ?_
  rw [List.map_map]
  exact dp_refs L h.2
theorem okc_lt {c : Nat} (h : okc c = true) : c < 127 := by
  unfold okc at h
  simp at h
  omega
theorem let_ok {z : Str} (h : IsLet z) : PyData.strOk z = true := by
  unfold PyData.strOk
  rw [← Array.all_toList]
  refine List.all_eq_true.mpr fun c hc => ?_
  have := okc_lt (List.all_eq_true.mp h c hc)
  exact decide_eq_true (by omega)
def LetAll (h : List (Int × Str)) : Prop := ∀ q ∈ h, IsLet q.2
theorem dH_lay : ∀ {h : List (Int × Str)}, LetAll h → PyData.canLayAll0 (h.map dPair) = true
  | [], _ => rfl
  | q :: r, a => by
    rw [List.map_cons, PyData.canLayAll0, dH_lay fun x m => a x (List.mem_cons_of_mem _ m)]
    simp [dPair, PyData.canLay0, PyData.canLayAll0, let_ok (a q (List.mem_cons_self ..))]
theorem dH_deep : ∀ (h : List (Int × Str)), PyData.depthAll (h.map dPair) ≤ 1
  | [] => Nat.zero_le _
  | q :: r => by
    rw [List.map_cons, PyData.depthAll]
    have := dH_deep r
    have e : PyData.depth (dPair q) = 1 := rfl
    rw [e]
    omega
theorem dH_shaped {h : List (Int × Str)} (a : LetAll h) : SeqAt.shaped (dH h) = true := by
  unfold SeqAt.shaped
  have e1 : (dH h).canLay0 = true := dH_lay a
  have e2 : (dH h).depth ≤ 64 := by
    show PyData.depthAll (h.map dPair) + 1 ≤ 64
    have := dH_deep h
    omega
  rw [e1, decide_eq_true e2]
  rfl
theorem dH_refl {h : List (Int × Str)} (a : LetAll h) : PyData.eqv (dH h) (dH h) = true := SeqAt.eqv_refl _ (show (dH h).canLay0 = true from dH_lay a)
/-- what is told or due: a tag and a thing -/
def dT (p : Str × PyData) : PyData := .tuple [.str p.1, p.2]
theorem dT_shaped {p : Str × PyData} (h1 : PyData.strOk p.1 = true) (h2 : p.2.canLay0 = true) (h3 : p.2.depth ≤ 60) : SeqAt.shaped (dT p) = true ∧ PyData.eqv (dT p) (dT p) = true := by
  have e1 : (dT p).canLay0 = true := by
    show (PyData.strOk p.1 && (p.2.canLay0 && true)) = true
    rw [h1, h2]
    rfl
  have e2 : (dT p).depth ≤ 64 := by
    show max 0 (max p.2.depth 0) + 1 ≤ 64
    omega
  refine ⟨?_, SeqAt.eqv_refl _ e1⟩
  unfold SeqAt.shaped
  rw [e1, decide_eq_true e2]
  rfl
theorem dH_depth (h : List (Int × Str)) : (dH h).depth ≤ 60 := by
  show PyData.depthAll (h.map dPair) + 1 ≤ 60
  have := dH_deep h
  omega
theorem isTxt_let {z : Str} (h : isTxt z = true) : IsLet z := by
  unfold isTxt at h
  exact (Bool.and_eq_true_iff.mp h).2
theorem IsHs.letAll {m : Nat} {h : List (Int × Str)} (a : IsHs m h) : LetAll h := fun q hq => (a.txt q hq).1
theorem LetAll.filter {h : List (Int × Str)} (a : LetAll h) (p : Int × Str → Bool) : LetAll (h.filter p) := fun q hq => a q (List.mem_filter.mp hq).1
theorem LetAll.app {h k : List (Int × Str)} (a : LetAll h) (b : LetAll k) : LetAll (h ++ k) := fun q hq => (List.mem_append.mp hq).elim (a q) (b q)
theorem letAll_ins {n : Int} {z : Str} {h : List (Int × Str)} (a : LetAll h) (b : IsLet z) : LetAll (h.filter (fun q => decide (q.1 < n)) ++ [(n, z)] ++ h.filter (fun q => decide (n < q.1))) :=
  ((a.filter _).app fun q hq => by rw [List.mem_singleton.mp hq]; exact b).app (a.filter _)
/-! a house that is none -/
theorem chk_true : ∀ {h : List (Int × Str)} {b : Int}, chk b h = true → (h.map (·.1)).Pairwise (· < ·) ∧ (∀ q ∈ h, b < q.1 ∧ q.1 ≤ 99 ∧ isTxt q.2 = true)
  | [], _, _ => ⟨List.Pairwise.nil, fun q hq => nomatch hq⟩
  | q :: r, b, h => by
    have h' : (decide (b < q.1) && decide (q.1 ≤ 99) && isTxt q.2 && chk q.1 r) = true := h
    simp only [Bool.and_eq_true, decide_eq_true_eq] at h'
    obtain ⟨⟨⟨h1, h2⟩, h3⟩, h4⟩ := h'
    obtain ⟨i1, i2⟩ := chk_true h4
    refine ⟨?_, fun x hx => ?_⟩
    · rw [List.map_cons, List.pairwise_cons]
      refine ⟨fun y hy => ?_, i1⟩
      obtain ⟨z, hz, rfl⟩ := List.mem_map.mp hy
      exact (i2 z hz).1
    · rcases List.mem_cons.mp hx with e | m
      · rw [e]; exact ⟨h1, h2, h3⟩
      · have := i2 x m
        exact ⟨by omega, this.2⟩
theorem isH_false {h : List (Int × Str)} (no : ¬ (h.length ≤ 8 ∧ (h.map (·.1)).Pairwise (· < ·) ∧ ∀ q ∈ h, -1 < q.1 ∧ q.1 ≤ 99 ∧ isTxt q.2 = true)) : isH h = false := by
  cases e : isH h with
  | false => rfl
  | true =>
    unfold isH at e
    obtain ⟨e1, e2⟩ := Bool.and_eq_true_iff.mp e
    exact absurd ⟨of_decide_eq_true e1, chk_true e2⟩ no
/-! ### a house filtered, pair by pair -/
theorem refs_get {L : PL} {i : Nat} {x : V} (h : (refs L)[i]? = some x) : ∃ t, L[i]? = some t ∧ t ∈ L ∧ x = .ref t.1 := by
  unfold refs at h
  rw [List.getElem?_map] at h
  cases e : L[i]? with
  | none => rw [e] at h; cases h
  | some t =>
    rw [e] at h
    cases h
    exact ⟨t, rfl, List.mem_of_getElem? e, rfl⟩
theorem lc_filter {K : PySem.W.Frag} {a : Addr} {L : PL} {g : TG} {tt : TT} {te : TE} {vs : List Nat} {τ : L2.St} {H1 : Hp} {D : Addr} {Qd : Hp → Prop} (hD : H1 D = none) (hA : HsAt K H1 a L) (hl : L.length ≤ 1000) (p : Addr × Int × Str → Bool)
    (hs : ∀ (q : Addr × Int × Str) (H' : Hp) (Qn : VK) (Qf : Hp → Prop), q ∈ L → Same H1 H' → (p q = true → Qn (.ref q.1) H') → (p q = false → Qf H') →
      g (.ref q.1) (wipe τ vs) H' fun τ2 H2 => wipe τ2 vs = wipe τ vs ∧ tt τ2 H2 fun b H3 => if b = true then te τ2 H3 Qn else Qf H3)
    (hd : ∀ H, Same H1 H → H D = some (.lst (refs (L.filter p))) → Qd H) :
    ∃ W : Nat → Nat → Hp → Prop, (∃ m, W 0 m (upd H1 D (.lst []))) ∧ ∀ i m H, W i m H →
      ((Itl K a).stop i H ∧ Qd H) ∨ ((Itl K a).go i H ∧ ∃ Nx : Hp → Prop, (∀ H', Nx H' → ∃ m', m' < m ∧ W (i + 1) m' H') ∧ ∀ x H', (Itl K a).yld i H x H' → g x (wipe τ vs) H' fun τ2 H2 => wipe τ2 vs = wipe τ vs ∧ tt τ2 H2 fun b H3 =>
        if b = true then te τ2 H3 fun y H4 => ∃ acc, H4 D = some (.lst acc) ∧ acc.length < sizeLine ∧ Nx (upd H4 D (.lst (acc ++ [y]))) else Nx H3) := by
  have rl : (refs L).length = L.length := List.length_map ..
  refine lc_w (walk_list (xs := refs L)) hD (by omega) (fun H' e => e.seq hA.1) (fun i acc _ => acc = refs ((L.take i).filter p)) (fun _ _ => rfl) (fun _ _ _ _ _ _ _ r => r) (fun i H x H' y => by rw [y.1]; exact Same.refl _)
    (fun i x acc H2 H3 Qn Qf hi sm y r at_ kn kf => ?_) (fun acc H2 sm at_ _ r => ?_)
  · obtain ⟨rfl, hx⟩ := y
    obtain ⟨t, ht, tm, rfl⟩ := refs_get hx
    refine hs t _ Qn Qf tm sm (fun e => kn _ _ (Same.refl _) ?_) (fun e => kf _ (Same.refl _) ?_)
    · rw [r, List.take_add_one, ht, List.filter_append]
      show _ = refs (_ ++ [t].filter p)
      rw [List.filter_cons_of_pos e]
      unfold refs
      rw [List.map_append]
      rfl
    · rw [r, List.take_add_one, ht, List.filter_append]
      show _ = refs (_ ++ [t].filter p)
      rw [List.filter_cons_of_neg (by rw [e]; decide), List.filter_nil, List.append_nil]
  · refine hd H2 sm ?_
    rw [at_, r, List.take_of_length_le (by omega)]
theorem HsAt.filter {K : PySem.W.Frag} {H : Hp} {L : PL} (h : PairsAt K H L) (p : Addr × Int × Str → Bool) : PairsAt K H (L.filter p) := fun q hq => h q (List.mem_filter.mp hq).1
theorem map_filter (L : PL) (p : Int × Str → Bool) : (L.filter fun q => p q.2).map (·.2) = (L.map (·.2)).filter p := by
  rw [List.filter_map]
  rfl
mutual
theorem dp_same {K : PySem.W.Frag} {H H' : Hp} (e : Same H H') : ∀ {d : PyData} {v : V}, Dp K H v d → Dp K H' v d
  | .none, _, h => by cases h; exact .non
  | .bool _, _, h => by cases h; exact .bl _
  | .int _, _, h => by cases h; exact .int _
  | .str _, _, h => by cases h; exact .str _
  | .list ds, _, h => by
    cases h with
    | lst s a => exact .lst (e.seq s) (dp_all_same e a)
  | .tuple ds, _, h => by
    cases h with
    | tup s a => exact .tup (same_tup e s) (dp_all_same e a)
  | .dict _, _, h => by cases h
theorem dp_all_same {K : PySem.W.Frag} {H H' : Hp} (e : Same H H') : ∀ {ds : List PyData} {vs : List V}, DpAll K H vs ds → DpAll K H' vs ds
  | [], _, h => by cases h; exact .nil
  | d :: ds, _, h => by
    cases h with
    | cons a b => exact .cons (dp_same e a) (dp_all_same e b)
end
/-! ### slices, texts of one letter joined -/
theorem cut_to (xs : List V) (k : Nat) : cutV xs none (some (k : Int)) = xs.take k := by
  unfold cutV
  rw [HT.sIx_none, HT.sIx_nat, List.drop_zero, Nat.sub_zero]
  rcases Nat.le_total k xs.length with h | h
  · rw [Nat.min_eq_left h]
  · rw [Nat.min_eq_right h, List.take_length, List.take_of_length_le h]
theorem joinL_len : ∀ (n c : Nat), (TL.joinL [] (List.replicate n [c])).length = n
  | 0, _ => rfl
  | 1, _ => rfl
  | n + 2, c => by
    show ([c] ++ ([] ++ TL.joinL [] (List.replicate (n + 1) [c]))).length = n + 2
    rw [List.nil_append, List.length_append, joinL_len (n + 1) c]
    show 1 + (n + 1) = n + 2
    omega
theorem join_len {n c : Nat} : (Txt.join "" (List.replicate n (⟨#[c]⟩ : Str))).length = n := by
  have e : (Txt.join "" (List.replicate n (⟨#[c]⟩ : Str))).cps.toList = TL.joinL [] (List.replicate n [c]) := by
    rw [TL.join_eq]
    refine (TL.tl_join "" _).trans ?_
    rw [List.map_replicate]
    rfl
  have e2 := congrArg List.length e
  rw [joinL_len] at e2
  exact e2
theorem joinL_mem {x : Nat} : ∀ (n c : Nat), x ∈ TL.joinL [] (List.replicate n [c]) → x = c
  | 0, _, h => by cases h
  | 1, _, h => by simpa [TL.joinL] using h
  | n + 2, c, h => by
    have h' : x ∈ [c] ++ ([] ++ TL.joinL [] (List.replicate (n + 1) [c])) := h
    rw [List.nil_append] at h'
    rcases List.mem_append.mp h' with m | m
    · exact List.mem_singleton.mp m
    · exact joinL_mem (n + 1) c m
theorem join_mem {n c x : Nat} (h : x ∈ (Txt.join "" (List.replicate n (⟨#[c]⟩ : Str))).cps.toList) : x = c := by
  have e : (Txt.join "" (List.replicate n (⟨#[c]⟩ : Str))).cps.toList = TL.joinL [] (List.replicate n [c]) := by
    rw [TL.join_eq]
    refine (TL.tl_join "" _).trans ?_
    rw [List.map_replicate]
    rfl
  rw [e] at h
  exact joinL_mem n c h
theorem isTxt_long {z : Str} (h : 40 < z.length) : isTxt z = false := by
  unfold isTxt
  rw [decide_eq_false (by omega)]
  rfl
theorem isTxt_line {z : Str} (h : 10 ∈ z.cps.toList) : isTxt z = false := by
  unfold isTxt
  have : z.cps.toList.all okc = false := by
    cases e : z.cps.toList.all okc with
    | false => rfl
    | true => exact absurd (List.all_eq_true.mp e 10 h) (by decide)
  rw [this, Bool.and_false]
end SH
set_option Elab.async false
set_option linter.all false
set_option maxRecDepth 100000
set_option maxHeartbeats 4000000
/-! own classes: their methods, a new instance -/
namespace SH
open PySem PySem.Spec PyProof.Rows L2
/-- a method as it stands -/
structure DdM (K : PySem.W.Frag) (C : Addr) (m qual : Str) (st : Stmt) (ps : List Str) : Prop where
  ex : ∃ (f : Addr) (fd : FuncData), Fun K m qual st f fd ∧ Meth K C m f ∧ Binds K fd ps []
structure DdMk (K : PySem.W.Frag) (C : Addr) (m qual : Str) (st : Stmt) (ps : List Str) : Prop where
  ex : ∃ (f : Addr) (fd : FuncData), Fun K m qual st f fd ∧ Mk K C f ∧ Binds K fd ps []
/-- e.f, the frame said -/
theorem pe_fldK {X : Cx} {K : PySem.W.Frag} {e : Expr} {f : Str} {pos : Pos} {ta : TE} (he : PE X e ta) (hb : attributeBase e f X.env (eval e X.env) = eval e X.env) (h : X.K = K := by rfl) : PE X (.Attribute e f pos) (tFld K ta f) := h ▸ pe_fld he hb
theorem cr_sortedPOK {X : Cx} {K : PySem.W.Frag} (h : X.K = K := by rfl) : CallR X (.builtin "sorted") (rSortedPO K) := h ▸ cr_sortedPO
theorem pi_listK {X : Cx} {K : PySem.W.Frag} {tg e : Expr} {te : TE} (he : PE X e te) (h : X.K = K := by rfl) : PI X tg e (iList K te) := h ▸ pi_list he
section
variable {P : Program} {w : World} {K : PySem.W.Frag} {mg : Str → Option Value} {base : Heap}
theorem met_of {C : Addr} {m qual : Str} {st : Stmt} {ps N : List Str} {k : Nat} {sp : Sp} (D : DdM K C m qual st ps) (c : Cls K C) (S : FnScope N ps (defScope st)) (len : ∀ vs H Q E, sp vs H Q E → vs.length = ps.length)
    (hbody : ∀ (f : Addr) (cdv : Value) (A : Around) (outer : List Env) (s : Shared) (H : Hp) (vs : List V) (Q : VK) (E : XK), Room k (A.deeper (envOfC qual (defScope st) s.heap.objs.size f cdv)) → sp vs H Q E →
      ∃ t, PSs (cxOf CX0 P w K mg base N qual (defScope st) f cdv A outer s H E).nox (defBody st) t ∧ t { nx := fun _ H' => Q .non H', rt := Q } (start N vs) H) : C8.Met P w K mg base (k + 1) C m sp [] := by
  obtain ⟨f, fd, F, me, b⟩ := D.ex
  exact ⟨f, fd, ps, [], c, me, F.ok S len (fun cdv A outer s H vs Q E hr h => hbody f cdv A outer s H vs Q E hr h), b, .nil⟩
theorem mak_of {x : Str} {C : Addr} {m qual : Str} {st : Stmt} {ps N : List Str} {k : Nat} {sp : Sp} (D : DdMk K C m qual st ps) (hm : mg x = some (.ref C)) (S : FnScope N ps (defScope st)) (len : ∀ vs H Q E, sp vs H Q E → vs.length = ps.length)
    (hbody : ∀ (f : Addr) (cdv : Value) (A : Around) (outer : List Env) (s : Shared) (H : Hp) (vs : List V) (Q : VK) (E : XK), Room k (A.deeper (envOfC qual (defScope st) s.heap.objs.size f cdv)) → sp vs H Q E →
      ∃ t, PSs (cxOf CX0 P w K mg base N qual (defScope st) f cdv A outer s H E).nox (defBody st) t ∧ t { nx := fun _ H' => Q .non H', rt := Q } (start N vs) H) : C8.Mak P w K mg base (k + 1) x C sp [] := by
  obtain ⟨f, fd, F, me, b⟩ := D.ex
  exact ⟨f, fd, ps, [], me, F.ok S len (fun cdv A outer s H vs Q E hr h => hbody f cdv A outer s H vs Q E hr h), hm, b, .nil⟩
end
end SH
set_option Elab.async false
set_option linter.all false
set_option maxRecDepth 100000
set_option maxHeartbeats 4000000
/-! sorted(xs) of any data; triples of a text, a number and a start -/
namespace SH
open PySem PySem.Spec PyProof.Rows L2
section
variable {α : Type}
theorem each_of_vals : ∀ {Z : List (V × α)} {its : List Value}, Vals (Z.map (·.1)) its → PySem.W.EachIs (fun v z => RelV z.1 v) its Z
  | [], _, .nil => .nil
  | _ :: _, _, .cons r t => .cons r (each_of_vals t)
theorem vals_of_each : ∀ {Z : List (V × α)} {its : List Value}, PySem.W.EachIs (fun v z => RelV z.1 v) its Z → Vals (Z.map (·.1)) its
  | _, _, .nil => .nil
  | _, _, .cons r t => .cons r (vals_of_each t)
end
/-- sorted(xs): a new list of the same things, by what they read as -/
def rSortD (K : PySem.W.Frag) : List V → Hp → VK → Prop := fun vs H Q => ∃ (α : Type) (enc : α → PyData) (a : Addr) (Z : List (V × α)), vs = [.ref a] ∧ SqL K H a (Z.map (·.1)) ∧ (∀ z ∈ Z, Dp K H z.1 (enc z.2)) ∧
  PySem.W.AllAlike (Z.map fun z => enc z.2) ∧ PySem.W.Sortable (Z.map fun z => enc z.2) ∧ (∀ z ∈ Z, (enc z.2).depth ≤ 60) ∧
  ∀ p : Addr, H p = none → Q (.ref p) (upd H p (.lst ((Z.mergeSort (PySem.W.dataLe false fun z => enc z.2)).map (·.1))))
section
variable {X : Cx}
theorem cr_sortD (hu : X.A.units + 64 < cLine) : CallR X (.builtin "sorted") (rSortD X.K) := by
  intro pins s τ H vs us Q I r h
  obtain ⟨α, enc, a, Z, rfl, hA, hd, hal, hk, hdp, q⟩ := h
  obtain ⟨its, rv, hl, hz⟩ := I.list hA
  obtain ⟨u, rfl, ru⟩ := vals1 r
  obtain rfl : u = Value.ref a := ru
  rw [List.length_map] at hz
  have e := each_of_vals rv
  have er : PySem.W.EachIs (fun v z => ∃ as, Reads s.heap v (enc z.2) as) its Z := (PySem.W.each_mem e).mono fun v z h => Dp.reads I (enc z.2) z.1 v (hd z h.2) h.1
  refine PySem.W.sorted_data (enc := fun z : V × α => enc z.2) hl.isList e er hal hk hz (fun z hm => ?_) (fun out ho eo => ?_)
  · have := hdp z hm
    omega
  · obtain ⟨n, hn⟩ := sortedAll_at s.heap its out.toArray
    have hs : s.heap.objs.size ≤ s.heap.objs.size + 1 := Nat.le_succ _
    refine ⟨.ref (s.heap.objs.size + 1), upd H (s.heap.objs.size + 1) (.lst ((Z.mergeSort (PySem.W.dataLe false fun z => enc z.2)).map (·.1))), I.laid (t' := s.toks) (fun b o g => sortedAll_old g) hs ⟨?_, out, n, vals_of_each eo, hn⟩, rfl, q _ (I.hok.fresh hs)⟩
    rw [List.length_map, List.length_mergeSort]
    exact hz
theorem cr_sortDK {K : PySem.W.Frag} (hu : X.A.units + 64 < cLine) (h : X.K = K := by rfl) : CallR X (.builtin "sorted") (rSortD K) := h ▸ cr_sortD hu
end
/-! ### triples: a text, a number, a start -/
abbrev E3 := Str × Int × Int
def lex3 (p q : E3) : Prop := p.1.cps.toList < q.1.cps.toList ∨ (p.1 = q.1 ∧ (p.2.1 < q.2.1 ∨ (p.2.1 = q.2.1 ∧ p.2.2 < q.2.2)))
instance (p q : E3) : Decidable (lex3 p q) := inferInstanceAs (Decidable (_ ∨ _))
def le3 (p q : E3) : Bool := !decide (lex3 q p)
def eFlat (p : E3) : PyData := .tuple [.str p.1, .int p.2.1, .int p.2.2]
def eNest (p : E3) : PyData := .tuple [.str p.1, .tuple [.int p.2.1, .int p.2.2]]
theorem str_ext {x y : Str} (h : x.cps.toList = y.cps.toList) : x = y := by
  obtain ⟨a⟩ := x
  obtain ⟨b⟩ := y
  have : a = b := Array.toList_inj.mp h
  rw [this]
theorem lex3_irrefl (p : E3) : ¬ lex3 p p := by
  rintro (h | ⟨_, h | ⟨_, h⟩⟩)
  · exact List.lt_irrefl _ h
  · omega
  · omega
theorem lex3_tr {p q r : E3} (h : lex3 p q) (h2 : lex3 q r) : lex3 p r := by
  rcases h with h | ⟨e, h⟩ <;> rcases h2 with h2 | ⟨e2, h2⟩
  · exact .inl (List.lt_trans h h2)
  · exact .inl (e2 ▸ h)
  · exact .inl (by rw [e]; exact h2)
  · refine .inr ⟨e.trans e2, ?_⟩
    rcases h with h | ⟨f, h⟩ <;> rcases h2 with h2 | ⟨f2, h2⟩
    · exact .inl (by omega)
    · exact .inl (by omega)
    · exact .inl (by omega)
    · exact .inr ⟨by omega, by omega⟩
theorem lex3_tri {p q : E3} (h : ¬ lex3 p q) (h2 : ¬ lex3 q p) : p = q := by
  have a1 : p.1.cps.toList ≤ q.1.cps.toList := List.not_lt.mp fun z => h2 (.inl z)
  have a2 : q.1.cps.toList ≤ p.1.cps.toList := List.not_lt.mp fun z => h (.inl z)
  have a : p.1 = q.1 := str_ext (List.le_antisymm a1 a2)
  have b : p.2.1 = q.2.1 := by
    rcases Int.lt_trichotomy p.2.1 q.2.1 with z | z | z
    · exact absurd (.inr ⟨a, .inl z⟩) h
    · exact z
    · exact absurd (.inr ⟨a.symm, .inl z⟩) h2
  have c : p.2.2 = q.2.2 := by
    rcases Int.lt_trichotomy p.2.2 q.2.2 with z | z | z
    · exact absurd (.inr ⟨a, .inr ⟨b, z⟩⟩) h
    · exact z
    · exact absurd (.inr ⟨a.symm, .inr ⟨b.symm, z⟩⟩) h2
  obtain ⟨x, y, z⟩ := p
  obtain ⟨x', y', z'⟩ := q
  simp at a b c
  rw [a, b, c]
theorem le3_tr (p q r : E3) (h : le3 p q = true) (h2 : le3 q r = true) : le3 p r = true := by
  unfold le3 at *
  simp only [Bool.not_eq_true', decide_eq_false_iff_not] at *
  intro z
  by_cases c : lex3 p q
  · exact h2 (lex3_tr z c)
  · have := lex3_tri c h
    subst this
    exact h2 z
theorem le3_tot (p q : E3) : (le3 p q || le3 q p) = true := by
  unfold le3
  by_cases c : lex3 q p
  · have d : ¬ lex3 p q := fun z => lex3_irrefl _ (lex3_tr c z)
    rw [decide_eq_true c, decide_eq_false d]
    rfl
  · rw [decide_eq_false c]
    rfl
theorem eqv_str (x y : Str) : PyData.eqv (.str x) (.str y) = decide (x = y) := by
  by_cases h : x = y
  · simp [PyData.eqv, h]
  · simp [PyData.eqv, h]
theorem eqv_int (x y : Int) : PyData.eqv (.int x) (.int y) = decide (x = y) := by
  by_cases h : x = y
  · simp [PyData.eqv, h]
  · simp [PyData.eqv, h]
theorem flat_lt (p q : E3) : PySem.W.dataLt (eFlat p) (eFlat q) = decide (lex3 p q) := by
  unfold eFlat
  rw [PySem.W.dataLt_tuple, PySem.W.dataLt_cons (by simp [PySem.W.alike]), PySem.W.dataLt_cons (by simp [PySem.W.alike]), PySem.W.dataLt_cons (by simp [PySem.W.alike])]
  have e : PyProof.Rows.lexLt itemOrd (PySem.W.keyToksAll []) (PySem.W.keyToksAll []) = false := lex_irrefl _
  rw [e, eqv_str, eqv_int, eqv_int, PySem.W.dataLt_str, PySem.W.dataLt_int, PySem.W.dataLt_int]
  unfold lex3
  by_cases a : p.1 = q.1
  · have na : ¬ p.1.cps.toList < q.1.cps.toList := by rw [a]; exact List.lt_irrefl _
    by_cases b : p.2.1 = q.2.1
    · by_cases c : p.2.2 = q.2.2
      · simp [a, b, c]
      · rw [decide_eq_true a, decide_eq_true b, decide_eq_false c]
        show decide (p.2.2 < q.2.2) = _
        exact decide_eq_decide.mpr ⟨fun h => .inr ⟨a, .inr ⟨b, h⟩⟩, fun h => h.elim (fun h => absurd h na) fun h => h.2.elim (fun h => by omega) fun h => h.2⟩
    · rw [decide_eq_true a, decide_eq_false b]
      show decide (p.2.1 < q.2.1) = _
      exact decide_eq_decide.mpr ⟨fun h => .inr ⟨a, .inl h⟩, fun h => h.elim (fun h => absurd h na) fun h => h.2.elim id fun h => absurd h.1 b⟩
  · simp [a]
theorem nest_lt (p q : E3) : PySem.W.dataLt (eNest p) (eNest q) = decide (lex3 p q) := by
  unfold eNest
  rw [PySem.W.dataLt_pair (by simp [PySem.W.alike]) (by simp [PySem.W.alike, PySem.W.alikeAll]), PySem.W.dataLt_ii, PySem.W.dataLt_str, eqv_str]
  have e2 : PyData.eqv (.tuple [.int p.2.1, .int p.2.2]) (.tuple [.int q.2.1, .int q.2.2]) = decide (p.2 = q.2) := by
    obtain ⟨x, y, z⟩ := p
    obtain ⟨x', y', z'⟩ := q
    by_cases b : y = y' <;> by_cases c : z = z' <;> simp [PyData.eqv, PyData.eqvAll, b, c]
  rw [e2]
  unfold lex3
  by_cases a : p.1 = q.1
  · have na : ¬ p.1.cps.toList < q.1.cps.toList := by rw [a]; exact List.lt_irrefl _
    by_cases b : p.2 = q.2
    · simp [a, b]
    · rw [decide_eq_true a, decide_eq_false b]
      show decide (p.2.1 < q.2.1 ∨ (p.2.1 = q.2.1 ∧ p.2.2 < q.2.2)) = _
      exact decide_eq_decide.mpr ⟨fun h => .inr ⟨a, h⟩, fun h => h.elim (fun h => absurd h na) fun h => h.2⟩
  · simp [a]
theorem flat_le {β : Type} (f : β → E3) : PySem.W.dataLe false (fun b => eFlat (f b)) = fun p q => le3 (f p) (f q) := by
  funext p q
  show (!PySem.W.dataLt (eFlat (f q)) (eFlat (f p))) = _
  rw [flat_lt]
  rfl
theorem nest_le {β : Type} (f : β → E3) : PySem.W.dataLe false (fun b => eNest (f b)) = fun p q => le3 (f p) (f q) := by
  funext p q
  show (!PySem.W.dataLt (eNest (f q)) (eNest (f p))) = _
  rw [nest_lt]
  rfl
theorem flat_alike {β : Type} (f : β → E3) (bs : List β) : PySem.W.AllAlike (bs.map fun b => eFlat (f b)) := PySem.W.AllAlike.of fun b b' => by simp [eFlat, PySem.W.alike, PySem.W.alikeAll]
theorem nest_alike {β : Type} (f : β → E3) (bs : List β) : PySem.W.AllAlike (bs.map fun b => eNest (f b)) := PySem.W.AllAlike.of fun b b' => by simp [eNest, PySem.W.alike, PySem.W.alikeAll]
theorem flat_able {β : Type} (f : β → E3) (bs : List β) : PySem.W.Sortable (bs.map fun b => eFlat (f b)) := PySem.W.Sortable.tuples fun b => ⟨_, _, rfl⟩
theorem nest_able {β : Type} (f : β → E3) (bs : List β) : PySem.W.Sortable (bs.map fun b => eNest (f b)) := PySem.W.Sortable.tuples fun b => ⟨_, _, rfl⟩
theorem flat_deep (p : E3) : (eFlat p).depth ≤ 60 := by
  show max 0 (max 0 (max 0 0)) + 1 ≤ 60
  decide
theorem nest_deep (p : E3) : (eNest p).depth ≤ 60 := by
  show max 0 (max (max 0 (max 0 0) + 1) 0) + 1 ≤ 60
  decide
/-- sorted without anything twice: one list alone -/
theorem sorted3_uniq {xs ys : List E3} (hp : xs.Perm ys) (h1 : xs.Pairwise (fun p q => le3 p q = true)) (h2 : ys.Pairwise (fun p q => le3 p q = true)) : xs = ys := by
  refine hp.eq_of_pairwise (fun p q _ _ a b => ?_) h1 h2
  unfold le3 at a b
  simp only [Bool.not_eq_true', decide_eq_false_iff_not] at a b
  exact lex3_tri b a
theorem sort3_pw (xs : List E3) : (xs.mergeSort le3).Pairwise (fun p q => le3 p q = true) := List.pairwise_mergeSort (fun p q r => le3_tr p q r) (fun p q => le3_tot p q) xs
theorem sort3_map {β : Type} (f : β → E3) (bs : List β) : (bs.mergeSort fun p q => le3 (f p) (f q)).map f = (bs.map f).mergeSort le3 := by
  refine sorted3_uniq (((List.mergeSort_perm _ _).map f).trans (List.mergeSort_perm _ _).symm) ?_ (sort3_pw _)
  rw [List.pairwise_map]
  exact List.pairwise_mergeSort (le := fun p q => le3 (f p) (f q)) (fun p q r => le3_tr (f p) (f q) (f r)) (fun p q => le3_tot (f p) (f q)) bs
end SH
set_option Elab.async false
set_option linter.all false
set_option maxRecDepth 100000
set_option maxHeartbeats 4000000
/-! sets of numbers and texts: made, walked, sorted -/
namespace SH
open PySem PySem.Spec PyProof.Rows L2
def keyM (e : Int × Value) : Key := match e.2 with | .int k _ => .inl k | .str x _ => .inr x | _ => .inl 0
def GoodM (w : World) (e : Int × Value) : Prop := ∃ k : Key, RelV (kV k) e.2 ∧ e.1 = keyH w k
theorem keyM_of {h : Int} {k : Key} {u : Value} (r : RelV (kV k) u) : keyM (h, u) = k := by
  cases k with
  | inl i =>
    obtain ⟨t, rfl⟩ := r
    rfl
  | inr x =>
    obtain ⟨t, rfl⟩ := r
    rfl
/-- the set of keys at a: S its members, n their number; its table rises and can be walked -/
def SetM (w : World) (h : Heap) (a : Addr) (S : Key → Bool) (n : Nat) : Prop :=
  ∃ o es ep t, h.get? a = some o ∧ o.ExactSet ∧ o.data = .set es ep t ∧ (∀ e ∈ es.toList, GoodM w e) ∧ (es.toList.map keyM).Nodup ∧ (∀ k, S k = true ↔ k ∈ es.toList.map keyM) ∧
    es.size < scanBound ∧ t.fits es.size = true ∧ es.size = n ∧ Ris t.place.toList ∧ (w.params.followText "set-order" = true ∨ t.led = true)
section
variable {P : Program} {w : World} {h h' : Heap} {a : Addr} {S : Key → Bool} {n : Nat}
theorem SetM.at (R : SetM w h a S n) (k : ∀ o, h.get? a = some o → h'.get? a = some o) : SetM w h' a S n := by
  obtain ⟨o, es, ep, t, ho, r⟩ := R
  exact ⟨o, es, ep, t, k o ho, r⟩
theorem SetM.lt (R : SetM w h a S n) : a < h.objs.size := by
  obtain ⟨o, es, ep, t, ho, r⟩ := R
  exact Heap.lt_size ho
theorem goodM_elems {l : List (Int × Value)} (g : ∀ e ∈ l, GoodM w e) : ElemsOf (mixKind P w) l := fun e he => by
  obtain ⟨k, h1, h2⟩ := g e he
  exact ⟨⟨k, kV_is h1, h2⟩, key_scan h1⟩
theorem goodM_is {e : Int × Value} (g : GoodM w e) (k : Key) : (mixKind P w).is k e.2 = true ↔ keyM e = k := by
  obtain ⟨k0, h1, _⟩ := g
  have e0 : keyM e = k0 := by
    obtain ⟨x, u⟩ := e
    exact keyM_of h1
  rw [e0]
  constructor
  · intro h
    exact (mixKind P w).inj _ _ _ (kV_is h1) h
  · rintro rfl
    exact kV_is h1
theorem goodM_mem {l : List (Int × Value)} (g : ∀ e ∈ l, GoodM w e) (k : Key) : k ∈ l.map keyM ↔ ∃ e ∈ l, (mixKind P w).is k e.2 = true := by
  rw [List.mem_map]
  constructor
  · rintro ⟨e, he, q⟩
    exact ⟨e, he, (goodM_is (g e he) k).2 q⟩
  · rintro ⟨e, he, q⟩
    exact ⟨e, he, (goodM_is (g e he) k).1 q⟩
theorem SetM.setOf (R : SetM w h a S n) : h.SetOf (mixKind P w) a S n := by
  obtain ⟨o, es, ep, t, ho, hx, hd, g, nd, hm, hb, hf, hn, _⟩ := R
  exact ⟨o, es, ep, t, ho, hx, hd, goodM_elems g, fun k => (hm k).trans (goodM_mem g k), hb, hf, hn⟩
end
section
variable {P : Program} {w : World} {A : Around} {E : Value → Shared → Prop} {s : Shared} {a : Addr} {S : Key → Bool} {n : Nat}
theorem setM_add_tail {g : Bool → Sem Unit} (hg : ∀ (b : Bool) (s₁ : Shared) (Q' : Unit → Shared → Prop), Q' () s₁ → wpAny (model P w) A (g b) Q' E s₁)
    {o : Obj} {es : Array (Int × Value)} {ep : Nat} {t : SetTable} (ho : s.heap.get? a = some o) (hex : o.ExactSet) (hd : o.data = .set es ep t)
    {es1 : Array (Int × Value)} {t2 : SetTable} {S' : Key → Bool} (g1 : ∀ e ∈ es1.toList, GoodM w e) (nd1 : (es1.toList.map keyM).Nodup) (m1 : ∀ k, S' k = true ↔ k ∈ es1.toList.map keyM)
    (hb1 : es1.size < scanBound) (hf2 : t2.fits es1.size = true) (hr : Ris t2.place.toList) (hl : w.params.followText "set-order" = true ∨ t2.led = true) {wasDummy : Bool} {R : Option Bool → Shared → Prop}
    (hR : ∀ h', Heap.SameBut a s.heap h' → SetM w h' a S' es1.size → R (some true) { s with heap := h' }) :
    wpAny (model P w) A (do
        storeSet a es1 t2
        if (!wasDummy && t2.tooFull) = true then do
            g (relayAll t2 es1 (SetTable.grown es1.size)).2.2
            storeSet a (relayAll t2 es1 (SetTable.grown es1.size)).1 (relayAll t2 es1 (SetTable.grown es1.size)).2.1
            pure (some true)
          else pure (some true)) R E s := by
  refine wpAny_bind (wpAny_storeSet_of ho hd ?_ (fits_of_scanBound hb1))
  have ho1 := store_at (es' := es1) (t' := t2) ho hd
  have sb1 := Heap.SameBut.update s.heap a (Obj.putSet es1 t2)
  split
  · have pm := relayAll_perm t2 es1 (SetTable.grown es1.size)
    have hf3 := relayAll_fits t2 es1 (SetTable.grown es1.size)
    have hr3 := relayAll_ris t2 es1 (SetTable.grown es1.size)
    have hl3 := relayAll_led t2 es1 (SetTable.grown es1.size)
    generalize relayAll t2 es1 (SetTable.grown es1.size) = Z at pm hf3 hr3 hl3 ⊢
    obtain ⟨es2, t3, gave⟩ := Z
    dsimp only at pm hf3 hr3 hl3 ⊢
    have hsz : es2.size = es1.size := by rw [← Array.length_toList, pm.length_eq, Array.length_toList]
    have hb2 : es2.size < scanBound := by rw [hsz]; exact hb1
    refine wpAny_bind (hg _ _ _ ?_)
    refine wpAny_bind (wpAny_storeSet_of ho1 rfl ?_ (fits_of_scanBound hb2))
    have ho2 := store_at (es' := es2) (t' := t3) ho1 rfl
    refine wpAny_pure (hR _ (sb1.trans (Heap.SameBut.update _ a _)) ?_)
    exact ⟨_, es2, _, t3, ho2, hex, rfl, fun e he => g1 e (pm.mem_iff.mp he), (pm.map keyM).nodup_iff.mpr nd1, fun k => (m1 k).trans (pm.map keyM).mem_iff.symm, hb2, hf3, hsz, hr3,
      hl.imp id fun z => by rw [hl3]; exact z⟩
  · exact wpAny_pure (hR _ sb1 ⟨_, es1, _, t2, ho1, hex, rfl, g1, nd1, m1, hb1, hf2, rfl, hr, hl⟩)
theorem setM_add_hashed {k : Key} {u : Value} {Q : Bool → Shared → Prop} (ru : RelV (kV k) u) (R : SetM w s.heap a S n) (room : n + 1 < scanBound)
    (hQ : ∀ h', Heap.SameBut a s.heap h' → SetM w h' a (fun j => S j || decide (j = k)) (if S k = true then n else n + 1) → Q (!S k) { s with heap := h' }) :
    wpAny (model P w) A (setAddHashed a u ((mixKind P w).hash k)) Q E s := by
  obtain ⟨o, es, ep, t, ho, hex, hd, g, nd, hm, hb, hf, hn, hr, hl⟩ := R
  have hkey : (mixKind P w).is k u = true := kV_is ru
  have hsc : u.scannable = true := key_scan ru
  have hel : ElemsOf (mixKind P w) es.toList := goodM_elems g
  unfold setAddHashed setAddHashedIn
  refine wpAny_holding (wpAny_bind (wpAny_setState_of ho hd hf ?_))
  dsimp only
  rw [byScan_of hsc hb hel]
  simp only [↓reduceIte]
  unfold setAddByScan
  refine wpAny_bind ?_
  refine wpAny_bind (wpAny_rule ?_)
  refine wpAny_bind (wpAny_setScan_of hkey ho hd hf hel ?_)
  cases hfi : List.findIdx? (fun e => (mixKind P w).is k e.2) es.toList with
  | some j =>
    dsimp only
    obtain ⟨hj, pj, _⟩ := List.findIdx?_eq_some_iff_getElem.mp hfi
    have hSk : S k = true := (hm k).2 ((goodM_mem (P := P) (w := w) g k).2 ⟨es.toList[j], List.getElem_mem hj, pj⟩)
    refine wpAny_pure (wpAny_pure ?_)
    have q := hQ s.heap (Heap.SameBut.refl a s.heap) ⟨o, es, ep, t, ho, hex, hd, g, nd, fun i => by
      rw [Bool.or_eq_true, decide_eq_true_eq, ← hm i]
      exact ⟨fun z => z.elim id (fun e => e ▸ hSk), .inl⟩, hb, hf, by rw [if_pos hSk]; exact hn, hr, hl⟩
    rw [hSk] at q
    exact q
  | none =>
    dsimp only
    have hnk : k ∉ es.toList.map keyM := fun z => by
      obtain ⟨e, he, q⟩ := (goodM_mem (P := P) (w := w) g k).1 z
      have c := List.findIdx?_eq_none_iff.mp hfi e he
      rw [q] at c
      cases c
    have hSk : S k = false := by
      cases q : S k with
      | false => rfl
      | true => exact absurd ((hm k).1 q) hnk
    have hgw : ∀ (b : Bool) {s₁ : Shared} {Q' : Unit → Shared → Prop}, Q' () s₁ → wpAny (model P w) A (match b with | true => rule "set.scan.the-table-gave-way" | false => pure ()) Q' E s₁ :=
      fun b s₁ Q' q => by cases b <;> first | exact wpAny_pure q | exact wpAny_rule q
    have pm := layNew_perm t es ((mixKind P w).hash k) u
    have hf1 := layNew_fits t es ((mixKind P w).hash k) u
    have hr1 := layNew_ris t es ((mixKind P w).hash k) u hr
    have hl1 := layNew_led t es ((mixKind P w).hash k) u
    generalize layNew t es ((mixKind P w).hash k) u = Z at pm hf1 hr1 hl1 ⊢
    obtain ⟨es1, t1, wasDummy, gave⟩ := Z
    dsimp only at pm hf1 hr1 hl1 ⊢
    rw [Array.toList_push] at pm
    have pc : es1.toList.Perm (((mixKind P w).hash k, u) :: es.toList) := pm.trans (List.perm_append_singleton _ _)
    have pk : (es1.toList.map keyM).Perm (k :: es.toList.map keyM) := by
      have q := pc.map keyM
      rw [List.map_cons, keyM_of ru] at q
      exact q
    have g1 : ∀ e ∈ es1.toList, GoodM w e := fun e he => by
      rcases List.mem_cons.mp (pc.mem_iff.mp he) with z | z
      · rw [z]; exact ⟨k, ru, rfl⟩
      · exact g e z
    have nd1 : (es1.toList.map keyM).Nodup := pk.nodup_iff.mpr (List.nodup_cons.mpr ⟨hnk, nd⟩)
    have m1 : ∀ i, (S i || decide (i = k)) = true ↔ i ∈ es1.toList.map keyM := fun i => by
      rw [Bool.or_eq_true, decide_eq_true_eq, hm i, pk.mem_iff, List.mem_cons]
      exact Or.comm
    have hsz : es1.size = n + 1 := by rw [← Array.length_toList, pc.length_eq, List.length_cons, Array.length_toList, hn]
    have hb1 : es1.size < scanBound := by rw [hsz]; exact room
    have hled : w.params.followText "set-order" = true ∨ t1.led = true := hl.imp id fun z => by rw [hl1]; exact z
    have fin : ∀ h', Heap.SameBut a s.heap h' → SetM w h' a (fun j => S j || decide (j = k)) es1.size → Q true { s with heap := h' } := fun h' sb r => by
      have q := hQ h' sb
      rw [hSk] at q
      rw [hsz] at r
      exact q r
    refine wpAny_bind (hgw _ ?_)
    split
    · refine wpAny_bind ?_
      rw [hashByValue_scannable 8 hsc]
      refine wpAny_pure ?_
      refine setM_add_tail ?_ ho hex hd g1 nd1 m1 hb1 ?_ ?_ ?_ ?_
      · intro b s₁ Q' q; cases b <;> first | exact wpAny_pure q | exact wpAny_rule q
      · first | (split <;> first | exact hf1 | exact SetTable.fits_plain_off hf1) | exact hf1
      · first | (split <;> exact hr1) | exact hr1
      · first | (split <;> exact hled) | exact hled
      · intro h' sb r; dsimp only; exact wpAny_pure (fin h' sb r)
    · refine wpAny_bind (wpAny_pure ?_)
      simp only [↓reduceIte]
      refine setM_add_tail ?_ ho hex hd g1 nd1 m1 hb1 hf1 hr1 hled ?_
      · intro b s₁ Q' q; cases b <;> first | exact wpAny_pure q | exact wpAny_rule q
      · intro h' sb r; dsimp only; exact wpAny_pure (fin h' sb r)
/-- found.add(k) -/
theorem setM_add {k : Key} {u : Value} {Q : Value → Shared → Prop} (ru : RelV (kV k) u) (R : SetM w s.heap a S n) (room : n + 1 < scanBound)
    (hQ : ∀ h', Heap.SameBut a s.heap h' → SetM w h' a (fun j => S j || decide (j = k)) (if S k = true then n else n + 1) → Q .none { s with heap := h', toks := s.toks + 1 }) :
    wpAny (model P w) A (call (.builtin "set.add") [.ref a, u]) Q E s := by
  have hS : s.heap.SetOf (mixKind P w) a S n := R.setOf
  refine wpAny_call_entry F.slot_set_add hS.typeIs F.entry_set_add ?_ (F.args_set_add_2 _ _)
  unfold Builtin.«set.add» Builtin.Frozenset.oneOther
  simp only [List.isEmpty_nil, bind_assoc]
  unfold Builtin.Frozenset.addrOf setAdd
  refine wpAny_bind (wpAny_pure ?_)
  try dsimp only
  refine wpAny_bind (wpAny_pure ?_)
  try dsimp only
  refine wpAny_bind ?_
  refine wpAny_holding ?_
  refine wpAny_bind ((mixKind P w).pyHash (kV_is ru) ?_)
  refine setM_add_hashed (s := { s with toks := s.toks + 1 }) ru R room fun h' sb r => ?_
  show wpAny _ _ (ret Value.none) _ _ _
  exact wpAny_pure ⟨_, rfl, hQ h' sb r⟩
theorem setM_fresh {h : Heap} (w : World) : SetM w (h.push { cls := .type "set", dict := none, data := .set #[] 0 (.fresh 0 0 (!w.params.followText "set-order")) }) h.objs.size (fun _ => false) 0 :=
  ⟨_, #[], 0, _, Heap.get?_push_size _ rfl, ⟨rfl, rfl, rfl⟩, rfl, (fun e he => by simp at he), (by simp), (fun k => by simp), (by decide), (by rfl), rfl, List.Pairwise.nil, by
    show _ ∨ (!w.params.followText "set-order") = true
    cases w.params.followText "set-order"
    · exact .inr rfl
    · exact .inl rfl⟩
end
/-- the set of keys at a, tracked -/
def SetMO (w : World) (a : Addr) (S : Key → Bool) (n : Nat) : HO := .ext fun h => SetM w h a S n
theorem setMO_new {w : World} {P : Program} {H : Hp} {h : Heap} {a : Addr} {S : Key → Bool} {n : Nat} (R : SetM w h a S n) : ObjOk P w H h a (SetMO w a S n) := by
  have ⟨o, _, _, _, ho, _⟩ := R
  exact ⟨R, ⟨o, ho⟩, fun h1 h2 p k => SetM.at p k⟩
section
variable {X : Cx}
theorem setMO_get {pins : List (Addr × Obj)} {σ : L2.St} {H : Hp} {s : Shared} {a : Addr} {S : Key → Bool} {n : Nat} (I : Inv X pins σ H s) (ha : H a = some (SetMO X.w a S n)) : SetM X.w s.heap a S n := (I.hok a _ ha).1
theorem addM_ok {pins : List (Addr × Obj)} {σ : L2.St} {H : Hp} {s : Shared} {E : Value → Shared → Prop} {D : Addr} {S : Key → Bool} {n : Nat} {k : Key} {u : Value} {Q : Value → Shared → Prop} (ru : RelV (kV k) u) (I : Inv X pins σ H s) (hD : H D = some (SetMO X.w D S n)) (room : n + 1 < scanBound)
    (h : ∀ s', Inv X pins σ (upd H D (SetMO X.w D (fun j => S j || decide (j = k)) (if S k = true then n else n + 1))) s' → Q .none s') : wpAny (model X.prog X.w) X.A (call (.builtin "set.add") [.ref D, u]) Q E s := by
  have R := setMO_get I hD
  refine setM_add ru R room fun h' sb new => ?_
  have he : ∃ u, h'.get? D = some u := by
    have ⟨o, _, _, _, ho, _⟩ := new
    exact ⟨o, ho⟩
  exact h _ (I.write (e := D) (t' := s.toks + 1) (by rw [hD]; trivial) (.inl rfl) (fun b u hb hu => (sb.2 b hb).trans hu) he (setMO_new new))
/-! ### its members, in some order -/
theorem setM_out {w : World} {es : Array (Int × Value)} (g : ∀ e ∈ es.toList, GoodM w e) {out : List Value} (hp : out.Perm (es.toList.map (·.2))) : ∃ ks : List Key, Vals (ks.map kV) out ∧ ks.Perm (es.toList.map keyM) := by
  have key : ∀ v ∈ out, ∃ k : Key, RelV (kV k) v := fun v hv => by
    obtain ⟨e, he, q⟩ := List.mem_map.mp (hp.mem_iff.mp hv)
    obtain ⟨k, h1, _⟩ := g e he
    exact ⟨k, q ▸ h1⟩
  refine ⟨out.map fun v => keyM (0, v), ?_, ?_⟩
  · have go : ∀ l : List Value, (∀ v ∈ l, ∃ k : Key, RelV (kV k) v) → Vals ((l.map fun v => keyM (0, v)).map kV) l := by
      intro l
      induction l with
      | nil => exact fun _ => .nil
      | cons v r ih =>
        intro h
        obtain ⟨k, hk⟩ := h v (List.mem_cons_self ..)
        refine .cons ?_ (ih fun u hu => h u (List.mem_cons_of_mem _ hu))
        show RelV (kV (keyM (0, v))) v
        rw [keyM_of hk]
        exact hk
    exact go out key
  · have q := hp.map fun v => keyM (0, v)
    rw [List.map_map] at q
    exact q
theorem each_of_map {α : Type} (f : α → V) : ∀ {l : List α} {out : List Value}, Vals (l.map f) out → PySem.W.EachIs (fun v z => RelV (f z) v) out l
  | [], _, .nil => .nil
  | _ :: _, _, .cons r t => .cons r (each_of_map f t)
theorem map_of_each {α : Type} (f : α → V) : ∀ {l : List α} {out : List Value}, PySem.W.EachIs (fun v z => RelV (f z) v) out l → Vals (l.map f) out
  | _, _, .nil => .nil
  | _, _, .cons r t => .cons r (map_of_each f t)
/-- sorted(a set): a new list of the members by what they read as -/
def rSortM (w : World) : List V → Hp → VK → Prop := fun vs H Q => ∃ (α : Type) (enc : α → PyData) (val : α → Key) (a : Addr) (S : Key → Bool) (n : Nat), vs = [.ref a] ∧ H a = some (SetMO w a S n) ∧
  (∀ z, (enc z).depth ≤ 60 ∧ ∀ (h : Heap) (v : Value), RelV (kV (val z)) v → Reads h v (enc z) []) ∧ (∀ k, S k = true → ∃ z, val z = k) ∧ (∀ l : List α, PySem.W.AllAlike (l.map enc) ∧ PySem.W.Sortable (l.map enc)) ∧
  ∀ (l : List α) (p : Addr), (l.map val).Nodup → (∀ k, S k = true ↔ k ∈ l.map val) → l.length = n → H p = none → Q (.ref p) (upd H p (.lst ((l.mergeSort (PySem.W.dataLe false enc)).map fun z => kV (val z))))
theorem pick {α β : Type} (f : α → β) : ∀ ks : List β, (∀ k ∈ ks, ∃ z, f z = k) → ∃ l : List α, l.map f = ks
  | [], _ => ⟨[], rfl⟩
  | k :: r, h => by
    obtain ⟨z, hz⟩ := h k (List.mem_cons_self ..)
    obtain ⟨l, hl⟩ := pick f r fun k hk => h k (List.mem_cons_of_mem _ hk)
    exact ⟨z :: l, by rw [List.map_cons, hz, hl]⟩
theorem cr_sortM (hc : X.calm = true) (hu : X.A.units + 64 < cLine) : CallR X (.builtin "sorted") (rSortM X.w) := by
  intro pins s τ H vs us Q I r h
  obtain ⟨α, enc, val, a, S, n, rfl, hA, hd, hv, hal, q⟩ := h
  obtain ⟨u, rfl, ru⟩ := vals1 r
  obtain rfl : u = Value.ref a := ru
  obtain ⟨o, es, ep, t, ho, hex, hdt, g, nd, hm, hb, hf, hn, hr, hl⟩ := setMO_get I hA
  refine Calls.call_function_entry kind_sorted plain_sorted entry_sorted (args_sorted1 _) ?_
  unfold Builtin.«sorted»
  refine wpAny_bind (m := checkCount "sorted" 1 1 _) (wpAny_pure ?_)
  refine wpAny_bind (collect_set (A := X.A.in1) (I.ok.hd hc) ⟨o, ho, hex.1, hdt⟩ hf hb hr hl fun s1 out k1 hz g1 o1 pm => ?_)
  obtain ⟨ks, hks, pk⟩ := setM_out g pm
  obtain ⟨l, rfl⟩ := pick val ks fun k hk => hv k ((hm k).mpr (pk.mem_iff.mp hk))
  have hol : out.length = n := by rw [pm.length_eq, List.length_map, Array.length_toList]; exact hn
  have hln : l.length = n := by
    have := hks.length
    rw [List.length_map, List.length_map] at this
    exact this.trans hol
  have hsl : out.length ≤ sizeLine := by rw [hol, ← hn]; exact fits_of_scanBound hb
  rw [List.map_map] at hks
  have e := each_of_map _ hks
  refine wpAny_bind (wpAny_newList ?_ hsl)
  have hoL : (s1.heap.push (seqObj "list" out.toArray 0)).get? s1.heap.objs.size = some (seqObj "list" out.toArray 0) := Heap.get?_push_size _ rfl
  have er : PySem.W.EachIs (fun v z => ∃ as, Reads (s1.heap.push (seqObj "list" out.toArray 0)) v (enc z) as ∧ s1.heap.objs.size ∉ as) out l := e.mono fun v z r => ⟨[], (hd z).2 _ v r, by simp⟩
  refine wpAny_bind (wpAny_holding (PySem.W.list_sort_data (enc := enc) hoL e er (hal l).1 (hal l).2 (by rw [hln, ← hol]; exact hsl) (fun z hz' => ?_) (fun out2 ho2 eo => ?_)))
  · have := (hd z).1
    show X.A.in1.units + 1 + (enc z).depth < cLine
    have e2 : X.A.in1.units = X.A.units + 1 := rfl
    omega
  · obtain ⟨c, hcc⟩ := sortedHeap_at (vs := out) (out := out2.toArray) hoL
    have kk : ∀ b x, s1.heap.get? b = some x → (sortedHeap (s1.heap.push (seqObj "list" out.toArray 0)) s1.heap.objs.size out out2.toArray).get? b = some x := fun b x q1 => by
      have hlt := Heap.lt_size q1
      rw [sortedHeap_old (Nat.ne_of_lt hlt) (by rw [size_push']; exact Nat.lt_succ_of_lt hlt)]
      exact Heap.get?_push_of_some _ q1
    have rv := map_of_each _ eo
    have I1 : Inv X pins τ H s1 := I.call' (ch := []) o1 (Un.kept k1) (I.hok.kept k1) (by rw [g1]; exact I.bare) (fun _ z => nomatch z)
    have J : Inv X pins τ (upd H s1.heap.objs.size (.lst ((l.mergeSort (PySem.W.dataLe false enc)).map fun z => kV (val z)))) { s1 with heap := sortedHeap (s1.heap.push (seqObj "list" out.toArray 0)) s1.heap.objs.size out out2.toArray, toks := s1.toks } :=
      I1.laid (t' := s1.toks) kk (Nat.le_refl _) ⟨by rw [List.length_map, List.length_mergeSort, hln, ← hol]; exact hsl, out2, c, rv, hcc⟩
    refine wpAny_pure ⟨_, rfl, ?_⟩
    exact ⟨.ref s1.heap.objs.size, _, J, rfl, q l _ (by rw [pk.nodup_iff]; exact nd) (fun k => by rw [hm k, pk.mem_iff]) hln (I.hok.fresh hz)⟩
theorem nodup_of_map {α β : Type} (f : α → β) : ∀ {l : List α}, (l.map f).Nodup → l.Nodup
  | [], _ => List.nodup_nil
  | x :: r, h => by
    rw [List.map_cons, List.nodup_cons] at h
    exact List.nodup_cons.mpr ⟨fun m => h.1 (List.mem_map_of_mem m), nodup_of_map f h.2⟩
/-- sorted(a set of texts) -/
def rSortMS (w : World) : List V → Hp → VK → Prop := fun vs H Q => ∃ (a : Addr) (S : Key → Bool) (n : Nat), vs = [.ref a] ∧ H a = some (SetMO w a S n) ∧ (∀ k, S k = true → ∃ z : Str, k = .inr z) ∧
  ∀ (l : List Str) (p : Addr), l.Nodup → l.Pairwise (fun x y => x.cps.toList ≤ y.cps.toList) → (∀ z : Str, z ∈ l ↔ S (.inr z) = true) → l.length = n → H p = none → Q (.ref p) (upd H p (.lst (l.map V.str)))
theorem cr_sortMS (hc : X.calm = true) (hu : X.A.units + 64 < cLine) : CallR X (.builtin "sorted") (rSortMS X.w) := by
  intro pins s τ H vs us Q I r h
  obtain ⟨a, S, n, rfl, hA, hS, q⟩ := h
  have inj : ∀ x y : Str, (Sum.inr x : Key) = .inr y → x = y := fun x y e => Sum.inr.inj e
  refine cr_sortM hc hu pins s τ H _ us Q I r ⟨Str, PyData.str, fun z => .inr z, a, S, n, rfl, hA, fun z => ⟨by show 0 ≤ 60; decide, fun h v r => ?_⟩, fun k hk => ?_, fun l => ⟨PySem.W.AllAlike.of fun b b' => by simp [PySem.W.alike], ?_⟩, fun l p nd hm hn np => ?_⟩
  · obtain ⟨t, rfl⟩ := r
    exact .str z t
  · obtain ⟨z, e⟩ := hS k hk
    exact ⟨z, e.symm⟩
  · exact PySem.W.Sortable.others fun b => ⟨by simp, fun xs => by simp⟩
  · have pm := List.mergeSort_perm l (PySem.W.dataLe false PyData.str)
    refine q (l.mergeSort (PySem.W.dataLe false PyData.str)) p ?_ ?_ (fun z => ?_) (by rw [pm.length_eq, hn]) np
    · rw [pm.nodup_iff]
      exact nodup_of_map _ nd
    · have e : PySem.W.dataLe false PyData.str = fun x y : Str => !decide (y.cps.toList < x.cps.toList) := by
        funext x y
        show (!PySem.W.dataLt (.str y) (.str x)) = _
        rw [PySem.W.dataLt_str]
      have hp := List.pairwise_mergeSort (le := fun x y : Str => !decide (y.cps.toList < x.cps.toList)) (fun x y z a b => ?_) (fun x y => ?_) l
      · rw [e]
        refine hp.imp fun {x y} a => ?_
        exact List.not_lt.mp fun z => by rw [decide_eq_true z] at a; cases a
      · have a' : x.cps.toList ≤ y.cps.toList := List.not_lt.mp fun z => by rw [decide_eq_true z] at a; cases a
        have b' : y.cps.toList ≤ z.cps.toList := List.not_lt.mp fun z => by rw [decide_eq_true z] at b; cases b
        rw [decide_eq_false (List.not_lt.mpr (List.le_trans a' b'))]
        rfl
      · rcases List.le_total x.cps.toList y.cps.toList with a | a
        · rw [decide_eq_false (List.not_lt.mpr a)]
          rfl
        · rw [decide_eq_false (List.not_lt.mpr a), Bool.not_false, Bool.or_true]
    · rw [pm.mem_iff, hm (.inr z)]
      exact ⟨fun m => List.mem_map_of_mem m, fun m => by obtain ⟨y, hy, e⟩ := List.mem_map.mp m; exact inj _ _ e ▸ hy⟩
/-! ### sorted(texts, key=len) -/
theorem sorted_len {l : Addr} {zs : List Str} {Q : Value → Shared → Prop} {pins : List (Addr × Obj)} {τ : L2.St} {H : Hp} {s : Shared} (I : Inv X pins τ H s) (hl : SqL X.K H l (zs.map V.str)) (hu : X.A.units + 64 < cLine) (hz : ∀ z ∈ zs, z.length ≤ sizeLine)
    (hQ : ∀ (p : Addr) (s' : Shared), H p = none → Inv X pins τ (upd H p (.lst ((zs.mergeSort fun x y => decide (x.length ≤ y.length)).map V.str))) s' → Q (.ref p) s') :
    wpAny (model X.prog X.w) X.A (call (.builtin "sorted") [.ref l] [(Str.ofString "key", .builtin "len")]) Q X.xe s := by
  obtain ⟨its, rv, hl, hZ⟩ := I.list hl
  have e := each_of_map V.str rv
  rw [List.length_map] at hZ
  refine PySem.W.sorted_key_data (b := false) (R := fun v z => RelV (V.str z) v) (fun z : Str => PyData.int z.length) hl.isList e (PySem.W.AllAlike.of fun b b' => by simp [PySem.W.alike]) (PySem.W.Sortable.others fun b => ⟨by simp, fun xs => by simp⟩) hZ
    (fun x hx => by show X.A.units + 2 + 0 < cLine; omega) (PyProof.Rows.ksk_s1 _ _) (fun _ => PyProof.Rows.ksk_l1 _ _) (fun x => PyProof.Rows.ksk_t4 "len" x) (fun v x hv hx h tk k => ?_) (fun out c h' tk k fr hp hlen eo => ?_)
  · obtain ⟨t, rfl⟩ := hv
    have hl63 := line63
    have hzx := hz x hx
    exact len_str (by omega) ⟨h, _, rfl, fun _ _ e => e, .int _ _⟩
  · have e2 : PySem.W.dataLe false (fun z : Str => PyData.int z.length) = fun x y : Str => decide (x.length ≤ y.length) := by
      funext x y
      show (!PySem.W.dataLt (.int y.length) (.int x.length)) = _
      rw [PySem.W.dataLt_int]
      by_cases c : x.length ≤ y.length
      · rw [decide_eq_true c, decide_eq_false (by omega)]
        rfl
      · rw [decide_eq_false c, decide_eq_true (by omega)]
        rfl
    rw [e2] at eo
    have hs : s.heap.objs.size ≤ s.heap.objs.size + 1 := Nat.le_succ _
    exact hQ _ _ (I.hok.fresh hs) (I.laid (t' := tk) k hs ⟨by rw [List.length_map, List.length_mergeSort]; exact hZ, out, c, map_of_each V.str eo, hp⟩)
/-- sorted(x, key=len), x a list of texts -/
def rSortLen (K : PySem.W.Frag) : List V → Hp → VK → Prop := fun vs H Q => ∃ (a : Addr) (zs : List Str), vs = [.ref a] ∧ SqL K H a (zs.map V.str) ∧ (∀ z ∈ zs, z.length ≤ sizeLine) ∧
  ∀ p : Addr, H p = none → Q (.ref p) (upd H p (.lst ((zs.mergeSort fun x y => decide (x.length ≤ y.length)).map V.str)))
def tSLen (r : List V → Hp → VK → Prop) (t : TA) : TE := fun σ H Q => t σ H fun vs H1 => r vs H1 Q
theorem pe_sortLenK {K : PySem.W.Frag} {e : Expr} {t : TA} {p kp pos : Pos} (hu : X.A.units + 64 < cLine) (hg : Gl X "sorted") (hm : X.mg "sorted" = none) (hgl : Gl X "len") (hml : X.mg "len" = none) (ha : PA X [e] t) {kpos : Pos}
    (he : backTo pos (starEach [e] X.env) = [(false, eval e X.env)] := by rfl) (hK : X.K = K := by rfl) :
    PE X (.Call (.Name "sorted" p) [e] [⟨some "key", .Name "len" kp, kpos⟩] pos) (tSLen (rSortLen K) t) := by
  subst hK
  refine ⟨fun pins s σ H Q I h => ?_⟩
  refine wpAny_Call_Name_kw (ld_blt I hg hm (u := .builtin "sorted") (by decide +kernel) ?_ (by decide) (by decide))
  refine PyProof.Rows.callWith_kw (thn (ha.run pos pins s σ H _ I h) fun us s1 ⟨vs, H1, I1, r1, q1⟩ => ?_) he (by rw [he]; rfl) (by rfl) (by rfl)
  obtain ⟨a, zs, rfl, hA, hz, q⟩ := q1
  obtain ⟨u, rfl, ru⟩ := vals1 r1
  obtain rfl : u = Value.ref a := ru
  show wpAny _ _ (evalAll ((do let v ← eval (.Name "len" kp) X.env; standAt pos; pure v) :: [])) _ _ s1
  refine wpAny_evalAll_cons (wpAny_bind (ld_blt I1 hgl hml (u := .builtin "len") (by decide +kernel) ?_ (by decide) (by decide)))
  refine wpAny_bind (wpAny_standAt (wpAny_pure (wpAny_evalAll_nil ?_)))
  exact sorted_len I1 hA hu hz fun p s2 np I2 => ⟨.ref p, _, I2, rfl, q p np⟩
end
end SH
set_option Elab.async false
set_option linter.all false
set_option maxRecDepth 100000
set_option maxHeartbeats 4000000
/-! comprehensions of any number of fors -/
namespace SH
open PySem PySem.Spec PyProof.Rows L2
/-- a turn's inner part: from slots and heap, what is wished of the heap behind it -/
abbrev TBd := L2.St → Hp → (Hp → Prop) → Prop
def BodyOk (X : Cx) (run : Sem PySem.Fin → Sem PySem.Fin) (bd : TBd) (vb : List Nat) : Prop :=
  ∀ (pins : List (Addr × Obj)) (s : Shared) (σ : L2.St) (H : Hp) (Nx : Hp → Prop) (c : Sem PySem.Fin) (Qc : PySem.Fin → Shared → Prop), Inv X pins σ H s → bd σ H Nx →
    (∀ s' H', Inv X pins (wipe σ vb) H' s' → Nx H' → wpAny (model X.prog X.w) X.A c Qc (fun _ _ => False) s') → wpAny (model X.prog X.w) X.A (run c) Qc (fun _ _ => False) s
/-- the turns of one for -/
def tTurns (J : It) (g : TG) (tt : TT) (vs : List Nat) (σw : L2.St) (bd : TBd) (Nx : Hp → Prop) (H0 : Hp) : Prop :=
  ∃ W : Nat → Nat → Hp → Prop, (∃ m, W 0 m H0) ∧ ∀ i m H, W i m H → (J.stop i H ∧ Nx H) ∨ (J.go i H ∧ ∃ Nx1 : Hp → Prop, (∀ H', Nx1 H' → ∃ m', m' < m ∧ W (i + 1) m' H') ∧
    ∀ x H', J.yld i H x H' → g x σw H' fun σ2 H2 => wipe σ2 vs = σw ∧ tt σ2 H2 fun b H3 => if b = true then bd σ2 H3 Nx1 else Nx1 H3)
/-- for tg in iter if ..: the inner part -/
def bFor (wi : TI) (g : TG) (tt : TT) (vs : List Nat) (bd : TBd) : TBd := fun σ H Nx => wi σ H fun J H1 => tTurns J g tt vs (wipe σ vs) bd Nx H1
/-- what a clause's turn runs -/
def clauseTurn (e : Expr) (k : Nat) (it acc : Value) (env : Env) (tg iter : Expr) (ifs : List Expr) (BODY : Sem PySem.Fin → Sem PySem.Fin) : Sem PySem.Fin := do
  standAt iter.pos
  match ← pyNext it with
  | none => pure (.done .next)
  | some v =>
    letOwnedTupleGo tg it v
    assign tg env v
    let mut ok := true
    for c in ifs do
      if ok then ok ← isTrue c env (eval c env)
    if ok then
      BODY (again (.compLoop e k it acc env))
    else again (.compLoop e k it acc env)
def innerRun (e : Expr) (k : Nat) (acc : Value) (env : Env) (iter : Expr) (c : Sem PySem.Fin) : Sem PySem.Fin := do
  let x ← eval iter env
  standAt iter.pos
  let x ← foldedSetIterable iter env x
  let _ ← runOwn (.compStart e k (← holding [x] (pyIter x)) acc env) env
  c
theorem wpAny_notedF {M : Model} {A : Around} {t : Sem PySem.Fin} {env : Env} {Q : PySem.Fin → Shared → Prop} {E : Value → Shared → Prop} {s : Shared} (h : wpAny M A t Q (fun _ _ => False) s) : wpAny M A (t.onRaise (fun x => do noteFrame x env; theTreesLotGoes x)) Q E s :=
  wpAny_noted (wpAny_mono h (fun _ _ q => q) fun _ _ z => z.elim)
theorem compStart_k {P : Program} {w : World} {A : Around} {e : Expr} {k : Nat} {it acc : Value} {env : Env} {R : Result → Shared → Prop} {s : Shared} (hcl : ((clausesOf e)[k]?).elim false (·.is_async != 0) = false) (hun : A.under (Code.compStart e k it acc env) = A) (hden : (model P w).den (Code.compStart e k it acc env) = ((compStart e k it acc env).onRaise (fun x => do noteFrame x env; standAt theWindowsPlace)))
    (h0 : codeAny (model P w) A (.compLoop e k it acc env) R s) (h : wpAny (model P w) A (pyIter it) (fun it' s' => codeAny (model P w) A (.compLoop e k it' acc env) R s') (notedBy (model P w) A env fun x s' => R (.error x) s') s) :
    codeAny (model P w) A (.compStart e k it acc env) R s := by
  refine codeAny_of_tree ?_
  have e1 : A.under (Code.compStart e k it acc env) = A := hun
  have e2 : (model P w).den (Code.compStart e k it acc env) = ((compStart e k it acc env).onRaise (fun x => do noteFrame x env; standAt theWindowsPlace)) := hden
  rw [e1, e2]
  refine wpAny_notedAt ?_
  unfold compStart
  simp only [hcl, Bool.false_eq_true, if_false]
  show wpAny _ _ (ask >>= _) _ _ s
  refine wpAny_bind (wpAny_askSetting (wpAny_ite ?_))
  split
  · first
      | exact wpAny_bind (wpAny_pure (wpAny_pure (And.intro rfl h0)))
      | exact wpAny_pure (And.intro rfl h0)
  · refine wpAny_bind (wpAny_rule ?_)
    have h2 : ∀ s', s' = s → wpAny (model P w) A (pyIter it >>= fun it' => again (.compLoop e k it' acc env)) (fun fin s' => match fin with | .done f => R (.ok f) s' | .again c' => c'.quiet = true ∧ codeAny (model P w) A c' R s') (notedBy (model P w) A env fun x s' => R (.error x) s') s' := fun s' es => by
      subst es
      exact wpAny_bind (wpAny_mono h (fun it' s' h' => wpAny_pure (And.intro rfl h')) fun _ _ x => x)
    cases (clausesOf e)[k]? with
    | none => first | exact h2 _ rfl | exact wpAny_bind (wpAny_pure (h2 _ rfl))
    | some g => first | exact wpAny_bind (wpAny_standAt (h2 _ rfl)) | exact wpAny_bind (wpAny_bind (wpAny_standAt (wpAny_pure (h2 _ rfl))))
section
variable {X : Cx} {e : Expr} {k : Nat} {acc : Value} {tg iter : Expr} {ifs : List Expr} {g : TG} {tt : TT} {vs vb : List Nat} {bd : TBd} {BODY : Sem PySem.Fin → Sem PySem.Fin} {wi : TI}
theorem wipe_sub {σ : L2.St} {vs vb : List Nat} (h : ∀ i ∈ vb, i ∈ vs) (j : Nat) (v : V) (e : (wipe σ vs)[j]? = some (some v)) : (wipe σ vb)[j]? = some (some v) := by
  obtain ⟨e1, e2⟩ := wipe_some e
  rw [wipe_out fun z => e2 (h j z)]
  exact e1
theorem loop_ok (hc : X.calm = true) (heq : ∀ it, (model X.prog X.w).den (Code.compLoop e k it acc X.env) = (clauseTurn e k it acc X.env tg iter ifs BODY).onRaise (fun x => do noteFrame x X.env; theTreesLotGoes x)) (hun : ∀ it, X.A.under (Code.compLoop e k it acc X.env) = X.A)
    (pg : PG X tg g) (pt : PTs X ifs tt) (hb : BodyOk X BODY bd vb) (hv : ∀ i ∈ vb, i ∈ vs) (hxe : X.xe = fun _ _ => False)
    {pins : List (Addr × Obj)} {s : Shared} {σw : L2.St} {H : Hp} {J : It} {fp : List Addr} {it : Addr} {tn : Nat → Heap → Prop} {Nx : Hp → Prop} {R : Result → Shared → Prop}
    (T : Turn X.prog X.w X.K tg J fp it tn) (I : Inv X pins σw H s) (st : tn 0 s.heap) (f : ∀ b ∈ fp, FpOk X pins H b) (h : tTurns J g tt vs σw bd Nx H)
    (hR : ∀ s' H', Inv X pins σw H' s' → Nx H' → R (.ok .next) s') :
    codeAny (model X.prog X.w) X.A (.compLoop e k (.ref it) acc X.env) R s := by
  obtain ⟨W, ⟨m0, w0⟩, turn⟩ := h
  have stat : ∀ {H' : Hp}, (∀ b ∈ fp, H' b = none) → ∀ b ∈ fp, FpOk X pins H' b := fun hn b hb => ⟨hn b hb, (f b hb).2⟩
  refine codeAny_loop rfl (fun n s' => ∃ i H', Inv X pins σw H' s' ∧ tn i s'.heap ∧ (∀ b ∈ fp, H' b = none) ∧ W i n H') (fun n s5 hI => ?_) m0 ⟨0, H, I, st, fun b hb => (f b hb).1, w0⟩
  obtain ⟨i, H5, I5, st5, n5, w5⟩ := hI
  have pgr := pg.run
  have ptr := pt.run
  rw [hxe] at pgr ptr
  rw [hun, heq]
  refine wpAny_notedF ?_
  unfold clauseTurn
  refine wpAny_bind (wpAny_standAt ?_)
  rcases turn i n H5 w5 with ⟨stop, qq⟩ | ⟨go, Nx1, hNx, step⟩
  · refine wpAny_bind (thnF (T.done X rfl rfl rfl hc i pins s5 σw H5 (fun _ _ => False) I5 (stat n5) st5 stop) fun r s6 ⟨hr, I6⟩ => ?_)
    subst hr
    exact wpAny_pure (hR s6 H5 I6 qq)
  · refine wpAny_bind (thnF (T.item X rfl rfl rfl hc i pins s5 σw H5 (fun _ _ => False) I5 (stat n5) st5 go) fun r s6 ⟨u, hr, h6⟩ => ?_)
    subst hr
    refine wpAny_bind (thnF h6 fun _ s7 ⟨x, H7, I7, r7, y7, st7, n7⟩ => ?_)
    have I7' := I7.pinned (stat n7) (T.obj _ _ st7)
    refine wpAny_bind (thnF (pgr _ s7 _ H7 x u _ I7' r7 (step x H7 y7)) fun _ s8 ⟨σ8, H8, I8, hw8, q8⟩ => ?_)
    refine wpAny_bind (thnF (ptr _ s8 σ8 H8 _ I8 q8) fun b s9 ⟨H9, I9, q9⟩ => ?_)
    have fin : ∀ {σ9 : L2.St} {s' : Shared} {H' : Hp}, Inv X (pins ++ pinsAt fp s7.heap) σ9 H' s' → σw.length = σ9.length → (∀ (j : Nat) v, σw[j]? = some (some v) → σ9[j]? = some (some v)) → Nx1 H' →
        ∃ m, m < n ∧ ∃ i H', Inv X pins σw H' s' ∧ tn i s'.heap ∧ (∀ b ∈ fp, H' b = none) ∧ W i m H' := fun {σ9 s' H'} I' hl hk nx => by
      obtain ⟨m', hm, w'⟩ := hNx H' nx
      have pin' : ∀ b ∈ fp, ∀ o, s7.heap.get? b = some o → s'.heap.get? b = some o ∧ H' b = none := fun b hb o e =>
        let z := I'.pin (b, o) (List.mem_append_right _ (List.mem_append_right _ (mem_pinsAt hb e)))
        ⟨z.1, z.2.1⟩
      refine ⟨m', hm, i + 1, H', (I'.unpinned (pins := pins)).weak hl hk, T.keep _ _ _ st7 fun b hb o e => (pin' b hb o e).1, fun b hb => ?_, w'⟩
      obtain ⟨o, e, _⟩ := T.obj _ _ st7 b hb
      exact (pin' b hb o e).2
    cases b with
    | false =>
      refine wpAny_pure ⟨rfl, ?_⟩
      exact fin I9 (by rw [← hw8, wipe_length]) (fun j v e => by rw [← hw8] at e; exact (wipe_some e).1) q9
    | true =>
      refine hb _ s9 σ8 H9 Nx1 _ _ I9 q9 fun s10 H10 I10 q10 => ?_
      refine wpAny_pure ⟨rfl, ?_⟩
      exact fin I10 (by rw [← hw8, wipe_length, wipe_length]) (fun j v e => by rw [← hw8] at e; exact wipe_sub hv j v e) q10
/-- a for further in -/
theorem body_for (hc : X.calm = true) (hxe : X.xe = fun _ _ => False) (heq : ∀ it, (model X.prog X.w).den (Code.compLoop e k it acc X.env) = (clauseTurn e k it acc X.env tg iter ifs BODY).onRaise (fun x => do noteFrame x X.env; theTreesLotGoes x)) (hun : ∀ it, X.A.under (Code.compLoop e k it acc X.env) = X.A)
    (hst : ∀ (R : Result → Shared → Prop) (it : Value) (s : Shared), codeAny (model X.prog X.w) X.A (.compLoop e k it acc X.env) R s → wpAny (model X.prog X.w) X.A (pyIter it) (fun it' s' => codeAny (model X.prog X.w) X.A (.compLoop e k it' acc X.env) R s') (notedBy (model X.prog X.w) X.A X.env fun x s' => R (.error x) s') s → codeAny (model X.prog X.w) X.A (.compStart e k it acc X.env) R s)
    (pi : PI X tg iter wi) (hs : ∀ x, foldedSetIterable iter X.env x = pure x) (pg : PG X tg g) (pt : PTs X ifs tt) (hb : BodyOk X BODY bd vb) (hv : ∀ i ∈ vb, i ∈ vs) : BodyOk X (innerRun e k acc X.env iter) (bFor wi g tt vs bd) vs := by
  intro pins s σ H Nx c Qc I h hcc
  have pir := pi.run
  rw [hxe] at pir
  unfold innerRun
  refine wpAny_bind (thnF (pir pins s σ H _ I h) fun xv s10 hx => wpAny_bind (wpAny_standAt (wpAny_bind (wpAny_of_eq (hs xv) (wpAny_bind (wpAny_holding (thnF hx fun itv s11 h11 => ?_)))))))
  obtain ⟨it1, fp1, tn1, J1, H11, e1, I11, T1, st11, f11, q11⟩ := h11
  subst e1
  refine wpAny_bind (wpAny_runOwn ?_)
  rw [Around.mark_none]
  have lp := loop_ok (R := fun r s' => match r with
      | .ok _ => ∃ H', Inv X pins (wipe σ vs) H' s' ∧ Nx H'
      | .error _ => False) hc heq hun pg pt hb hv hxe T1 (I11.weak (wipe_length _ _) (fun j v e => (wipe_some e).1)) st11 f11 q11 (fun s' H' I' n => ⟨H', I', n⟩)
  refine codeAny_mono (hst _ _ _ lp (T1.self X.A 0 _ _ _ st11 lp)) fun r s' hr => ?_
  cases r with
  | ok f =>
    obtain ⟨H', I', n⟩ := hr
    exact hcc s' H' I' n
  | error e => exact hr.elim
end
/-! ### sets -/
/-- the member is put in -/
def bAdd (w : World) (te : TE) (D : Addr) : TBd := fun σ H Nx => te σ H fun y H1 => ∃ (k : Key) (S : Key → Bool) (n : Nat), y = kV k ∧ H1 D = some (SetMO w D S n) ∧ n + 1 < scanBound ∧ Nx (upd H1 D (SetMO w D (fun j => S j || decide (j = k)) (if S k = true then n else n + 1)))
def addRun (elt : Expr) (D : Addr) (env : Env) (c : Sem PySem.Fin) : Sem PySem.Fin := do (do let v ← eval elt env; standAt elt.pos; let _ ← call (.builtin "set.add") [.ref D, v]); c
section
variable {X : Cx} {elt : Expr} {te : TE}
theorem body_add (hxe : X.xe = fun _ _ => False) (he : PE X elt te) (D : Addr) : BodyOk X (addRun elt D X.env) (bAdd X.w te D) [] := by
  intro pins s σ H Nx c Qc I h hcc
  have per := he.run
  rw [hxe] at per
  unfold addRun
  refine wpAny_bind (wpAny_bind (thnF (per pins s σ H _ I h) fun v s1 ⟨y, H1, I1, r1, k, S, n, ey, hD, room, q⟩ => wpAny_bind (wpAny_standAt ?_)))
  subst ey
  have := addM_ok (X := X) (E := X.xe) r1 I1 hD room (Q := fun _ s' => ∃ H', Inv X pins (wipe σ []) H' s' ∧ Nx H') fun s' I' => ⟨_, I', q⟩
  rw [hxe] at this
  exact wpAny_bind (wpAny_mono this (fun _ s' q => wpAny_pure (let ⟨H', I', n⟩ := q; hcc s' H' I' n)) fun _ _ z => z)
/-- {elt for tg in iter if .. ..} -/
def tScN (w : World) (wi : TI) (g : TG) (tt : TT) (vs : List Nat) (bd : Addr → TBd) : TE := fun σ H Q => wi σ H fun J H1 => ∀ D, H1 D = none → tTurns J g tt vs (wipe σ vs) (bd D) (fun H' => Q (.ref D) H') (upd H1 D (SetMO w D (fun _ => false) 0))
theorem scN_core {pins : List (Addr × Obj)} {s : Shared} {σ : L2.St} {H : Hp} {Q : VK} {tg iter : Expr} {ifs : List Expr} {rest : List Comprehension} {scope : Scope} {own : List (Str × Nat)} {vb : List Nat} {pos pos' : Pos} {wi : TI} {g : TG} {tt : TT} {bd : Addr → TBd} {BODY : Addr → Env → Sem PySem.Fin → Sem PySem.Fin} {use : Option (Value → Sem Unit)} {Qf : Value → Shared → Prop}
    (hc : X.calm = true) (hN : X.N.Nodup) (I : Inv X pins σ H s) (hi : PI X tg iter wi) (ok : BlkOk X.N X.env.scope scope own) (hv : ∀ i ∈ vb, i ∈ own.map (·.2))
    (heq : ∀ (env : Env) (D : Addr) (it : Value), (model X.prog X.w).den (Code.compLoop (.SetComp elt (⟨tg, iter, ifs, 0⟩ :: rest) scope pos) 0 it (.ref D) env) = (clauseTurn (.SetComp elt (⟨tg, iter, ifs, 0⟩ :: rest) scope pos) 0 it (.ref D) env tg iter ifs (BODY D env)).onRaise (fun x => do noteFrame x env; theTreesLotGoes x))
    (hun : ∀ (env : Env) (D : Addr) (it : Value), X.A.under (Code.compLoop (.SetComp elt (⟨tg, iter, ifs, 0⟩ :: rest) scope pos) 0 it (.ref D) env) = X.A)
    (hg : ∀ (s : Shared) (H : Hp) (C : Addr) (cl : List (Str × Addr)) (fp : List Addr), PG (X.blk s H scope (compEnvC scope cl C X.env) fp) tg g) (ht : ∀ (s : Shared) (H : Hp) (C : Addr) (cl : List (Str × Addr)) (fp : List Addr), PTs (X.blk s H scope (compEnvC scope cl C X.env) fp) ifs tt)
    (hb : ∀ (D : Addr) (s : Shared) (H : Hp) (C : Addr) (cl : List (Str × Addr)) (fp : List Addr), BodyOk (X.blk s H scope (compEnvC scope cl C X.env) fp) (BODY D (compEnvC scope cl C X.env)) (bd D) vb) (hs : ∀ x, foldedSetIterable iter X.env x = pure x)
    (h : tScN X.w wi g tt (own.map (·.2)) bd σ H Q)
    (hRR : ∀ D C s' m H', Inv X pins σ H' s' → Q (.ref D) H' → s'.heap.Ns C m → FpOk X pins H' C → compPost (model X.prog X.w) X.A X.xe use Qf (.ref D) C (.ok .next) s') :
    wpAny (model X.prog X.w) X.A (comprehension (.SetComp elt (⟨tg, iter, ifs, 0⟩ :: rest) scope pos) scope X.env pos' (newSet (.type "set")) false (eval iter X.env) use) Qf X.xe s := by
  have hfree : ∀ y ∈ scope.names, y.2 = .free → ∃ c, X.env.cells.lookup y.1 = some c := fun y hy e => by
    rcases ok.free y hy e with k | k
    · exact I.ok.has _ (.inl k)
    · exact I.ok.has _ (.inr k)
  refine wpAny_comprehension_free (use := use) rfl hs (closure_ok hfree) ok.kind (fun y hy e => by rw [ok.uniq y hy, e])
    (thn (hi.run pins s σ H _ I h) fun xv s1 hx => thn hx fun itv s2 h2 => ?_)
  obtain ⟨it, fp, tn, J, H2, e, I2, T, st2, f2, q⟩ := h2
  subst e
  refine PpSet.newSet_ok (newEnv_comp ?_)
  generalize hD : s2.heap.objs.size = D
  have hDn : H2 D = none := I2.hok.fresh (Nat.le_of_eq hD)
  have q := q D hDn
  generalize hs3 : ({ s2 with heap := s2.heap.push { cls := .type "set", dict := none, data := .set #[] 0 (.fresh 0 0 (!X.w.params.followText "set-order")) } } : Shared) = s3
  have I3 : Inv X pins σ (upd H2 D (SetMO X.w D (fun _ => false) 0)) s3 := by
    rw [← hs3]
    refine I2.laid (t' := s2.toks) (fun b o e => Heap.get?_push_of_some _ e) (Nat.le_of_eq hD) ?_
    rw [← hD]
    exact setMO_new (setM_fresh X.w)
  have h3 : s3.heap = s2.heap.push { cls := .type "set", dict := none, data := .set #[] 0 (.fresh 0 0 (!X.w.params.followText "set-order")) } := by rw [← hs3]
  have sz : ∀ b ∈ fp, b < s2.heap.objs.size := fun b hb => by
    obtain ⟨o, e, _⟩ := T.obj _ _ st2 b hb
    exact Heap.lt_size e
  have f3 : ∀ b ∈ fp, FpOk X pins (upd H2 D (SetMO X.w D (fun _ => false) 0)) b ∧ b < s3.heap.objs.size := fun b hb => by
    have hlt := sz b hb
    refine ⟨⟨?_, (f2 b hb).2⟩, by rw [h3, Heap.size_push]; exact Nat.lt_succ_of_lt hlt⟩
    rw [upd_ne (by rw [← hD]; exact Nat.ne_of_lt hlt)]
    exact (f2 b hb).1
  have st3 : tn 0 s3.heap := T.keep _ _ _ st2 fun b _ o e => by rw [h3]; exact Heap.get?_push_of_some _ e
  have I4 := block_start I3 ok hN f3
  have pg := hg s3 (upd H2 D (SetMO X.w D (fun _ => false) 0)) s3.heap.objs.size (cellsFrom (s3.heap.objs.size + 1) scope.names (cloFrom X.env.cells scope.names [])) fp
  have pt := ht s3 (upd H2 D (SetMO X.w D (fun _ => false) 0)) s3.heap.objs.size (cellsFrom (s3.heap.objs.size + 1) scope.names (cloFrom X.env.cells scope.names [])) fp
  have pb := hb D s3 (upd H2 D (SetMO X.w D (fun _ => false) 0)) s3.heap.objs.size (cellsFrom (s3.heap.objs.size + 1) scope.names (cloFrom X.env.cells scope.names [])) fp
  show codeAny _ _ (.compStart (.SetComp elt (⟨tg, iter, ifs, 0⟩ :: rest) scope pos) 0 (.ref it) (.ref D) (compEnvC scope (cellsFrom (s3.heap.objs.size + 1) scope.names (cloFrom X.env.cells scope.names [])) s3.heap.objs.size X.env)) (compPost (model X.prog X.w) X.A X.xe use Qf (.ref D) s3.heap.objs.size) { s3 with heap := pushCells (s3.heap.push { cls := .type "dict", data := .dict #[] }) scope.names }
  have nfp : ∀ b ∈ fp, (upd H2 D (SetMO X.w D (fun _ => false) 0)) b = none := fun b hb => (f3 b hb).1.1
  generalize hce : compEnvC scope (cellsFrom (s3.heap.objs.size + 1) scope.names (cloFrom X.env.cells scope.names [])) s3.heap.objs.size X.env = ce at I4 pg pt pb ⊢
  have cL : ce.locals = s3.heap.objs.size := by subst hce; rfl
  generalize hH3 : upd H2 D (SetMO X.w D (fun _ => false) 0) = H3 at I3 I4 pg pt pb q nfp f3
  generalize hs4 : ({ s3 with heap := pushCells (s3.heap.push { cls := .type "dict", data := .dict #[] }) scope.names } : Shared) = s4 at I4 ⊢
  have st4 : tn 0 s4.heap := T.keep _ _ _ st3 fun b _ o e => by rw [← hs4]; exact pushCells_keeps _ _ _ _ (Heap.get?_push_of_some _ e)
  have stat : ∀ b ∈ fp, FpOk (X.blk s3 H3 scope ce fp) [] H3 b := fun b hb =>
    ⟨nfp b hb, (I4.ok.exf b hb).1, I4.ok.exfs b hb, .inl hb, fun x c e => (I4.ok.exf b hb).2 x c e, fun p hp => absurd (show p ∈ ([] : List (Addr × Obj)) ++ [] from hp) (by simp)⟩
  have loop : codeAny (model X.prog X.w) X.A (.compLoop (.SetComp elt (⟨tg, iter, ifs, 0⟩ :: rest) scope pos) 0 (.ref it) (.ref D) ce) (compPost (model X.prog X.w) X.A X.xe use Qf (.ref D) s3.heap.objs.size) s4 := by
    refine loop_ok (X := X.blk s3 H3 scope ce fp) (pins := []) hc (heq ce D) (hun ce D) pg pt pb hv rfl T I4 st4 stat q fun s6 H5 I6 qq => ?_
    have I7 : Inv X pins σ H5 s6 := I3.call' (ch := fp) I6.os I6.base I6.hok I6.bare fun b hb => ⟨(f3 b hb).1.2.2.2.1, (f3 b hb).1.2.1, (f3 b hb).1.2.2.2.2.1, (f3 b hb).1.2.2.2.2.2⟩
    have nC : H5 s3.heap.objs.size = none := by
      have z : H5 ce.locals = none := I6.free
      rw [cL] at z
      exact z
    obtain ⟨m, hn, _⟩ := I6.loc
    have hn : s6.heap.Ns ce.locals m := hn
    rw [cL] at hn
    exact hRR D s3.heap.objs.size s6 m H5 I7 qq hn (I3.fpOk (Nat.le_refl _) nC)
  exact PpSet.codeAny_compStart_set loop (T.self X.A 0 _ _ _ st4 loop)
/-- one for -/
theorem pe_sc1 {tg iter : Expr} {ifs : List Expr} {scope : Scope} {own : List (Str × Nat)} {pos : Pos} {wi : TI} {g : TG} {tt : TT} {w : World} (hc : X.calm = true) (hN : X.N.Nodup) (hi : PI X tg iter wi) (ok : BlkOk X.N X.env.scope scope own)
    (hg : ∀ (s : Shared) (H : Hp) (C : Addr) (cl : List (Str × Addr)) (fp : List Addr), PG (X.blk s H scope (compEnvC scope cl C X.env) fp) tg g) (ht : ∀ (s : Shared) (H : Hp) (C : Addr) (cl : List (Str × Addr)) (fp : List Addr), PTs (X.blk s H scope (compEnvC scope cl C X.env) fp) ifs tt)
    (he : ∀ (s : Shared) (H : Hp) (C : Addr) (cl : List (Str × Addr)) (fp : List Addr), PE (X.blk s H scope (compEnvC scope cl C X.env) fp) elt te) (hs : ∀ x, foldedSetIterable iter X.env x = pure x := by intro _; rfl) (hw : X.w = w := by rfl) :
    PE X (.SetComp elt [⟨tg, iter, ifs, 0⟩] scope pos) (tScN w wi g tt (own.map (·.2)) (bAdd w te)) := by
  subst hw
  refine ⟨fun pins s σ H Q I h => ?_⟩
  rw [PpSet.eval_SetComp]
  refine scN_core (BODY := fun D env => addRun elt D env) (vb := []) hc hN I hi ok (fun i z => nomatch z) (fun env D it => by rfl) (fun env D it => by rfl) hg ht (fun D s H C cl fp => body_add rfl (he s H C cl fp) D) hs h fun D C s' m H' I' q hn f => ⟨m, hn, fun h'' sb => ?_⟩
  obtain ⟨f0, f1, f2, f3, f4, f5⟩ := f
  exact ⟨.ref D, H', I'.turned (t' := s'.toks) (fun b o hb e => (sb.2 b hb).trans e) f0 f1 f3 f4 f5, rfl, q⟩
/-- three fors -/
theorem pe_sc3 {tg iter tg1 iter1 tg2 iter2 : Expr} {ifs ifs1 ifs2 : List Expr} {scope : Scope} {own : List (Str × Nat)} {vs1 vs2 : List Nat} {pos : Pos} {wi wi1 wi2 : TI} {g g1 g2 : TG} {tt tt1 tt2 : TT} {w : World} (hc : X.calm = true) (hN : X.N.Nodup) (hi : PI X tg iter wi) (ok : BlkOk X.N X.env.scope scope own)
    (hv : (∀ i ∈ vs1, i ∈ own.map (·.2)) ∧ ∀ i ∈ vs2, i ∈ vs1)
    (hg : ∀ (s : Shared) (H : Hp) (C : Addr) (cl : List (Str × Addr)) (fp : List Addr), PG (X.blk s H scope (compEnvC scope cl C X.env) fp) tg g) (ht : ∀ (s : Shared) (H : Hp) (C : Addr) (cl : List (Str × Addr)) (fp : List Addr), PTs (X.blk s H scope (compEnvC scope cl C X.env) fp) ifs tt)
    (hi1 : ∀ (s : Shared) (H : Hp) (C : Addr) (cl : List (Str × Addr)) (fp : List Addr), PI (X.blk s H scope (compEnvC scope cl C X.env) fp) tg1 iter1 wi1)
    (hg1 : ∀ (s : Shared) (H : Hp) (C : Addr) (cl : List (Str × Addr)) (fp : List Addr), PG (X.blk s H scope (compEnvC scope cl C X.env) fp) tg1 g1) (ht1 : ∀ (s : Shared) (H : Hp) (C : Addr) (cl : List (Str × Addr)) (fp : List Addr), PTs (X.blk s H scope (compEnvC scope cl C X.env) fp) ifs1 tt1)
    (hi2 : ∀ (s : Shared) (H : Hp) (C : Addr) (cl : List (Str × Addr)) (fp : List Addr), PI (X.blk s H scope (compEnvC scope cl C X.env) fp) tg2 iter2 wi2)
    (hg2 : ∀ (s : Shared) (H : Hp) (C : Addr) (cl : List (Str × Addr)) (fp : List Addr), PG (X.blk s H scope (compEnvC scope cl C X.env) fp) tg2 g2) (ht2 : ∀ (s : Shared) (H : Hp) (C : Addr) (cl : List (Str × Addr)) (fp : List Addr), PTs (X.blk s H scope (compEnvC scope cl C X.env) fp) ifs2 tt2)
    (he : ∀ (s : Shared) (H : Hp) (C : Addr) (cl : List (Str × Addr)) (fp : List Addr), PE (X.blk s H scope (compEnvC scope cl C X.env) fp) elt te) (hs : ∀ x, foldedSetIterable iter X.env x = pure x := by intro _; rfl) (hs1 : ∀ env x, foldedSetIterable iter1 env x = pure x := by intro _ _; rfl) (hs2 : ∀ env x, foldedSetIterable iter2 env x = pure x := by intro _ _; rfl) (hw : X.w = w := by rfl) :
    PE X (.SetComp elt [⟨tg, iter, ifs, 0⟩, ⟨tg1, iter1, ifs1, 0⟩, ⟨tg2, iter2, ifs2, 0⟩] scope pos) (tScN w wi g tt (own.map (·.2)) fun D => bFor wi1 g1 tt1 vs1 (bFor wi2 g2 tt2 vs2 (bAdd w te D))) := by
  subst hw
  refine ⟨fun pins s σ H Q I h => ?_⟩
  rw [PpSet.eval_SetComp]
  refine scN_core (BODY := fun D env => innerRun (.SetComp elt [⟨tg, iter, ifs, 0⟩, ⟨tg1, iter1, ifs1, 0⟩, ⟨tg2, iter2, ifs2, 0⟩] scope pos) 1 (.ref D) env iter1) (vb := vs1) hc hN I hi ok hv.1 (fun env D it => by rfl) (fun env D it => by rfl) hg ht (fun D s H C cl fp => ?_) hs h fun D C s' m H' I' q hn f => ⟨m, hn, fun h'' sb => ?_⟩
  · have b2 := body_add (X := X.blk s H scope (compEnvC scope cl C X.env) fp) rfl (he s H C cl fp) D
    have b1 := body_for (X := X.blk s H scope (compEnvC scope cl C X.env) fp) (e := .SetComp elt [⟨tg, iter, ifs, 0⟩, ⟨tg1, iter1, ifs1, 0⟩, ⟨tg2, iter2, ifs2, 0⟩] scope pos) (k := 2) (acc := .ref D) (vs := vs2) hc rfl (fun it => by rfl) (fun it => by rfl) (fun R it s h0 h => compStart_k (by rfl) (by rfl) (by rfl) h0 h) (hi2 s H C cl fp) (hs2 _) (hg2 s H C cl fp) (ht2 s H C cl fp) b2 (fun i z => nomatch z)
    exact body_for (X := X.blk s H scope (compEnvC scope cl C X.env) fp) (e := .SetComp elt [⟨tg, iter, ifs, 0⟩, ⟨tg1, iter1, ifs1, 0⟩, ⟨tg2, iter2, ifs2, 0⟩] scope pos) (k := 1) (acc := .ref D) (vs := vs1) hc rfl (fun it => by rfl) (fun it => by rfl) (fun R it s h0 h => compStart_k (by rfl) (by rfl) (by rfl) h0 h) (hi1 s H C cl fp) (hs1 _) (hg1 s H C cl fp) (ht1 s H C cl fp) b1 hv.2
  obtain ⟨f0, f1, f2, f3, f4, f5⟩ := f
  exact ⟨.ref D, H', I'.turned (t' := s'.toks) (fun b o hb e => (sb.2 b hb).trans e) f0 f1 f3 f4 f5, rfl, q⟩
theorem ps_setSc1 {i : Nat} {y : Str} {py spos : Pos} {tg iter : Expr} {ifs : List Expr} {scope : Scope} {own : List (Str × Nat)} {pos : Pos} {wi : TI} {g : TG} {tt : TT} {w : World} (hc : X.calm = true) (hN : X.N.Nodup) (hy : X.N[i]? = some y) (hyl : X.env.scope.names.lookup y = some .local) (hsw : swapsWith (.SetComp elt [⟨tg, iter, ifs, 0⟩] scope pos) (some (.Name y py)) spos.line X.env = pure true) (hi : PI X tg iter wi) (ok : BlkOk X.N X.env.scope scope own)
    (hg : ∀ (s : Shared) (H : Hp) (C : Addr) (cl : List (Str × Addr)) (fp : List Addr), PG (X.blk s H scope (compEnvC scope cl C X.env) fp) tg g) (ht : ∀ (s : Shared) (H : Hp) (C : Addr) (cl : List (Str × Addr)) (fp : List Addr), PTs (X.blk s H scope (compEnvC scope cl C X.env) fp) ifs tt)
    (he : ∀ (s : Shared) (H : Hp) (C : Addr) (cl : List (Str × Addr)) (fp : List Addr), PE (X.blk s H scope (compEnvC scope cl C X.env) fp) elt te) (hs : ∀ x, foldedSetIterable iter X.env x = pure x := by intro _; rfl) (hw : X.w = w := by rfl) :
    PS X (.Assign [.Name y py] (.SetComp elt [⟨tg, iter, ifs, 0⟩] scope pos) spos) (tAsg (tScN w wi g tt (own.map (·.2)) (bAdd w te)) (gName i)) := by
  subst hw
  refine ⟨fun pins s σ H D I h => ?_⟩
  rw [exec_Assign_Name_used _ _ _ _ hsw]
  refine wpAny_bind (wpAny_standAt (wpAny_bind ?_))
  show wpAny _ X.A (do let _ ← comprehension (.SetComp elt [⟨tg, iter, ifs, 0⟩] scope pos) scope X.env (firstIterPos [⟨tg, iter, ifs, 0⟩] pos) (newSet (.type "set")) false (eval iter X.env) (some (assign (.Name y py) X.env))) _ _ s
  have h : (tScN X.w wi g tt (own.map (·.2)) (bAdd X.w te)) σ H (fun x H1 => gName i x σ H1 D.nx) := h
  refine wpAny_bind (thn (scN_core (Qf := fun _ s' => SP X pins D .next s') (use := some (assign (.Name y py) X.env)) (BODY := fun D env => addRun elt D env) (vb := []) hc hN I hi ok (fun i z => nomatch z) (fun env D it => by rfl) (fun env D it => by rfl) hg ht (fun D s H C cl fp => body_add rfl (he s H C cl fp) D) hs h fun L C s' m H' I' q hn f => ?_) fun _ s' hq => wpAny_pure (wpAny_pure hq))
  show wpAny _ _ (assign (.Name y py) X.env (.ref L)) _ _ _
  refine wpAny_assign_Name (store_ok2 (v := V.ref L) I' hN hy (.inl hyl) rfl (fun s2 I2 ⟨a, sb, ha⟩ => ?_) (.inr hyl))
  obtain ⟨f0, f1, f2, f3, f4, f5⟩ := f
  have haC : C ≠ a := by
    rcases ha with z | z
    · rw [z]; exact f1
    · exact fun e => f4 y a z e.symm
  refine ⟨m, hn.sameBut sb haC, fun h3 sb3 => ?_⟩
  exact ⟨_, H', I2.turned (t' := s2.toks) (fun b o hb e => (sb3.2 b hb).trans e) f0 f1 f3 f4 f5, q⟩
theorem ps_setSc3 {i : Nat} {y : Str} {py spos : Pos} {tg iter tg1 iter1 tg2 iter2 : Expr} {ifs ifs1 ifs2 : List Expr} {scope : Scope} {own : List (Str × Nat)} {vs1 vs2 : List Nat} {pos : Pos} {wi wi1 wi2 : TI} {g g1 g2 : TG} {tt tt1 tt2 : TT} {w : World} (hc : X.calm = true) (hN : X.N.Nodup) (hy : X.N[i]? = some y) (hyl : X.env.scope.names.lookup y = some .local) (hsw : swapsWith (.SetComp elt [⟨tg, iter, ifs, 0⟩, ⟨tg1, iter1, ifs1, 0⟩, ⟨tg2, iter2, ifs2, 0⟩] scope pos) (some (.Name y py)) spos.line X.env = pure true) (hi : PI X tg iter wi) (ok : BlkOk X.N X.env.scope scope own)
    (hv : (∀ i ∈ vs1, i ∈ own.map (·.2)) ∧ ∀ i ∈ vs2, i ∈ vs1)
    (hg : ∀ (s : Shared) (H : Hp) (C : Addr) (cl : List (Str × Addr)) (fp : List Addr), PG (X.blk s H scope (compEnvC scope cl C X.env) fp) tg g) (ht : ∀ (s : Shared) (H : Hp) (C : Addr) (cl : List (Str × Addr)) (fp : List Addr), PTs (X.blk s H scope (compEnvC scope cl C X.env) fp) ifs tt)
    (hi1 : ∀ (s : Shared) (H : Hp) (C : Addr) (cl : List (Str × Addr)) (fp : List Addr), PI (X.blk s H scope (compEnvC scope cl C X.env) fp) tg1 iter1 wi1)
    (hg1 : ∀ (s : Shared) (H : Hp) (C : Addr) (cl : List (Str × Addr)) (fp : List Addr), PG (X.blk s H scope (compEnvC scope cl C X.env) fp) tg1 g1) (ht1 : ∀ (s : Shared) (H : Hp) (C : Addr) (cl : List (Str × Addr)) (fp : List Addr), PTs (X.blk s H scope (compEnvC scope cl C X.env) fp) ifs1 tt1)
    (hi2 : ∀ (s : Shared) (H : Hp) (C : Addr) (cl : List (Str × Addr)) (fp : List Addr), PI (X.blk s H scope (compEnvC scope cl C X.env) fp) tg2 iter2 wi2)
    (hg2 : ∀ (s : Shared) (H : Hp) (C : Addr) (cl : List (Str × Addr)) (fp : List Addr), PG (X.blk s H scope (compEnvC scope cl C X.env) fp) tg2 g2) (ht2 : ∀ (s : Shared) (H : Hp) (C : Addr) (cl : List (Str × Addr)) (fp : List Addr), PTs (X.blk s H scope (compEnvC scope cl C X.env) fp) ifs2 tt2)
    (he : ∀ (s : Shared) (H : Hp) (C : Addr) (cl : List (Str × Addr)) (fp : List Addr), PE (X.blk s H scope (compEnvC scope cl C X.env) fp) elt te) (hs : ∀ x, foldedSetIterable iter X.env x = pure x := by intro _; rfl) (hs1 : ∀ env x, foldedSetIterable iter1 env x = pure x := by intro _ _; rfl) (hs2 : ∀ env x, foldedSetIterable iter2 env x = pure x := by intro _ _; rfl) (hw : X.w = w := by rfl) :
    PS X (.Assign [.Name y py] (.SetComp elt [⟨tg, iter, ifs, 0⟩, ⟨tg1, iter1, ifs1, 0⟩, ⟨tg2, iter2, ifs2, 0⟩] scope pos) spos) (tAsg (tScN w wi g tt (own.map (·.2)) fun D => bFor wi1 g1 tt1 vs1 (bFor wi2 g2 tt2 vs2 (bAdd w te D))) (gName i)) := by
  subst hw
  refine ⟨fun pins s σ H D I h => ?_⟩
  rw [exec_Assign_Name_used _ _ _ _ hsw]
  refine wpAny_bind (wpAny_standAt (wpAny_bind ?_))
  show wpAny _ X.A (do let _ ← comprehension (.SetComp elt [⟨tg, iter, ifs, 0⟩, ⟨tg1, iter1, ifs1, 0⟩, ⟨tg2, iter2, ifs2, 0⟩] scope pos) scope X.env (firstIterPos [⟨tg, iter, ifs, 0⟩, ⟨tg1, iter1, ifs1, 0⟩, ⟨tg2, iter2, ifs2, 0⟩] pos) (newSet (.type "set")) false (eval iter X.env) (some (assign (.Name y py) X.env))) _ _ s
  have h : (tScN X.w wi g tt (own.map (·.2)) fun D => bFor wi1 g1 tt1 vs1 (bFor wi2 g2 tt2 vs2 (bAdd X.w te D))) σ H (fun x H1 => gName i x σ H1 D.nx) := h
  refine wpAny_bind (thn (scN_core (Qf := fun _ s' => SP X pins D .next s') (use := some (assign (.Name y py) X.env)) (BODY := fun D env => innerRun (.SetComp elt [⟨tg, iter, ifs, 0⟩, ⟨tg1, iter1, ifs1, 0⟩, ⟨tg2, iter2, ifs2, 0⟩] scope pos) 1 (.ref D) env iter1) (vb := vs1) hc hN I hi ok hv.1 (fun env D it => by rfl) (fun env D it => by rfl) hg ht (fun D s H C cl fp => ?_) hs h fun L C s' m H' I' q hn f => ?_) fun _ s' hq => wpAny_pure (wpAny_pure hq))
  · have b2 := body_add (X := X.blk s H scope (compEnvC scope cl C X.env) fp) rfl (he s H C cl fp) D
    have b1 := body_for (X := X.blk s H scope (compEnvC scope cl C X.env) fp) (e := .SetComp elt [⟨tg, iter, ifs, 0⟩, ⟨tg1, iter1, ifs1, 0⟩, ⟨tg2, iter2, ifs2, 0⟩] scope pos) (k := 2) (acc := .ref D) (vs := vs2) hc rfl (fun it => by rfl) (fun it => by rfl) (fun R it s h0 h => compStart_k (by rfl) (by rfl) (by rfl) h0 h) (hi2 s H C cl fp) (hs2 _) (hg2 s H C cl fp) (ht2 s H C cl fp) b2 (fun i z => nomatch z)
    exact body_for (X := X.blk s H scope (compEnvC scope cl C X.env) fp) (e := .SetComp elt [⟨tg, iter, ifs, 0⟩, ⟨tg1, iter1, ifs1, 0⟩, ⟨tg2, iter2, ifs2, 0⟩] scope pos) (k := 1) (acc := .ref D) (vs := vs1) hc rfl (fun it => by rfl) (fun it => by rfl) (fun R it s h0 h => compStart_k (by rfl) (by rfl) (by rfl) h0 h) (hi1 s H C cl fp) (hs1 _) (hg1 s H C cl fp) (ht1 s H C cl fp) b1 hv.2
  show wpAny _ _ (assign (.Name y py) X.env (.ref L)) _ _ _
  refine wpAny_assign_Name (store_ok2 (v := V.ref L) I' hN hy (.inl hyl) rfl (fun s2 I2 ⟨a, sb, ha⟩ => ?_) (.inr hyl))
  obtain ⟨f0, f1, f2, f3, f4, f5⟩ := f
  have haC : C ≠ a := by
    rcases ha with z | z
    · rw [z]; exact f1
    · exact fun e => f4 y a z e.symm
  refine ⟨m, hn.sameBut sb haC, fun h3 sb3 => ?_⟩
  exact ⟨_, H', I2.turned (t' := s2.toks) (fun b o hb e => (sb3.2 b hb).trans e) f0 f1 f3 f4 f5, q⟩
theorem sw_trueS {elt : Expr} {gs : List Comprehension} {scope : Scope} {pos py : Pos} {y : Str} {l : Nat} {env : Env} (hk : env.scope.kind = .function) (hy : env.scope.names.lookup y = some .local) (hl : (py.line == pos.line) = true)
    (ha : (scope.names.any fun (n, k) => n == y && (k == .local || k == .cell)) = false) : swapsWith (.SetComp elt gs scope pos) (some (.Name y py)) l env = pure true := by
  have ky : env.kindOf y = some .local := hy
  have hb : env.blockKind = .function := by unfold Env.blockKind; rw [hk]; rfl
  unfold swapsWith
  simp only [hb, ky, ha, Expr.pos, hl]
  rfl
end
/-- a walk over turns, by the heap alone -/
theorem turns_w {J : It} {n : Nat} {G : Hp → Prop} {Y : Nat → Hp → V → Hp → Prop} (w : Walk J n G Y) {g : TG} {tt : TT} {vs : List Nat} {σw : L2.St} {bd : TBd} {Nx : Hp → Prop} {H0 : Hp} (Pv : Nat → Hp → Prop) (h0 : Pv 0 H0) (hG : ∀ i H, i ≤ n → Pv i H → G H)
    (hs : ∀ i x H H', i < n → Pv i H → Y i H x H' → g x σw H' fun σ2 H2 => wipe σ2 vs = σw ∧ tt σ2 H2 fun b H3 => if b = true then bd σ2 H3 (Pv (i + 1)) else Pv (i + 1) H3) (hd : ∀ H, Pv n H → Nx H) : tTurns J g tt vs σw bd Nx H0 := by
  refine ⟨fun i m H => m = n - i ∧ i ≤ n ∧ Pv i H, ⟨n, by simp, Nat.zero_le _, h0⟩, ?_⟩
  rintro i m H ⟨rfl, hi, p⟩
  have q := hG i H hi p
  by_cases hlt : i < n
  · exact .inr ⟨w.goes i H hlt q, Pv (i + 1), fun H' p' => ⟨n - (i + 1), by omega, rfl, hlt, p'⟩, fun x H' y => hs i x H H' hlt p (w.yields i H x H' hlt q y)⟩
  · have e : i = n := by omega
    subst e
    exact .inl ⟨w.stops H q, hd H p⟩
theorem wkx {J : It} {n : Nat} {G : Hp → Prop} {Y : Nat → Hp → V → Hp → Prop} (w : Walk J n G Y) {B : V → Hp → (Hp → Prop) → Prop} {Fin : Hp → Prop} {H0 : Hp} (Pv : Nat → Hp → Prop) (h0 : Pv 0 H0) (hG : ∀ i H, i ≤ n → Pv i H → G H)
    (hs : ∀ i x H H', i < n → Pv i H → Y i H x H' → B x H' (Pv (i + 1))) (hd : ∀ H, Pv n H → Fin H) :
    ∃ W : Nat → Nat → Hp → Prop, (∃ m, W 0 m H0) ∧ ∀ i m H, W i m H → (J.stop i H ∧ Fin H) ∨ (J.go i H ∧ ∃ Nx : Hp → Prop, (∀ H', Nx H' → ∃ m', m' < m ∧ W (i + 1) m' H') ∧ ∀ x H', J.yld i H x H' → B x H' Nx) := by
  refine ⟨fun i m H => m = n - i ∧ i ≤ n ∧ Pv i H, ⟨n, by simp, Nat.zero_le _, h0⟩, ?_⟩
  rintro i m H ⟨rfl, hi, p⟩
  have q := hG i H hi p
  by_cases hlt : i < n
  · exact .inr ⟨w.goes i H hlt q, Pv (i + 1), fun H' p' => ⟨n - (i + 1), by omega, rfl, hlt, p'⟩, fun x H' y => hs i x H H' hlt p (w.yields i H x H' hlt q y)⟩
  · have e : i = n := by omega
    subst e
    exact .inl ⟨w.stops H q, hd H p⟩
end SH
set_option Elab.async false
set_option linter.all false
set_option maxRecDepth 100000
set_option maxHeartbeats 4000000
/-! the ends of a house in their order, their commons -/
namespace SH
open PySem PySem.Spec PyProof.Rows L2
/-- an own loop over anything that is walked -/
theorem walk_gen {J : It} {n : Nat} {G : Hp → Prop} {Y : Nat → Hp → V → Hp → Prop} (w : Walk J n G Y) {Step : (Hp → Prop) → V → Hp → Prop} {H0 : Hp} {Qd : Hp → Prop} (Pv : Nat → Hp → Prop) (h0 : Pv 0 H0) (hG : ∀ i H, i ≤ n → Pv i H → G H)
    (hs : ∀ i x H H', i < n → Pv i H → Y i H x H' → Step (Pv (i + 1)) x H') (hd : ∀ H, Pv n H → Qd H) :
    ∃ W : Nat → Nat → Hp → Prop, (∃ m, W 0 m H0) ∧ ∀ i m H, W i m H →
      (J.stop i H ∧ Qd H) ∨ (J.go i H ∧ ∃ Nx : Hp → Prop, (∀ H', Nx H' → ∃ m', m' < m ∧ W (i + 1) m' H') ∧ ∀ x H', J.yld i H x H' → Step Nx x H') := by
  refine ⟨fun i m H => m = n - i ∧ i ≤ n ∧ Pv i H, ⟨n, by simp, Nat.zero_le _, h0⟩, ?_⟩
  rintro i m H ⟨rfl, hi, p⟩
  have q := hG i H hi p
  by_cases hlt : i < n
  · exact .inr ⟨w.goes i H hlt q, Pv (i + 1), fun H' p' => ⟨n - (i + 1), by omega, rfl, hlt, p'⟩, fun x H' y => hs i x H H' hlt p (w.yields i H x H' hlt q y)⟩
  · have e : i = n := by omega
    subst e
    exact .inl ⟨w.stops H q, hd H p⟩
/-! ### what is left of a text -/
def suf (z : Str) (s : Nat) : Str := cutS z (some (s : Int)) none
theorem suf_tl (z : Str) (s : Nat) : TL.tl (suf z s) = (TL.tl z).drop s := by
  show (z.cps.toList.drop (HT.sIx z.length 0 (some (s : Int)))).take (HT.sIx z.length z.length none - HT.sIx z.length 0 (some (s : Int))) = _
  rw [HT.sIx_nat, HT.sIx_none]
  have hl : z.cps.toList.length = z.length := rfl
  rw [List.take_of_length_le (by rw [List.length_drop, hl]; exact Nat.le_refl _)]
  rcases Nat.le_total s z.length with h | h
  · rw [Nat.min_eq_left h]
  · rw [Nat.min_eq_right h, List.drop_eq_nil_of_le (by omega)]
    exact (List.drop_eq_nil_of_le (by show z.cps.toList.length ≤ s; omega)).symm
theorem suf_len (z : Str) (s : Nat) : (suf z s).length = z.length - s := by
  have := congrArg List.length (suf_tl z s)
  rw [List.length_drop] at this
  exact this
theorem suf_let {z : Str} (h : IsLet z) (s : Nat) : IsLet (suf z s) := by
  show (TL.tl (suf z s)).all okc = true
  rw [suf_tl]
  exact List.all_eq_true.mpr fun c hc => List.all_eq_true.mp h c (List.mem_of_mem_drop hc)
/-! ### the ends -/
def endsOf (q : Int × Str) : List E3 := (List.range (q.2.length + 1)).map fun s => (suf q.2 s, q.1, (s : Int))
def ends3 (h : List (Int × Str)) : List E3 := h.flatMap endsOf
def ordE (h : List (Int × Str)) : List E3 := (ends3 h).mergeSort le3
theorem mem_endsOf {q : Int × Str} {e : E3} : e ∈ endsOf q ↔ ∃ s : Nat, s ≤ q.2.length ∧ e = (suf q.2 s, q.1, (s : Int)) := by
  unfold endsOf
  rw [List.mem_map]
  constructor
  · rintro ⟨s, hs, rfl⟩
    exact ⟨s, by have := List.mem_range.mp hs; omega, rfl⟩
  · rintro ⟨s, hs, rfl⟩
    exact ⟨s, List.mem_range.mpr (by omega), rfl⟩
theorem mem_ends3 {h : List (Int × Str)} {e : E3} : e ∈ ends3 h ↔ ∃ q ∈ h, ∃ s : Nat, s ≤ q.2.length ∧ e = (suf q.2 s, q.1, (s : Int)) := by
  unfold ends3
  rw [List.mem_flatMap]
  constructor
  · rintro ⟨q, hq, he⟩
    exact ⟨q, hq, mem_endsOf.mp he⟩
  · rintro ⟨q, hq, he⟩
    exact ⟨q, hq, mem_endsOf.mpr he⟩
theorem mem_ordE {h : List (Int × Str)} {e : E3} : e ∈ ordE h ↔ e ∈ ends3 h := (List.mergeSort_perm _ _).mem_iff
theorem endsOf_len (q : Int × Str) : (endsOf q).length = q.2.length + 1 := by
  unfold endsOf
  rw [List.length_map, List.length_range]
theorem ends3_len {m : Nat} : ∀ {h : List (Int × Str)}, (∀ q ∈ h, q.2.length ≤ m) → (ends3 h).length ≤ (m + 1) * h.length
  | [], _ => Nat.zero_le _
  | q :: r, a => by
    have e : ends3 (q :: r) = endsOf q ++ ends3 r := rfl
    rw [e, List.length_append, endsOf_len, List.length_cons, Nat.mul_add]
    have := a q (List.mem_cons_self ..)
    have := ends3_len fun x hx => a x (List.mem_cons_of_mem _ hx)
    omega
theorem ordE_len {m : Nat} {h : List (Int × Str)} (a : ∀ q ∈ h, q.2.length ≤ m) : (ordE h).length ≤ (m + 1) * h.length := by
  unfold ordE
  rw [List.length_mergeSort]
  exact ends3_len a
/-! ### commons -/
def comm : List Nat → List Nat → Nat
  | a :: x, b :: y => if a = b then comm x y + 1 else 0
  | _, _ => 0
theorem comm_le : ∀ x y : List Nat, comm x y ≤ x.length ∧ comm x y ≤ y.length
  | [], y => by unfold comm; simp
  | _ :: _, [] => by unfold comm; simp
  | a :: x, b :: y => by
    unfold comm
    have := comm_le x y
    split
    · simp only [List.length_cons]; omega
    · simp
/-- as many as are alike -/
theorem comm_at : ∀ (x y : List Nat) (i : Nat), i < comm x y → x[i]? = y[i]?
  | [], y, i, h => by simp [comm] at h
  | _ :: _, [], i, h => by simp [comm] at h
  | a :: x, b :: y, i, h => by
    unfold comm at h
    by_cases e : a = b
    · rw [if_pos e] at h
      cases i with
      | zero => simp [e]
      | succ i => simpa using comm_at x y i (by omega)
    · rw [if_neg e] at h
      omega
/-- the next ones are not -/
theorem comm_ne : ∀ (x y : List Nat) (c d : Nat), x[comm x y]? = some c → y[comm x y]? = some d → c ≠ d
  | [], y, c, d, h, _ => by simp [comm] at h
  | _ :: _, [], c, d, _, h => by simp [comm] at h
  | a :: x, b :: y, c, d, h, h2 => by
    unfold comm at h h2
    by_cases e : a = b
    · rw [if_pos e] at h h2
      exact comm_ne x y c d (by simpa using h) (by simpa using h2)
    · rw [if_neg e] at h h2
      simp at h h2
      rw [← h, ← h2]
      exact e
/-- so is the number told by these two -/
theorem comm_of {x y : List Nat} {n : Nat} (h1 : n ≤ x.length) (h2 : n ≤ y.length) (ha : ∀ i, i < n → x[i]? = y[i]?) (hn : n = x.length ∨ n = y.length ∨ x[n]? ≠ y[n]?) : comm x y = n := by
  have l := comm_le x y
  rcases Nat.lt_trichotomy (comm x y) n with h | h | h
  · exfalso
    have e1 : x[comm x y]? = some (x[comm x y]'(by omega)) := List.getElem?_eq_getElem (by omega)
    have e2 : y[comm x y]? = some (y[comm x y]'(by omega)) := List.getElem?_eq_getElem (by omega)
    have := ha _ h
    rw [e1, e2] at this
    exact comm_ne x y _ _ e1 e2 (Option.some.inj this)
  · exact h
  · exfalso
    rcases hn with e | e | e
    · omega
    · omega
    · exact e (comm_at x y n h)
def letsAt (E : List E3) (k : Nat) : List Nat := ((E[k]?).map fun e => TL.tl e.1).getD []
/-- the common of the k-th and the next -/
def cmAt (E : List E3) (k : Nat) : Int := (comm (letsAt E k) (letsAt E (k + 1)) : Nat)
def cmsE (E : List E3) : List Int := (List.range E.length).map fun k => if k = 0 then 0 else cmAt E (k - 1)
theorem cmsE_cons {E : List E3} {n : Nat} (h : E.length = n + 1) : cmsE E = 0 :: (List.range n).map (cmAt E) := by
  unfold cmsE
  rw [h, List.range_succ_eq_map, List.map_cons, List.map_map]
  rfl
theorem cmsE_len (E : List E3) : (cmsE E).length = E.length := by
  unfold cmsE
  rw [List.length_map, List.length_range]
theorem letsAt_eq {E : List E3} {k : Nat} {e : E3} (h : E[k]? = some e) : letsAt E k = TL.tl e.1 := by
  unfold letsAt
  rw [h]
  rfl
/-! ### places in the heap -/
abbrev QT := List (Addr × Int × Int)
def qrefs (R : QT) : List V := R.map fun q => V.ref q.1
def QAt (K : PySem.W.Frag) (H : Hp) (R : QT) : Prop := ∀ q ∈ R, SqT K H q.1 [.int q.2.1, .int q.2.2]
theorem QAt.same {K : PySem.W.Frag} {H H' : Hp} {R : QT} (e : Same H H') (h : QAt K H R) : QAt K H' R := fun q hq => same_tup e (h q hq)
theorem qrefs_len (R : QT) : (qrefs R).length = R.length := List.length_map ..
theorem qrefs_at {R : QT} {i : Nat} {x : V} (h : (qrefs R)[i]? = some x) : ∃ t, R[i]? = some t ∧ t ∈ R ∧ x = .ref t.1 := by
  unfold qrefs at h
  rw [List.getElem?_map] at h
  cases e : R[i]? with
  | none => rw [e] at h; cases h
  | some t =>
    rw [e] at h
    cases h
    exact ⟨t, rfl, List.mem_of_getElem? e, rfl⟩
def dP2 (q : Int × Int) : PyData := .tuple [.int q.1, .int q.2]
def dQ (l : List (Int × Int)) : PyData := .list (l.map dP2)
theorem dp_qs {K : PySem.W.Frag} {H : Hp} : ∀ (R : QT), QAt K H R → DpAll K H (qrefs R) ((R.map (·.2)).map dP2)
  | [], _ => .nil
  | q :: r, h => .cons (.tup (h q (List.mem_cons_self ..)) (.cons (.int _) (.cons (.int _) .nil))) (dp_qs r fun x m => h x (List.mem_cons_of_mem _ m))
theorem dp_q {K : PySem.W.Frag} {H : Hp} {a : Addr} {R : QT} (h : SqL K H a (qrefs R)) (hq : QAt K H R) : Dp K H (.ref a) (dQ (R.map (·.2))) := .lst h (dp_qs R hq)
theorem dQ_lay : ∀ (l : List (Int × Int)), PyData.canLayAll0 (l.map dP2) = true
  | [] => rfl
  | q :: r => by
    rw [List.map_cons, PyData.canLayAll0, dQ_lay r]
    simp [dP2, PyData.canLay0, PyData.canLayAll0]
theorem dQ_deep : ∀ (l : List (Int × Int)), PyData.depthAll (l.map dP2) ≤ 1
  | [] => Nat.zero_le _
  | q :: r => by
    rw [List.map_cons, PyData.depthAll]
    have := dQ_deep r
    have e : PyData.depth (dP2 q) = 1 := rfl
    rw [e]
    omega
theorem shaped_of {d : PyData} (h : d.canLay0 = true) (h2 : d.depth ≤ 64) : SeqAt.shaped d = true := by
  unfold SeqAt.shaped
  rw [h, decide_eq_true h2]
  rfl
theorem dQ_shaped (l : List (Int × Int)) : SeqAt.shaped (dQ l) = true := shaped_of (dQ_lay l) (by
  show PyData.depthAll (l.map dP2) + 1 ≤ 64
  have := dQ_deep l
  omega)
theorem dQ_refl (l : List (Int × Int)) : PyData.eqv (dQ l) (dQ l) = true := SeqAt.eqv_refl _ (show (dQ l).canLay0 = true from dQ_lay l)
/-! lists of numbers as data -/
def dI (l : List Int) : PyData := .list (l.map .int)
theorem dp_is {K : PySem.W.Frag} {H : Hp} : ∀ (l : List Int), DpAll K H (l.map V.int) (l.map PyData.int)
  | [] => .nil
  | _ :: r => .cons (.int _) (dp_is r)
theorem dp_i {K : PySem.W.Frag} {H : Hp} {a : Addr} {l : List Int} (h : SqL K H a (l.map V.int)) : Dp K H (.ref a) (dI l) := .lst h (dp_is l)
theorem dI_lay : ∀ (l : List Int), PyData.canLayAll0 (l.map PyData.int) = true
  | [] => rfl
  | q :: r => by
    rw [List.map_cons, PyData.canLayAll0, dI_lay r]
    simp [PyData.canLay0]
theorem dI_shaped (l : List Int) : SeqAt.shaped (dI l) = true := shaped_of (dI_lay l) (by
  show PyData.depthAll (l.map PyData.int) + 1 ≤ 64
  rw [PySem.W.depth_ints]
  decide)
theorem dI_refl (l : List Int) : PyData.eqv (dI l) (dI l) = true := SeqAt.eqv_refl _ (show (dI l).canLay0 = true from dI_lay l)
/-! ### triples in the heap, flat and nested -/
abbrev FT := List (Addr × E3)
def frefs (Z : FT) : List V := Z.map fun z => V.ref z.1
def FAt (H : Hp) (Z : FT) : Prop := ∀ z ∈ Z, H z.1 = some (.tup [.str z.2.1, .int z.2.2.1, .int z.2.2.2])
abbrev NT3 := List (Addr × Addr × E3)
def nrefs (Z : NT3) : List V := Z.map fun z => V.ref z.1
def NAt (H : Hp) (Z : NT3) : Prop := ∀ z ∈ Z, H z.1 = some (.tup [.str z.2.2.1, .ref z.2.1]) ∧ H z.2.1 = some (.tup [.int z.2.2.2.1, .int z.2.2.2.2])
theorem FAt.same {H H' : Hp} {Z : FT} (e : Same H H') (h : FAt H Z) : FAt H' Z := fun z m => e _ _ (h z m)
theorem NAt.same {H H' : Hp} {Z : NT3} (e : Same H H') (h : NAt H Z) : NAt H' Z := fun z m => ⟨e _ _ (h z m).1, e _ _ (h z m).2⟩
theorem FAt.snoc {H : Hp} {Z : FT} {z : Addr × E3} (h : FAt H Z) (hz : H z.1 = some (.tup [.str z.2.1, .int z.2.2.1, .int z.2.2.2])) : FAt H (Z ++ [z]) := fun y hy => by
  rcases List.mem_append.mp hy with m | m
  · exact h y m
  · rw [List.mem_singleton.mp m]; exact hz
theorem NAt.snoc {H : Hp} {Z : NT3} {z : Addr × Addr × E3} (h : NAt H Z) (hz : H z.1 = some (.tup [.str z.2.2.1, .ref z.2.1]) ∧ H z.2.1 = some (.tup [.int z.2.2.2.1, .int z.2.2.2.2])) : NAt H (Z ++ [z]) := fun y hy => by
  rcases List.mem_append.mp hy with m | m
  · exact h y m
  · rw [List.mem_singleton.mp m]; exact hz
/-- a list that is written lies apart from what the tuples are -/
theorem FAt.put {H : Hp} {Z : FT} {D : Addr} {l : List V} {o : HO} (h : FAt H Z) (hD : H D = some (.lst l)) : FAt (upd H D o) Z := fun z m => by
  have := h z m
  rw [upd_ne (fun e => by rw [e, hD] at this; cases this)]
  exact this
theorem NAt.put {H : Hp} {Z : NT3} {D : Addr} {l : List V} {o : HO} (h : NAt H Z) (hD : H D = some (.lst l)) : NAt (upd H D o) Z := fun z m => by
  have := h z m
  rw [upd_ne (fun e => by rw [e, hD] at this; cases this.1), upd_ne (fun e => by rw [e, hD] at this; cases this.2)]
  exact this
theorem QAt.put {K : PySem.W.Frag} {H : Hp} {R : QT} {D : Addr} {l : List V} {o : HO} (h : QAt K H R) (hD : H D = some (.lst l)) : QAt K (upd H D o) R := fun z m => but_tup (l := l) hD but_upd (h z m)
theorem sort_flat (Z : FT) : ((Z.map fun z => (V.ref z.1, z.2)).mergeSort (PySem.W.dataLe false fun z => eFlat z.2)).map (·.1) = frefs (Z.mergeSort fun p q => le3 p.2 q.2) := by
  rw [flat_le (β := V × E3) (fun z => z.2), ← List.map_mergeSort (l := Z) (f := fun z : Addr × E3 => (V.ref z.1, z.2)) (r := fun p q : Addr × E3 => le3 p.2 q.2) (s := fun p q : V × E3 => le3 p.2 q.2) (fun _ _ _ _ => rfl), List.map_map]
  rfl
theorem sort_nest (Z : NT3) : ((Z.map fun z => (V.ref z.1, z.2.2)).mergeSort (PySem.W.dataLe false fun z => eNest z.2)).map (·.1) = nrefs (Z.mergeSort fun p q => le3 p.2.2 q.2.2) := by
  rw [nest_le (β := V × E3) (fun z => z.2), ← List.map_mergeSort (l := Z) (f := fun z : Addr × Addr × E3 => (V.ref z.1, z.2.2)) (r := fun p q : Addr × Addr × E3 => le3 p.2.2 q.2.2) (s := fun p q : V × E3 => le3 p.2 q.2) (fun _ _ _ _ => rfl), List.map_map]
  rfl
theorem ends3_snoc (h : List (Int × Str)) (q : Int × Str) : ends3 (h ++ [q]) = ends3 h ++ endsOf q := by
  unfold ends3
  rw [List.flatMap_append]
  simp
theorem take_snoc {α : Type} {l : List α} {i : Nat} {x : α} (h : l[i]? = some x) : l.take (i + 1) = l.take i ++ [x] := by
  rw [List.take_add_one, h]
  rfl
theorem endsOf_at {q : Int × Str} {s : Nat} (h : s ≤ q.2.length) : (endsOf q)[s]? = some (suf q.2 s, q.1, (s : Int)) := by
  unfold endsOf
  rw [List.getElem?_map, List.getElem?_range (by omega)]
  rfl
/-- the order: a new list of new pairs -/
def spOrder (K : PySem.W.Frag) : Sp := fun vs H Q _ => ∃ (a : Addr) (L : PL), vs = [.ref a] ∧ HsAt K H a L ∧ L.length ≤ 500 ∧ (∀ q ∈ L, q.2.2.length ≤ 100) ∧
  ∀ (l : Addr) (R : QT) (H' : Hp), Same H H' → H l = none → H' l = some (.lst (qrefs R)) → QAt K H' R → R.map (·.2) = (ordE (L.map (·.2))).map (·.2) → Q (.ref l) H'
end SH
set_option Elab.async false
set_option linter.all false
set_option maxRecDepth 100000
set_option maxHeartbeats 4000000
/-! a house as a dict; slices of lists -/
namespace SH
open PySem PySem.Spec PyProof.Rows L2
namespace Dct
theorem valV_merge_out {k : Key} : ∀ (more acc : List (Key × V)), k ∉ more.map (·.1) → valV (mergeK acc more) k = valV acc k
  | [], _, _ => rfl
  | x :: r, acc, h => by
    rw [List.map_cons, List.mem_cons] at h
    show valV (mergeK (putK acc x.1 x.2) r) k = _
    rw [valV_merge_out r _ (fun z => h (.inr z)), valV_put, if_neg (fun z => h (.inl z))]
theorem valV_merge_in {k : Key} {v : V} : ∀ (more acc : List (Key × V)), (more.map (·.1)).Nodup → (k, v) ∈ more → valV (mergeK acc more) k = some v
  | x :: r, acc, nd, h => by
    rw [List.map_cons, List.nodup_cons] at nd
    show valV (mergeK (putK acc x.1 x.2) r) k = _
    rcases List.mem_cons.mp h with e | m
    · rw [← e] at nd ⊢
      rw [valV_merge_out r _ nd.1, valV_put, if_pos rfl]
    · exact valV_merge_in r _ nd.2 m
theorem take_drop_cut {z : Str} {a b : Nat} (h1 : a ≤ b) (h2 : b ≤ z.length) : TL.tl (cutS z (some (a : Int)) (some (b : Int))) = ((TL.tl z).take b).drop a := by
  show (z.cps.toList.drop (HT.sIx z.length 0 (some (a : Int)))).take (HT.sIx z.length z.length (some (b : Int)) - HT.sIx z.length 0 (some (a : Int))) = _
  rw [HT.sIx_nat, HT.sIx_nat, Nat.min_eq_left h2, Nat.min_eq_left (Nat.le_trans h1 h2), List.drop_take]
theorem paired_house {K : PySem.W.Frag} {H : Hp} : ∀ {L : PL}, PairsAt K H L → Paired (fun p (kv : Key × V) => SqT K H p [kV kv.1, kv.2]) (L.map (·.1)) (L.map fun q => ((Sum.inl q.2.1 : Key), V.str q.2.2))
  | [], _ => .nil
  | q :: r, h => .cons (h q (List.mem_cons_self ..)) (paired_house fun x m => h x (List.mem_cons_of_mem _ m))

theorem house_get {L : PL} (asc : ((L.map (·.2)).map (·.1)).Pairwise (· < ·)) {n : Int} {z : Str} (h : (n, z) ∈ L.map (·.2)) : valV (mergeK [] (L.map fun q => ((Sum.inl q.2.1 : Key), V.str q.2.2))) (.inl n) = some (.str z) := by
  obtain ⟨q, hq, e⟩ := List.mem_map.mp h
  have e1 : q.2.1 = n := congrArg Prod.fst e
  have e2 : q.2.2 = z := congrArg Prod.snd e
  subst e1 e2
  refine valV_merge_in _ _ ?_ (List.mem_map.mpr ⟨q, hq, rfl⟩)
  rw [List.map_map]
  rw [List.map_map, List.pairwise_map] at asc
  rw [List.Nodup, List.pairwise_map]
  exact asc.imp fun h e => by
    have h : _ < _ := h
    have := Sum.inl.inj e
    simp only [Function.comp] at h
    omega
theorem cut_from (xs : List V) (k : Nat) : cutV xs (some (k : Int)) none = xs.drop k := by
  unfold cutV
  rw [HT.sIx_nat, HT.sIx_none]
  rcases Nat.le_total k xs.length with h | h
  · rw [Nat.min_eq_left h, List.take_of_length_le (by rw [List.length_drop]; exact Nat.le_refl _)]
  · rw [Nat.min_eq_right h, Nat.sub_self, List.take_zero, List.drop_eq_nil_of_le h]
end Dct
end SH
set_option Elab.async false
set_option linter.all false
set_option maxRecDepth 100000
set_option maxHeartbeats 4000000
/-! the text with a number; an end told by its number and start -/
namespace SH
open PySem PySem.Spec PyProof.Rows L2
theorem refs_len (L : PL) : (refs L).length = L.length := List.length_map ..
def lk (n : Int) : List (Int × Str) → Option Str
  | [] => none
  | q :: r => if q.1 = n then some q.2 else lk n r
theorem lk_mem {n : Int} {z : Str} : ∀ {h : List (Int × Str)}, lk n h = some z → (n, z) ∈ h
  | q :: r, e => by
    unfold lk at e
    by_cases c : q.1 = n
    · rw [if_pos c] at e
      have e := Option.some.inj e
      obtain ⟨a, b⟩ := q
      subst c e
      exact List.mem_cons_self ..
    · rw [if_neg c] at e
      exact List.mem_cons_of_mem _ (lk_mem e)
theorem lk_none {n : Int} : ∀ {h : List (Int × Str)}, lk n h = none → n ∉ h.map (·.1)
  | [], _ => by simp
  | q :: r, e => by
    unfold lk at e
    by_cases c : q.1 = n
    · rw [if_pos c] at e
      cases e
    · rw [if_neg c] at e
      rw [List.map_cons, List.mem_cons, not_or]
      exact ⟨fun z => c z.symm, lk_none e⟩
theorem lk_of {n : Int} {z : Str} : ∀ {h : List (Int × Str)}, (h.map (·.1)).Pairwise (· < ·) → (n, z) ∈ h → lk n h = some z
  | q :: r, asc, m => by
    rw [List.map_cons, List.pairwise_cons] at asc
    unfold lk
    rcases List.mem_cons.mp m with e | m
    · rw [← e, if_pos rfl]
    · have := asc.1 n (List.mem_map.mpr ⟨_, m, rfl⟩)
      rw [if_neg (by omega)]
      exact lk_of asc.2 m
theorem lk_no {n : Int} {h : List (Int × Str)} (m : n ∉ h.map (·.1)) : lk n h = none := by
  cases e : lk n h with
  | none => rfl
  | some z => exact absurd (List.mem_map.mpr ⟨_, lk_mem e, rfl⟩) m
/-- dict(house) at a number -/
theorem lk_val {L : PL} (asc : ((L.map (·.2)).map (·.1)).Pairwise (· < ·)) (n : Int) : valV (mergeK [] (L.map fun q => ((Sum.inl q.2.1 : Key), V.str q.2.2))) (.inl n) = (lk n (L.map (·.2))).map V.str := by
  cases e : lk n (L.map (·.2)) with
  | some z => exact Dct.house_get asc (lk_mem e)
  | none =>
    rw [Dct.valV_merge_out _ _ (fun z => ?_)]
    · rfl
    · rw [List.map_map] at z
      obtain ⟨q, hq, e2⟩ := List.mem_map.mp z
      refine lk_none e ?_
      rw [List.map_map]
      exact List.mem_map.mpr ⟨q, hq, Sum.inl.inj e2⟩
/-- the letters of an end -/
def endS (h : List (Int × Str)) (n s : Int) : Option Str :=
  match lk n h with
  | none => none
  | some z => if 0 ≤ s ∧ s ≤ (z.length : Int) then some (suf z s.toNat) else none
theorem endS_some {h : List (Int × Str)} {n s : Int} {x : Str} (e : endS h n s = some x) : ∃ z, lk n h = some z ∧ 0 ≤ s ∧ s ≤ (z.length : Int) ∧ x = suf z s.toNat := by
  unfold endS at e
  cases c : lk n h with
  | none => rw [c] at e; cases e
  | some z =>
    rw [c] at e
    by_cases d : 0 ≤ s ∧ s ≤ (z.length : Int)
    · have e : (if 0 ≤ s ∧ s ≤ (z.length : Int) then some (suf z s.toNat) else none) = some x := e
      rw [if_pos d] at e
      exact ⟨z, rfl, d.1, d.2, (Option.some.inj e).symm⟩
    · have e : (if 0 ≤ s ∧ s ≤ (z.length : Int) then some (suf z s.toNat) else none) = some x := e
      rw [if_neg d] at e
      cases e
theorem endS_of {h : List (Int × Str)} {n s : Int} {z : Str} (e : lk n h = some z) (d : 0 ≤ s ∧ s ≤ (z.length : Int)) : endS h n s = some (suf z s.toNat) := by
  unfold endS
  rw [e]
  exact if_pos d
theorem endS_out {h : List (Int × Str)} {n s : Int} {z : Str} (e : lk n h = some z) (d : ¬ (0 ≤ s ∧ s ≤ (z.length : Int))) : endS h n s = none := by
  unfold endS
  rw [e]
  exact if_neg d
theorem endS_no {h : List (Int × Str)} {n s : Int} (e : lk n h = none) : endS h n s = none := by
  unfold endS
  rw [e]
/-- an error of the class at C with this number leaves -/
def Errs (E : XK) (H : Hp) (C : Addr) (n : Int) : Prop := ∀ (d : Addr) (H2 : Hp), Same H H2 → H d = none → H2 d = some (.xd [(("at" : Str), .int n)]) → E (.ref C) (some d) H2
theorem Errs.same {E : XK} {H H' : Hp} {C : Addr} {n : Int} (s : Same H H') (h : Errs E H C n) : Errs E H' C n := fun d H2 s2 nd e => h d H2 (s.trans s2) (s.free nd) e
end SH
set_option Elab.async false
set_option linter.all false
set_option maxRecDepth 100000
set_option maxHeartbeats 4000000
/-! ends by what they begin with; a while with its own invariant -/
namespace SH
open PySem PySem.Spec PyProof.Rows L2
theorem while_i {c : TT} {tb : TS} {D : Ends} {σ : L2.St} {H : Hp} (W : Nat → L2.St → Hp → Prop) {m : Nat} (h0 : W m σ H)
    (hs : ∀ m σ H, W m σ H → c σ H fun b H1 => if b = true then tb { D with nx := fun σ' H' => ∃ m', m' < m ∧ W m' σ' H', ct := fun σ' H' => ∃ m', m' < m ∧ W m' σ' H', bk := D.nx } σ H1 else D.nx σ H1)
    (mono : ∀ σ H Q Q', (∀ b H1, Q b H1 → Q' b H1) → c σ H Q → c σ H Q') : tWhile c tb D σ H := by
  refine ⟨W, ⟨m, h0⟩, fun m σ H w => mono σ H _ _ (fun b H1 q => ?_) (hs m σ H w)⟩
  cases b with
  | true => exact ⟨_, fun σ' H' x => x, q⟩
  | false => exact q
theorem cut_mid {z : Str} {s n : Nat} (hs : s ≤ z.length) : TL.tl (cutS z (some (s : Int)) (some ((s : Int) + (n : Int)))) = ((TL.tl z).drop s).take n := by
  have e : ((s : Int) + (n : Int)) = ((s + n : Nat) : Int) := by omega
  rw [e]
  show (z.cps.toList.drop (HT.sIx z.length 0 (some (s : Int)))).take (HT.sIx z.length z.length (some ((s + n : Nat) : Int)) - HT.sIx z.length 0 (some (s : Int))) = _
  rw [HT.sIx_nat, HT.sIx_nat, Nat.min_eq_left hs]
  have hl : z.cps.toList.length = z.length := rfl
  rcases Nat.le_total (s + n) z.length with h | h
  · rw [Nat.min_eq_left h, Nat.add_sub_cancel_left]
  · rw [Nat.min_eq_right h, List.take_of_length_le (by rw [List.length_drop, hl]; exact Nat.le_refl _)]
    exact (List.take_of_length_le (by rw [List.length_drop]; show z.length - s ≤ n; omega)).symm
/-! ### the order of lists of signs -/
theorem nl_take : ∀ (n : Nat) (x y : List Nat), ¬ y < x → ¬ y.take n < x.take n
  | 0, _, _, _ => by simp
  | n + 1, [], y, _ => by simp
  | n + 1, a :: x, [], h => absurd (List.Lex.nil : ([] : List Nat) < a :: x) h
  | n + 1, a :: x, b :: y, h => by
    rw [List.take_succ_cons, List.take_succ_cons]
    intro z
    rw [List.cons_lt_cons_iff] at z h
    rcases z with z | ⟨e, z⟩
    · exact h (.inl z)
    · exact nl_take n x y (fun q => h (.inr ⟨e, q⟩)) z
/-- cut to a word's length it is less just where it is -/
theorem take_lt : ∀ (w x : List Nat), x.take w.length < w ↔ x < w
  | [], x => by simp
  | b :: w, [] => by simp
  | b :: w, a :: x => by
    rw [List.length_cons, List.take_succ_cons, List.cons_lt_cons_iff, List.cons_lt_cons_iff, take_lt w x]
theorem take_eq_not_lt {w x : List Nat} (h : x.take w.length = w) : ¬ x < w := fun z => by
  have := (take_lt w x).mpr z
  rw [h] at this
  exact List.lt_irrefl _ this
theorem le3_letters {p q : E3} (h : le3 p q = true) : ¬ TL.tl q.1 < TL.tl p.1 := fun z => by
  unfold le3 at h
  simp only [Bool.not_eq_true', decide_eq_false_iff_not] at h
  exact h (.inl z)
/-- less than all that begin with the word, or beginning with it -/
def prW (w : Str) (b : Bool) (e : E3) : Bool := decide (TL.tl e.1 < TL.tl w) || (b && decide ((TL.tl e.1).take w.length = TL.tl w))
theorem prW_mono {w : Str} {b : Bool} {p q : E3} (h : le3 p q = true) (hq : prW w b q = true) : prW w b p = true := by
  unfold prW at *
  have n := le3_letters h
  have nt := nl_take w.length _ _ n
  rw [Bool.or_eq_true, decide_eq_true_eq] at hq ⊢
  rcases hq with hq | hq
  · refine .inl ?_
    rcases List.le_iff_lt_or_eq.mp (List.not_lt.mp n) with c | c
    · exact List.lt_trans c hq
    · rw [c]; exact hq
  · rw [Bool.and_eq_true, decide_eq_true_eq] at hq
    obtain ⟨rfl, e⟩ := hq
    rw [e] at nt
    rcases List.le_iff_lt_or_eq.mp (List.not_lt.mp nt) with c | c
    · exact .inl ((take_lt _ _).mp c)
    · refine .inr ?_
      rw [Bool.true_and, decide_eq_true_eq]
      exact c
theorem filter_cut {α : Type} {E : List α} {p : α → Bool} {n : Nat} (h1 : ∀ (i : Nat) (h : i < E.length), i < n → p E[i] = true) (h2 : ∀ (i : Nat) (h : i < E.length), n ≤ i → p E[i] = false) : E.filter p = E.take n := by
  conv => lhs; rw [← List.take_append_drop n E]
  rw [List.filter_append]
  have a : (E.take n).filter p = E.take n := List.filter_eq_self.mpr fun x hx => by
    obtain ⟨i, hi, rfl⟩ := List.getElem_of_mem hx
    rw [List.length_take] at hi
    rw [List.getElem_take]
    exact h1 i (by omega) (by omega)
  have b : (E.drop n).filter p = [] := List.filter_eq_nil_iff.mpr fun x hx => by
    obtain ⟨i, hi, rfl⟩ := List.getElem_of_mem hx
    rw [List.length_drop] at hi
    rw [List.getElem_drop, h2 (n + i) (by omega) (by omega)]
    exact Bool.false_ne_true
  rw [a, b, List.append_nil]
theorem filter_or_len {α : Type} {p q : α → Bool} : ∀ {E : List α}, (∀ x ∈ E, ¬ (p x = true ∧ q x = true)) → (E.filter fun x => p x || q x).length = (E.filter p).length + (E.filter q).length
  | [], _ => rfl
  | x :: E, h => by
    have ih := filter_or_len (p := p) (q := q) (E := E) fun y hy => h y (List.mem_cons_of_mem _ hy)
    have hx := h x (List.mem_cons_self ..)
    cases a : p x <;> cases b : q x
    · rw [List.filter_cons_of_neg (by rw [a, b]; decide), List.filter_cons_of_neg (by rw [a]; decide), List.filter_cons_of_neg (by rw [b]; decide), ih]
    · rw [List.filter_cons_of_pos (by rw [a, b]; decide), List.filter_cons_of_neg (by rw [a]; decide), List.filter_cons_of_pos (by rw [b]), List.length_cons, List.length_cons, ih]
      omega
    · rw [List.filter_cons_of_pos (by rw [a, b]; decide), List.filter_cons_of_pos (by rw [a]), List.filter_cons_of_neg (by rw [b]; decide), List.length_cons, List.length_cons, ih]
      omega
    · exact absurd ⟨a, b⟩ hx
/-- the range of a word: from this index .. -/
def rFirst (w : Str) (E : List E3) : Nat := (E.filter fun e => decide (TL.tl e.1 < TL.tl w)).length
/-- .. so many -/
def rMany (w : Str) (E : List E3) : Nat := (E.filter fun e => decide ((TL.tl e.1).take w.length = TL.tl w)).length
theorem prW_f (w : Str) (E : List E3) : (E.filter (prW w false)).length = rFirst w E := by
  unfold rFirst
  congr 2
  funext e
  unfold prW
  simp
theorem prW_t (w : Str) (E : List E3) : (E.filter (prW w true)).length = rFirst w E + rMany w E := by
  unfold rFirst rMany
  rw [← filter_or_len (E := E) fun e _ h => ?_]
  · rfl
  · rw [decide_eq_true_eq, decide_eq_true_eq] at h
    exact take_eq_not_lt h.2 h.1
theorem ordE_pw (h : List (Int × Str)) : (ordE h).Pairwise (fun p q => le3 p q = true) := sort3_pw _
theorem pw_at {α : Type} {r : α → α → Prop} {E : List α} (h : E.Pairwise r) (hr : ∀ x, r x x) {i j : Nat} (hi : i < E.length) (hj : j < E.length) (l : i ≤ j) : r E[i] E[j] := by
  rcases Nat.lt_or_ge i j with c | c
  · exact List.pairwise_iff_getElem.mp h i j hi hj c
  · have : i = j := by omega
    subst this
    exact hr _
theorem le3_refl (p : E3) : le3 p p = true := by
  unfold le3
  rw [decide_eq_false (lex3_irrefl p)]
  rfl
end SH
set_option Elab.async false
set_option linter.all false
set_option maxRecDepth 100000
set_option maxHeartbeats 4000000
/-! tuples of data -/
namespace SH
open PySem PySem.Spec PyProof.Rows L2
def Okd (d : PyData) : Prop := d.canLay0 = true ∧ d.depth ≤ 60
theorem okd_int (n : Int) : Okd (.int n) := ⟨rfl, Nat.zero_le _⟩
theorem okd_str {z : Str} (h : PyData.strOk z = true) : Okd (.str z) := ⟨h, Nat.zero_le _⟩
theorem okd_non : Okd .none := ⟨rfl, Nat.zero_le _⟩
theorem okd_bool (b : Bool) : Okd (.bool b) := ⟨rfl, Nat.zero_le _⟩
theorem okd_H {h : List (Int × Str)} (a : LetAll h) : Okd (dH h) := ⟨dH_lay a, dH_depth h⟩
theorem okd_Q (l : List (Int × Int)) : Okd (dQ l) := ⟨dQ_lay l, by show PyData.depthAll (l.map dP2) + 1 ≤ 60; have := dQ_deep l; omega⟩
theorem okd_I (l : List Int) : Okd (dI l) := ⟨dI_lay l, by show PyData.depthAll (l.map PyData.int) + 1 ≤ 60; rw [PySem.W.depth_ints]; decide⟩
theorem okd_P2 (q : Int × Int) : Okd (dP2 q) := ⟨rfl, by show 1 ≤ 60; decide⟩
/-- data are equal to themselves -/
theorem okd_sh {d : PyData} (h : Okd d) : SeqAt.shaped d = true ∧ PyData.eqv d d = true := ⟨shaped_of h.1 (by have := h.2; omega), SeqAt.eqv_refl _ h.1⟩
theorem dp_p2 {K : PySem.W.Frag} {H : Hp} {t : Addr} {n m : Int} (h : H t = some (.tup [.int n, .int m])) : Dp K H (.ref t) (dP2 (n, m)) := .tup (.inl (.inl h)) (.cons (.int _) (.cons (.int _) .nil))
theorem lay_all : ∀ {ds : List PyData}, (∀ d ∈ ds, d.canLay0 = true) → PyData.canLayAll0 ds = true
  | [], _ => rfl
  | d :: r, h => by
    rw [PyData.canLayAll0, h d (List.mem_cons_self ..), lay_all fun x m => h x (List.mem_cons_of_mem _ m)]
    rfl
theorem deep_all {n : Nat} : ∀ {ds : List PyData}, (∀ d ∈ ds, d.depth ≤ n) → PyData.depthAll ds ≤ n
  | [], _ => Nat.zero_le _
  | d :: r, h => by
    rw [PyData.depthAll]
    have := h d (List.mem_cons_self ..)
    have := deep_all fun x m => h x (List.mem_cons_of_mem _ m)
    omega
theorem okd_tup {ds : List PyData} (h : ∀ d ∈ ds, d.canLay0 = true) (h2 : ∀ d ∈ ds, d.depth ≤ 59) : Okd (.tuple ds) := ⟨lay_all h, by
  show PyData.depthAll ds + 1 ≤ 60
  have := deep_all h2
  omega⟩
theorem okd_list {ds : List PyData} (h : ∀ d ∈ ds, d.canLay0 = true) (h2 : ∀ d ∈ ds, d.depth ≤ 59) : Okd (.list ds) := ⟨lay_all h, by
  show PyData.depthAll ds + 1 ≤ 60
  have := deep_all h2
  omega⟩
theorem dH_d (h : List (Int × Str)) : (dH h).depth ≤ 2 := by
  show PyData.depthAll (h.map dPair) + 1 ≤ 2
  have := dH_deep h
  omega
theorem dQ_d (l : List (Int × Int)) : (dQ l).depth ≤ 2 := by
  show PyData.depthAll (l.map dP2) + 1 ≤ 2
  have := dQ_deep l
  omega
theorem dI_d (l : List Int) : (dI l).depth ≤ 1 := by
  show PyData.depthAll (l.map PyData.int) + 1 ≤ 1
  rw [PySem.W.depth_ints]
  decide
/-- a tuple of a house and its order -/
theorem okd_HQ {h : List (Int × Str)} (a : LetAll h) (l : List (Int × Int)) : Okd (.tuple [dH h, dQ l]) := okd_tup (fun d m => by
  simp only [List.mem_cons, List.not_mem_nil, or_false] at m
  rcases m with rfl | rfl
  · exact dH_lay a
  · exact dQ_lay l) fun d m => by
  simp only [List.mem_cons, List.not_mem_nil, or_false] at m
  rcases m with rfl | rfl
  · exact Nat.le_trans (dH_d h) (by decide)
  · exact Nat.le_trans (dQ_d l) (by decide)
theorem okd_HQI {h : List (Int × Str)} (a : LetAll h) (l : List (Int × Int)) (c : List Int) : Okd (.tuple [dH h, dQ l, dI c]) := okd_tup (fun d m => by
  simp only [List.mem_cons, List.not_mem_nil, or_false] at m
  rcases m with rfl | rfl | rfl
  · exact dH_lay a
  · exact dQ_lay l
  · exact dI_lay c) fun d m => by
  simp only [List.mem_cons, List.not_mem_nil, or_false] at m
  rcases m with rfl | rfl | rfl
  · exact Nat.le_trans (dH_d h) (by decide)
  · exact Nat.le_trans (dQ_d l) (by decide)
  · exact Nat.le_trans (dI_d c) (by decide)
end SH
set_option Elab.async false
set_option linter.all false
set_option maxRecDepth 100000
set_option maxHeartbeats 4000000
/-! the places of a word; pairs sorted -/
namespace SH
open PySem PySem.Spec PyProof.Rows L2
def e2 (q : Int × Int) : E3 := ("", q)
theorem p2_le {β : Type} (f : β → Int × Int) : PySem.W.dataLe false (fun b => dP2 (f b)) = fun p q => le3 (e2 (f p)) (e2 (f q)) := by
  funext p q
  show (!PySem.W.dataLt (dP2 (f q)) (dP2 (f p))) = _
  unfold dP2
  rw [PySem.W.dataLt_ii]
  unfold le3 lex3 e2
  congr 1
  refine decide_eq_decide.mpr ⟨fun h => .inr ⟨rfl, h⟩, fun h => h.elim (fun h => absurd h (List.lt_irrefl _)) fun h => h.2⟩
theorem sort_q (R : QT) : ((R.map fun z => (V.ref z.1, z.2)).mergeSort (PySem.W.dataLe false fun z => dP2 z.2)).map (·.1) = qrefs (R.mergeSort fun p q => le3 (e2 p.2) (e2 q.2)) := by
  rw [p2_le (β := V × Int × Int) (fun z => z.2), ← List.map_mergeSort (l := R) (f := fun z : Addr × Int × Int => (V.ref z.1, z.2)) (r := fun p q : Addr × Int × Int => le3 (e2 p.2) (e2 q.2)) (s := fun p q : V × Int × Int => le3 (e2 p.2) (e2 q.2)) (fun _ _ _ _ => rfl), List.map_map]
  rfl
theorem p2_alike {β : Type} (f : β → Int × Int) (bs : List β) : PySem.W.AllAlike (bs.map fun b => dP2 (f b)) := PySem.W.AllAlike.of fun b b' => by simp [dP2, PySem.W.alike, PySem.W.alikeAll]
theorem p2_able {β : Type} (f : β → Int × Int) (bs : List β) : PySem.W.Sortable (bs.map fun b => dP2 (f b)) := PySem.W.Sortable.tuples fun b => ⟨_, _, rfl⟩
theorem p2_deep (p : Int × Int) : (dP2 p).depth ≤ 60 := by
  show max 0 (max 0 0) + 1 ≤ 60
  decide
/-- pairs ascending -/
def Asc2 (l : List (Int × Int)) : Prop := (l.map e2).Pairwise (fun p q => le3 p q = true)
theorem sort_q_is {R : QT} {l : List (Int × Int)} (hp : (R.map (·.2)).Perm l) (ha : Asc2 l) : (R.mergeSort fun p q => le3 (e2 p.2) (e2 q.2)).map (·.2) = l := by
  have h1 : ((R.mergeSort fun p q => le3 (e2 p.2) (e2 q.2)).map fun z => e2 z.2) = l.map e2 := by
    refine sorted3_uniq (((List.mergeSort_perm _ _).map _).trans ?_) ?_ ha
    · have := hp.map e2
      rw [List.map_map] at this
      exact this
    · rw [List.pairwise_map]
      exact List.pairwise_mergeSort (le := fun p q : Addr × Int × Int => le3 (e2 p.2) (e2 q.2)) (fun p q r => le3_tr (e2 p.2) (e2 q.2) (e2 r.2)) (fun p q => le3_tot (e2 p.2) (e2 q.2)) R
  have h2 := congrArg (List.map (fun e : E3 => e.2)) h1
  rw [List.map_map, List.map_map] at h2
  have i1 : ((fun e : E3 => e.2) ∘ fun z : Addr × Int × Int => e2 z.2) = fun z => z.2 := rfl
  have i2 : ((fun e : E3 => e.2) ∘ e2) = id := rfl
  rw [i1, i2, List.map_id] at h2
  exact h2
/-! ### where a word stands -/
def standsP (w : Str) (z : Str) (s : Nat) : Bool := decide (((TL.tl z).drop s).take w.length = TL.tl w)
def plcOf (w : Str) (q : Int × Str) : List (Int × Int) := ((List.range (q.2.length + 1)).filter (standsP w q.2)).map fun s : Nat => (q.1, (s : Int))
def plc (h : List (Int × Str)) (w : Str) : List (Int × Int) := h.flatMap (plcOf w)
theorem stands_le {w z : Str} {s : Nat} (h : standsP w z s = true) (hs : s ≤ z.length) : s + w.length ≤ z.length := by
  have e := congrArg List.length (of_decide_eq_true h)
  rw [List.length_take, List.length_drop] at e
  have e1 : (TL.tl z).length = z.length := rfl
  have e2 : (TL.tl w).length = w.length := rfl
  omega
theorem range_cut {n k : Nat} {p : Nat → Bool} (h : ∀ s, s ≤ n → p s = true → s + k ≤ n) : (List.range (n + 1)).filter p = (List.range (n + 1 - k)).filter p := by
  rcases Nat.le_total k (n + 1) with c | c
  · have e : n + 1 = (n + 1 - k) + k := by omega
    conv => lhs; rw [e, List.range_add, List.filter_append]
    have : ((List.range k).map (fun x => n + 1 - k + x)).filter p = [] := List.filter_eq_nil_iff.mpr fun x hx hp => by
      obtain ⟨y, hy, rfl⟩ := List.mem_map.mp hx
      have := List.mem_range.mp hy
      have := h _ (by omega) hp
      omega
    rw [this, List.append_nil]
  · rw [show n + 1 - k = 0 by omega]
    show _ = []
    refine List.filter_eq_nil_iff.mpr fun x hx hp => ?_
    have := List.mem_range.mp hx
    have := h x (by omega) hp
    omega
theorem plcOf_cut (w : Str) (q : Int × Str) : plcOf w q = ((List.range (q.2.length + 1 - w.length)).filter (standsP w q.2)).map fun s : Nat => (q.1, (s : Int)) := by
  unfold plcOf
  rw [range_cut fun s hs hp => stands_le hp hs]
theorem plc_snoc (h : List (Int × Str)) (q : Int × Str) (w : Str) : plc (h ++ [q]) w = plc h w ++ plcOf w q := by
  unfold plc
  rw [List.flatMap_append]
  simp
/-- an end begins with the word -/
def begP (w : Str) (e : E3) : Bool := decide ((TL.tl e.1).take w.length = TL.tl w)
theorem plc_ends (w : Str) : ∀ (h : List (Int × Str)), ((ends3 h).filter (begP w)).map (·.2) = plc h w
  | [] => rfl
  | q :: r => by
    have e : ends3 (q :: r) = endsOf q ++ ends3 r := rfl
    have e2 : plc (q :: r) w = plcOf w q ++ plc r w := rfl
    rw [e, e2, List.filter_append, List.map_append, plc_ends w r]
    congr 1
    unfold endsOf plcOf
    rw [List.filter_map, List.map_map]
    have : (begP w ∘ fun s : Nat => (suf q.2 s, q.1, (s : Int))) = standsP w q.2 := by
      funext s
      show decide ((TL.tl (suf q.2 s)).take w.length = TL.tl w) = decide _
      rw [suf_tl]
    rw [this]
    rfl
theorem plcOf_asc (w : Str) (q : Int × Str) : ((plcOf w q).map e2).Pairwise (fun a b => le3 a b = true) := by
  unfold plcOf
  rw [List.map_map, List.pairwise_map]
  refine (List.Pairwise.filter _ (List.pairwise_lt_range (n := q.2.length + 1))).imp fun {a b} l => ?_
  unfold le3
  simp only [Bool.not_eq_true', decide_eq_false_iff_not]
  rintro (z | ⟨_, z | ⟨_, z⟩⟩)
  · exact List.lt_irrefl _ z
  · have : q.1 < q.1 := z
    omega
  · have : (b : Int) < (a : Int) := z
    omega
theorem mem_plcOf {w : Str} {q : Int × Str} {x : Int × Int} (h : x ∈ plcOf w q) : x.1 = q.1 ∧ ∃ s : Nat, x.2 = s ∧ s ≤ q.2.length ∧ standsP w q.2 s = true := by
  unfold plcOf at h
  obtain ⟨s, hs, rfl⟩ := List.mem_map.mp h
  obtain ⟨h1, h2⟩ := List.mem_filter.mp hs
  exact ⟨rfl, s, rfl, by have := List.mem_range.mp h1; omega, h2⟩
theorem plc_asc (w : Str) : ∀ {h : List (Int × Str)}, (h.map (·.1)).Pairwise (· < ·) → Asc2 (plc h w)
  | [], _ => List.Pairwise.nil
  | q :: r, asc => by
    rw [List.map_cons, List.pairwise_cons] at asc
    have ih := plc_asc w asc.2
    show ((plcOf w q ++ plc r w).map e2).Pairwise _
    rw [List.map_append, List.pairwise_append]
    refine ⟨plcOf_asc w q, ih, fun a ha b hb => ?_⟩
    obtain ⟨x, hx, rfl⟩ := List.mem_map.mp ha
    obtain ⟨y, hy, rfl⟩ := List.mem_map.mp hb
    obtain ⟨t, ht, hy⟩ := List.mem_flatMap.mp hy
    have l := asc.1 t.1 (List.mem_map_of_mem ht)
    have l1 := (mem_plcOf hx).1
    have l2 := (mem_plcOf hy).1
    unfold le3
    simp only [Bool.not_eq_true', decide_eq_false_iff_not]
    rintro (z | ⟨_, z | ⟨z, _⟩⟩)
    · exact List.lt_irrefl _ z
    · have : y.1 < x.1 := z
      omega
    · have : y.1 = x.1 := z
      omega
/-! ### the part of the order in a word's range -/
theorem anti_filter {α : Type} {p : α → Bool} : ∀ {E : List α}, E.Pairwise (fun a b => p b = true → p a = true) → E = E.filter p ++ E.filter fun x => !p x
  | [], _ => rfl
  | x :: E, h => by
    rw [List.pairwise_cons] at h
    cases c : p x with
    | true =>
      rw [List.filter_cons_of_pos c, List.filter_cons_of_neg (by rw [c]; decide), List.cons_append, ← anti_filter h.2]
    | false =>
      have no : ∀ y ∈ x :: E, p y = false := fun y hy => by
        rcases List.mem_cons.mp hy with e | m
        · rw [e]; exact c
        · cases d : p y with
          | false => rfl
          | true => rw [h.1 y m d] at c; cases c
      rw [List.filter_eq_nil_iff.mpr fun y hy => by rw [no y hy]; decide, List.nil_append]
      exact (List.filter_eq_self.mpr fun y hy => by rw [no y hy]; rfl).symm
theorem filter_take {α : Type} {p : α → Bool} {E : List α} (h : E.Pairwise (fun a b => p b = true → p a = true)) : E.take (E.filter p).length = E.filter p ∧ E.drop (E.filter p).length = E.filter fun x => !p x := by
  have e := anti_filter h
  generalize E.filter p = A at e ⊢
  generalize (E.filter fun x => !p x) = B at e ⊢
  subst e
  exact ⟨List.take_left, List.drop_left⟩
theorem rng_cut {E : List E3} (pw : E.Pairwise (fun p q => le3 p q = true)) (w : Str) : (E.drop (rFirst w E)).take (rMany w E) = E.filter (begP w) ∧ E.take (rFirst w E) = E.filter (prW w false) ∧ (E.drop (rFirst w E + rMany w E)) = E.filter (fun e => !prW w true e) := by
  have a1 := filter_take (p := prW w false) (pw.imp fun {a b} h => prW_mono h)
  rw [prW_f] at a1
  have a2 := filter_take (p := prW w true) (pw.imp fun {a b} h => prW_mono h)
  rw [prW_t] at a2
  have m : ((E.filter fun x => !prW w false x).filter (prW w true)) = E.filter (begP w) := by
    rw [List.filter_filter]
    congr 1
    funext e
    unfold prW begP
    cases c : decide ((TL.tl e.1).take w.length = TL.tl w) with
    | true =>
      rw [decide_eq_false (take_eq_not_lt (of_decide_eq_true c))]
      rfl
    | false =>
      cases decide (TL.tl e.1 < TL.tl w) <;> rfl
  have a3 := filter_take (p := prW w true) (E := E.filter fun x => !prW w false x) ((pw.filter _).imp fun {a b} h => prW_mono h)
  rw [m] at a3
  have l : (E.filter (begP w)).length = rMany w E := rfl
  rw [l] at a3
  refine ⟨?_, a1.1, a2.2⟩
  rw [a1.2]
  exact a3.1
theorem comm_take : ∀ (n : Nat) (x y : List Nat), n ≤ comm x y → x.take n = y.take n
  | 0, _, _, _ => by simp
  | n + 1, [], y, h => by simp [comm] at h
  | n + 1, _ :: _, [], h => by simp [comm] at h
  | n + 1, a :: x, b :: y, h => by
    unfold comm at h
    by_cases e : a = b
    · rw [if_pos e] at h
      rw [List.take_succ_cons, List.take_succ_cons, e, comm_take n x y (by omega)]
    · rw [if_neg e] at h
      omega
theorem take_comm : ∀ (n : Nat) (x y : List Nat), n ≤ x.length → n ≤ y.length → x.take n = y.take n → n ≤ comm x y
  | 0, _, _, _, _, _ => Nat.zero_le _
  | n + 1, [], y, h, _, _ => by simp at h
  | n + 1, _ :: _, [], _, h, _ => by simp at h
  | n + 1, a :: x, b :: y, h1, h2, e => by
    rw [List.take_succ_cons, List.take_succ_cons] at e
    unfold comm
    rw [if_pos (List.cons.inj e).1]
    have := take_comm n x y (by simpa using h1) (by simpa using h2) (List.cons.inj e).2
    omega
/-- all places of the word: a new list -/
def spPlaces (K : PySem.W.Frag) : Sp := fun vs H Q _ => ∃ (a : Addr) (L : PL) (wd : Str), vs = [.ref a, .str wd] ∧ HsAt K H a L ∧ L.length ≤ 500 ∧ (∀ q ∈ L, q.2.2.length ≤ 100) ∧ wd.length ≤ 1000 ∧
  ∀ (l : Addr) (R : QT) (H' : Hp), Same H H' → H l = none → H' l = some (.lst (qrefs R)) → QAt K H' R → R.map (·.2) = plc (L.map (·.2)) wd → Q (.ref l) H'
theorem plcOf_len (w : Str) (q : Int × Str) : (plcOf w q).length ≤ q.2.length + 1 := by
  unfold plcOf
  rw [List.length_map]
  refine Nat.le_trans (List.length_filter_le _ _) ?_
  rw [List.length_range]
  exact Nat.le_refl _
theorem plc_len {m : Nat} {w : Str} : ∀ {h : List (Int × Str)}, (∀ q ∈ h, q.2.length ≤ m) → (plc h w).length ≤ (m + 1) * h.length
  | [], _ => Nat.zero_le _
  | q :: r, a => by
    have e : plc (q :: r) w = plcOf w q ++ plc r w := rfl
    rw [e, List.length_append, List.length_cons, Nat.mul_add]
    have := a q (List.mem_cons_self ..)
    have := plcOf_len w q
    have := plc_len (w := w) fun x hx => a x (List.mem_cons_of_mem _ hx)
    omega
end SH
set_option Elab.async false
set_option linter.all false
set_option maxRecDepth 100000
set_option maxHeartbeats 4000000
/-! the different stretches, counted by the order and its commons; the least of the commons -/
namespace SH
open PySem PySem.Spec PyProof.Rows L2
/-! ### tables whose keys are what has been put -/
section
variable {κ : Type} [DecidableEq κ]
theorem keys_putK (kvs : List (κ × V)) (k : κ) (v : V) : (putK kvs k v).map (·.1) = if k ∈ kvs.map (·.1) then kvs.map (·.1) else kvs.map (·.1) ++ [k] := by
  unfold putK
  by_cases h : k ∈ kvs.map (·.1)
  · rw [if_pos h, if_pos]
    · rw [List.map_map]
      refine List.map_congr_left fun x _ => ?_
      show (if x.1 = k then (x.1, v) else x).1 = x.1
      split <;> rfl
    · obtain ⟨x, hx, e⟩ := List.mem_map.mp h
      exact List.any_eq_true.mpr ⟨x, hx, decide_eq_true e⟩
  · rw [if_neg h, if_neg, List.map_append]
    · rfl
    · intro z
      obtain ⟨x, hx, e⟩ := List.any_eq_true.mp z
      exact h (List.mem_map.mpr ⟨x, hx, of_decide_eq_true e⟩)
theorem keys_put_nd {kvs : List (κ × V)} {k : κ} {v : V} (h : (kvs.map (·.1)).Nodup) : ((putK kvs k v).map (·.1)).Nodup := by
  rw [keys_putK]
  split
  · exact h
  · rename_i n
    rw [List.nodup_append]
    exact ⟨h, by simp, fun a ha b hb e => by rw [List.mem_singleton.mp hb] at e; exact n (e ▸ ha)⟩
theorem keys_put_mem {kvs : List (κ × V)} {k j : κ} {v : V} : j ∈ (putK kvs k v).map (·.1) ↔ j ∈ kvs.map (·.1) ∨ j = k := by
  rw [keys_putK]
  split
  · rename_i h
    exact ⟨.inl, fun z => z.elim id fun e => e ▸ h⟩
  · rw [List.mem_append, List.mem_singleton]
end
theorem nd_len {α : Type} [DecidableEq α] {l m : List α} (h1 : l.Nodup) (h2 : m.Nodup) (h : ∀ x, x ∈ l ↔ x ∈ m) : l.length = m.length :=
  Nat.le_antisymm (List.Nodup.length_le_of_subset h1 fun x hx => (h x).mp hx) (List.Nodup.length_le_of_subset h2 fun x hx => (h x).mpr hx)
/-! ### beginnings -/
def isPre (p x : List Nat) : Prop := p ≠ [] ∧ x.take p.length = p
theorem isPre_len {p x : List Nat} (h : isPre p x) : p.length ≤ x.length := by
  have := congrArg List.length h.2
  rw [List.length_take] at this
  omega
/-- what the first and the last begin with, all between do -/
theorem between {x y z p : List Nat} (h1 : ¬ y < x) (h2 : ¬ z < y) (a : x.take p.length = p) (b : z.take p.length = p) : y.take p.length = p := by
  have c1 := nl_take p.length x y h1
  have c2 := nl_take p.length y z h2
  rw [a] at c1
  rw [b] at c2
  exact List.le_antisymm (List.not_lt.mp c2) (List.not_lt.mp c1)
def newP (a x : List Nat) : List (List Nat) := (List.range (x.length - comm a x)).map fun k => x.take (comm a x + k + 1)
def allP : List Nat → List (List Nat) → List (List Nat)
  | _, [] => []
  | a, x :: r => newP a x ++ allP x r
theorem mem_newP {a x p : List Nat} : p ∈ newP a x ↔ isPre p x ∧ ¬ isPre p a := by
  have cl := comm_le a x
  unfold newP
  rw [List.mem_map]
  constructor
  · rintro ⟨k, hk, rfl⟩
    have hk := List.mem_range.mp hk
    have l : (x.take (comm a x + k + 1)).length = comm a x + k + 1 := by rw [List.length_take]; omega
    refine ⟨⟨fun z => ?_, by rw [l]⟩, fun z => ?_⟩
    · rw [z] at l
      simp at l
    · have z2 := z.2
      rw [l] at z2
      have ll := congrArg List.length z2
      rw [l, List.length_take] at ll
      have := take_comm (comm a x + k + 1) a x (by omega) (by omega) z2
      omega
  · rintro ⟨h1, h2⟩
    have l1 := isPre_len h1
    have p0 : 0 < p.length := List.length_pos_iff.mpr h1.1
    have lt : comm a x < p.length := by
      rcases Nat.lt_or_ge (comm a x) p.length with c | c
      · exact c
      · have := comm_take _ _ _ c
        exact absurd ⟨h1.1, by rw [this]; exact h1.2⟩ h2
    refine ⟨p.length - comm a x - 1, List.mem_range.mpr (by omega), ?_⟩
    rw [show comm a x + (p.length - comm a x - 1) + 1 = p.length by omega]
    exact h1.2
theorem newP_nd (a x : List Nat) : (newP a x).Nodup := by
  have cl := comm_le a x
  unfold newP
  rw [List.Nodup, List.pairwise_map]
  refine (List.pairwise_lt_range (n := x.length - comm a x)).imp_of_mem fun {i j} hi hj l e => ?_
  have hi := List.mem_range.mp hi
  have hj := List.mem_range.mp hj
  have := congrArg List.length e
  rw [List.length_take, List.length_take] at this
  omega
theorem mem_allP : ∀ {a : List Nat} {W : List (List Nat)} {p : List Nat}, (a :: W).Pairwise (fun x y => ¬ y < x) → (p ∈ allP a W ↔ (∃ x ∈ W, isPre p x) ∧ ¬ isPre p a)
  | a, [], p, _ => by simp [allP]
  | a, x :: r, p, pw => by
    rw [List.pairwise_cons] at pw
    have ih := mem_allP (p := p) pw.2
    have pw2 := pw.2
    rw [List.pairwise_cons] at pw2
    show p ∈ newP a x ++ allP x r ↔ _
    rw [List.mem_append, mem_newP, ih]
    constructor
    · rintro (⟨h1, h2⟩ | ⟨⟨y, hy, h1⟩, h2⟩)
      · exact ⟨⟨x, List.mem_cons_self .., h1⟩, h2⟩
      · refine ⟨⟨y, List.mem_cons_of_mem _ hy, h1⟩, fun z => h2 ⟨h1.1, ?_⟩⟩
        exact between (pw.1 x (List.mem_cons_self ..)) (pw2.1 y hy) z.2 h1.2
    · rintro ⟨⟨y, hy, h1⟩, h2⟩
      by_cases c : isPre p x
      · exact .inl ⟨c, h2⟩
      · rcases List.mem_cons.mp hy with e | m
        · rw [e] at h1
          exact absurd h1 c
        · exact .inr ⟨⟨y, m, h1⟩, c⟩
theorem allP_nd : ∀ {a : List Nat} {W : List (List Nat)}, (a :: W).Pairwise (fun x y => ¬ y < x) → (allP a W).Nodup
  | _, [], _ => List.nodup_nil
  | a, x :: r, pw => by
    rw [List.pairwise_cons] at pw
    show (newP a x ++ allP x r).Nodup
    rw [List.nodup_append]
    refine ⟨newP_nd a x, allP_nd pw.2, fun p h1 q h2 e => ?_⟩
    subst e
    exact ((mem_allP pw.2).mp h2).2 (mem_newP.mp h1).1
def cmL : List Nat → List (List Nat) → List Int
  | _, [] => []
  | a, x :: r => (comm a x : Nat) :: cmL x r
theorem allP_len : ∀ (a : List Nat) (W : List (List Nat)), ((allP a W).length : Int) = (W.map fun x => (x.length : Int)).sum - (cmL a W).sum
  | _, [] => rfl
  | a, x :: r => by
    have cl := comm_le a x
    have ih := allP_len x r
    show ((newP a x ++ allP x r).length : Int) = ((x.length : Int) + (r.map fun x => (x.length : Int)).sum) - (((comm a x : Nat) : Int) + (cmL x r).sum)
    have l : (newP a x).length = x.length - comm a x := by unfold newP; rw [List.length_map, List.length_range]
    rw [List.length_append, l, Int.natCast_add, ih]
    omega
theorem cmL_at : ∀ (W : List (List Nat)) (a : List Nat) (k : Nat), (cmL a W)[k]? = (W[k]?).map fun x => ((comm (if k = 0 then a else (W[k - 1]?).getD []) x : Nat) : Int)
  | [], _, _ => by simp [cmL]
  | x :: r, a, 0 => rfl
  | x :: r, a, k + 1 => by
    show (cmL x r)[k]? = _
    rw [cmL_at r x k]
    show (r[k]?).map _ = (r[k]?).map _
    congr 1
    funext y
    cases k with
    | zero => rfl
    | succ k => rfl
theorem letsAt_map (E : List E3) (k : Nat) : letsAt E k = ((E.map fun e => TL.tl e.1)[k]?).getD [] := by
  unfold letsAt
  rw [List.getElem?_map]
theorem cmsE_cmL (E : List E3) : cmsE E = cmL [] (E.map fun e => TL.tl e.1) := by
  refine List.ext_getElem? fun k => ?_
  rw [cmL_at, show (E.map fun e => TL.tl e.1)[k]? = (E[k]?).map fun e => TL.tl e.1 from List.getElem?_map ..]
  unfold cmsE
  rw [List.getElem?_map]
  rcases Nat.lt_or_ge k E.length with h | h
  · rw [List.getElem?_range h, List.getElem?_eq_getElem h]
    show some _ = some _
    congr 1
    by_cases c : k = 0
    · rw [if_pos c]
      show (if k = 0 then (0 : Int) else cmAt E (k - 1)) = ((comm [] _ : Nat) : Int)
      rw [if_pos c]
      simp [comm]
    · rw [if_neg c]
      show (if k = 0 then (0 : Int) else cmAt E (k - 1)) = ((comm _ _ : Nat) : Int)
      rw [if_neg c]
      unfold cmAt
      rw [letsAt_map, show k - 1 + 1 = k by omega, letsAt_eq (List.getElem?_eq_getElem h)]
  · rw [List.getElem?_eq_none (by rw [List.length_range]; exact h), List.getElem?_eq_none h]
    rfl
/-- a stretch of the house -/
def isStr (h : List (Int × Str)) (p : List Nat) : Prop := ∃ q ∈ h, ∃ s : Nat, s ≤ q.2.length ∧ isPre p ((TL.tl q.2).drop s)
theorem ordE_lets (h : List (Int × Str)) : (([] : List Nat) :: (ordE h).map fun e => TL.tl e.1).Pairwise (fun x y => ¬ y < x) := by
  rw [List.pairwise_cons]
  refine ⟨fun x _ z => (by cases z), ?_⟩
  rw [List.pairwise_map]
  exact (ordE_pw h).imp fun h => le3_letters h
theorem mem_strs {h : List (Int × Str)} {p : List Nat} : p ∈ allP [] ((ordE h).map fun e => TL.tl e.1) ↔ isStr h p := by
  rw [mem_allP (ordE_lets h)]
  constructor
  · rintro ⟨⟨x, hx, hp⟩, _⟩
    obtain ⟨e, he, rfl⟩ := List.mem_map.mp hx
    obtain ⟨q, hq, s, hs, rfl⟩ := mem_ends3.mp (mem_ordE.mp he)
    rw [show TL.tl (suf q.2 s, q.1, (s : Int)).1 = (TL.tl q.2).drop s from suf_tl _ _] at hp
    exact ⟨q, hq, s, hs, hp⟩
  · rintro ⟨q, hq, s, hs, hp⟩
    refine ⟨⟨_, List.mem_map.mpr ⟨_, mem_ordE.mpr (mem_ends3.mpr ⟨q, hq, s, hs, rfl⟩), rfl⟩, ?_⟩, fun z => ?_⟩
    · show isPre p (TL.tl (suf q.2 s))
      rw [suf_tl]
      exact hp
    · have := isPre_len z
      exact z.1 (List.eq_nil_of_length_eq_zero (by simpa using this))
/-- how many -/
def strN (h : List (Int × Str)) : Nat := (allP [] ((ordE h).map fun e => TL.tl e.1)).length
theorem strN_eq (h : List (Int × Str)) : (strN h : Int) = ((ordE h).map fun e => (e.1.length : Int)).sum - (cmsE (ordE h)).sum := by
  unfold strN
  rw [allP_len, ← cmsE_cmL, List.map_map]
  rfl
/-- any list of all stretches, each once, has as many -/
theorem strN_of {h : List (Int × Str)} {l : List (List Nat)} (nd : l.Nodup) (hm : ∀ p, p ∈ l ↔ isStr h p) : l.length = strN h :=
  nd_len nd (allP_nd (ordE_lets h)) fun p => (hm p).trans mem_strs.symm
/-! ### the common of two ends that are not neighbours -/
theorem comm_mid {x y z : List Nat} (h1 : ¬ y < x) (h2 : ¬ z < y) : comm x z ≤ comm x y ∧ comm x z ≤ comm y z := by
  have l := comm_le x z
  have e := comm_take (comm x z) x z (Nat.le_refl _)
  have pl : (x.take (comm x z)).length = comm x z := by rw [List.length_take]; omega
  have b : y.take (comm x z) = x.take (comm x z) := by
    have := between (p := x.take (comm x z)) h1 h2 (by rw [pl]) (by rw [pl]; exact e.symm)
    rw [pl] at this
    exact this
  have yl : comm x z ≤ y.length := by
    have := congrArg List.length b
    rw [List.length_take, pl] at this
    omega
  exact ⟨take_comm _ _ _ l.1 yl b.symm, take_comm _ _ _ yl l.2 (b.trans e)⟩
theorem comm_tri {x y z : List Nat} {m : Nat} (h1 : m ≤ comm x y) (h2 : m ≤ comm y z) : m ≤ comm x z := by
  have l1 := comm_le x y
  have l2 := comm_le y z
  exact take_comm m x z (by omega) (by omega) ((comm_take m x y h1).trans (comm_take m y z h2))
section
variable {E : List E3} (pw : E.Pairwise (fun p q => le3 p q = true))
include pw
theorem lets_mono {i j : Nat} (h : i ≤ j) (hj : j < E.length) : ¬ letsAt E j < letsAt E i := by
  rw [letsAt_eq (List.getElem?_eq_getElem hj), letsAt_eq (List.getElem?_eq_getElem (by omega : i < E.length))]
  exact le3_letters (pw_at pw le3_refl (by omega) hj h)
theorem comm_le_cm {i j k : Nat} (h1 : i < k) (h2 : k ≤ j) (hj : j < E.length) : ((comm (letsAt E i) (letsAt E j) : Nat) : Int) ≤ cmAt E (k - 1) := by
  have a := (comm_mid (lets_mono pw (i := i) (j := k) (by omega) (by omega)) (lets_mono pw (i := k) (j := j) h2 hj)).1
  have b := (comm_mid (lets_mono pw (i := i) (j := k - 1) (by omega) (by omega)) (lets_mono pw (i := k - 1) (j := k) (by omega) (by omega))).2
  unfold cmAt
  rw [show k - 1 + 1 = k by omega]
  omega
theorem le_comm {i : Nat} {m : Int} : ∀ (d : Nat), (∀ k, i < k → k ≤ i + 1 + d → m ≤ cmAt E (k - 1)) → m ≤ ((comm (letsAt E i) (letsAt E (i + 1 + d)) : Nat) : Int)
  | 0, h => by
    have := h (i + 1) (by omega) (by omega)
    unfold cmAt at this
    exact this
  | d + 1, h => by
    have ih := le_comm d fun k a b => h k a (by omega)
    have := h (i + 1 + d + 1) (by omega) (by omega)
    unfold cmAt at this
    rw [show i + 1 + d + 1 - 1 + 1 = i + 1 + d + 1 by omega, show i + 1 + d + 1 - 1 = i + 1 + d by omega] at this
    by_cases c : m < 0
    · omega
    · obtain ⟨n, rfl⟩ : ∃ n : Nat, m = n := ⟨m.toNat, by omega⟩
      have := comm_tri (m := n) (x := letsAt E i) (y := letsAt E (i + 1 + d)) (z := letsAt E (i + 1 + d + 1)) (by omega) (by omega)
      show (n : Int) ≤ ((comm (letsAt E i) (letsAt E (i + 1 + d + 1)) : Nat) : Int)
      omega
/-- the least of the commons behind the first up to the second -/
theorem least_is {i j : Nat} (hij : i < j) (hj : j < E.length) {m : Int} (h1 : ∃ k, i < k ∧ k ≤ j ∧ m = cmAt E (k - 1)) (h2 : ∀ k, i < k → k ≤ j → m ≤ cmAt E (k - 1)) : m = ((comm (letsAt E i) (letsAt E j) : Nat) : Int) := by
  obtain ⟨k, k1, k2, rfl⟩ := h1
  have a := comm_le_cm pw k1 k2 hj
  have b := le_comm pw (i := i) (j - (i + 1)) fun k x y => h2 k x (by omega)
  rw [show i + 1 + (j - (i + 1)) = j by omega] at b
  omega
end
end SH
set_option Elab.async false
set_option linter.all false
set_option maxRecDepth 100000
set_option maxHeartbeats 4000000
/-! all stretches gone through; slices -/
namespace SH
open PySem PySem.Spec PyProof.Rows L2
def cuts (z : Str) (s : Nat) : List (List Nat) := (List.range (z.length - s)).map fun k => ((TL.tl z).drop s).take (k + 1)
def cutsZ (z : Str) : List (List Nat) := (List.range z.length).flatMap (cuts z)
def cutsH (h : List (Int × Str)) : List (List Nat) := h.flatMap fun q => cutsZ q.2
theorem mem_cuts {z : Str} {s : Nat} {p : List Nat} : p ∈ cuts z s ↔ isPre p ((TL.tl z).drop s) := by
  unfold cuts
  rw [List.mem_map]
  have zl : (TL.tl z).length = z.length := rfl
  constructor
  · rintro ⟨k, hk, rfl⟩
    have hk := List.mem_range.mp hk
    have l : (((TL.tl z).drop s).take (k + 1)).length = k + 1 := by rw [List.length_take, List.length_drop]; omega
    refine ⟨fun e => ?_, by rw [l]⟩
    rw [e] at l
    simp at l
  · intro h
    have l := isPre_len h
    rw [List.length_drop] at l
    have p0 : 0 < p.length := List.length_pos_iff.mpr h.1
    refine ⟨p.length - 1, List.mem_range.mpr (by omega), ?_⟩
    rw [show p.length - 1 + 1 = p.length by omega]
    exact h.2
theorem mem_cutsZ {z : Str} {p : List Nat} : p ∈ cutsZ z ↔ ∃ s : Nat, s ≤ z.length ∧ isPre p ((TL.tl z).drop s) := by
  unfold cutsZ
  rw [List.mem_flatMap]
  constructor
  · rintro ⟨s, hs, hp⟩
    exact ⟨s, Nat.le_of_lt (List.mem_range.mp hs), mem_cuts.mp hp⟩
  · rintro ⟨s, hs, hp⟩
    refine ⟨s, List.mem_range.mpr ?_, mem_cuts.mpr hp⟩
    rcases Nat.lt_or_ge s z.length with c | c
    · exact c
    · have := isPre_len hp
      have zl : (TL.tl z).length = z.length := rfl
      rw [List.length_drop] at this
      exact absurd (List.eq_nil_of_length_eq_zero (by omega : p.length = 0)) hp.1
theorem mem_cutsH {h : List (Int × Str)} {p : List Nat} : p ∈ cutsH h ↔ isStr h p := by
  unfold cutsH
  rw [List.mem_flatMap]
  constructor
  · rintro ⟨q, hq, hp⟩
    exact ⟨q, hq, mem_cutsZ.mp hp⟩
  · rintro ⟨q, hq, hp⟩
    exact ⟨q, hq, mem_cutsZ.mpr hp⟩
theorem cutsH_snoc (h : List (Int × Str)) (q : Int × Str) : cutsH (h ++ [q]) = cutsH h ++ cutsZ q.2 := by
  unfold cutsH
  rw [List.flatMap_append]
  simp
theorem flat_range {α : Type} (f : Nat → List α) (n : Nat) : (List.range (n + 1)).flatMap f = (List.range n).flatMap f ++ f n := by
  rw [List.range_succ, List.flatMap_append]
  simp
/-- the keys of a table are these words -/
def KeyW (kvs : List (Key × V)) (S : List (List Nat)) : Prop := (kvs.map (·.1)).Nodup ∧ ∀ k : Key, k ∈ kvs.map (·.1) ↔ ∃ z : Str, k = .inr z ∧ TL.tl z ∈ S
theorem KeyW.put {kvs : List (Key × V)} {S : List (List Nat)} (h : KeyW kvs S) (z : Str) (v : V) : KeyW (putK kvs (.inr z) v) (S ++ [TL.tl z]) := by
  refine ⟨keys_put_nd h.1, fun k => ?_⟩
  rw [keys_put_mem, h.2]
  constructor
  · rintro (⟨y, rfl, hy⟩ | rfl)
    · exact ⟨y, rfl, List.mem_append_left _ hy⟩
    · exact ⟨z, rfl, List.mem_append_right _ (List.mem_singleton.mpr rfl)⟩
  · rintro ⟨y, rfl, hy⟩
    rcases List.mem_append.mp hy with m | m
    · exact .inl ⟨y, rfl, m⟩
    · exact .inr (congrArg Sum.inr (str_ext (List.mem_singleton.mp m)))
theorem KeyW.nil : KeyW [] [] := ⟨List.nodup_nil, fun k => by simp⟩
theorem KeyW.eq {kvs : List (Key × V)} {S S' : List (List Nat)} (h : KeyW kvs S) (e : S = S') : KeyW kvs S' := e ▸ h
def keyL : Key → List Nat
  | .inl _ => []
  | .inr z => TL.tl z
theorem KeyW.len {kvs : List (Key × V)} {h : List (Int × Str)} (k : KeyW kvs (cutsH h)) : kvs.length = strN h := by
  have : ((kvs.map (·.1)).map keyL).length = strN h := by
    refine strN_of ?_ fun p => ?_
    · rw [List.Nodup, List.pairwise_map]
      refine (show (kvs.map (·.1)).Pairwise (· ≠ ·) from k.1).imp_of_mem fun {a b} ha hb ne e => ?_
      obtain ⟨x, rfl, _⟩ := (k.2 a).mp ha
      obtain ⟨y, rfl, _⟩ := (k.2 b).mp hb
      exact ne (congrArg Sum.inr (str_ext e))
    · rw [← mem_cutsH, List.mem_map]
      constructor
      · rintro ⟨a, ha, rfl⟩
        obtain ⟨x, rfl, hx⟩ := (k.2 a).mp ha
        exact hx
      · intro hp
        have e : TL.tl (⟨p.toArray⟩ : Str) = p := rfl
        exact ⟨.inr ⟨p.toArray⟩, (k.2 _).mpr ⟨_, rfl, by rw [e]; exact hp⟩, rfl⟩
  rw [List.length_map, List.length_map] at this
  exact this
theorem cut_ab (xs : List V) {a b : Nat} (h1 : a ≤ b) (h : b ≤ xs.length) : cutV xs (some (a : Int)) (some (b : Int)) = (xs.drop a).take (b - a) := by
  unfold cutV
  rw [HT.sIx_nat, HT.sIx_nat, Nat.min_eq_left h, Nat.min_eq_left (by omega)]
end SH
set_option Elab.async false
set_option linter.all false
set_option maxRecDepth 100000
set_option maxHeartbeats 4000000
/-! houses with a pair more or less -/
namespace SH
open PySem PySem.Spec PyProof.Rows L2
def spIsLetter : Sp := fun vs H Q _ => ∃ c : Nat, vs = [.str ⟨#[c]⟩] ∧ Q (.bl (okc c)) H
def spIsText : Sp := fun vs H Q _ => ∃ z : Str, vs = [.str z] ∧ z.length ≤ 1000 ∧ ∀ H', Same H H' → Q (.bl (isTxt z)) H'
def spHasNumber (K : PySem.W.Frag) : Sp := fun vs H Q _ => ∃ (a : Addr) (L : PL) (n : Int), vs = [.ref a, .int n] ∧ HsAt K H a L ∧ L.length ≤ 1000 ∧ ∀ H', Same H H' → Q (.bl (decide (n ∈ L.map fun q => q.2.1))) H'
theorem inV_ints (n : Int) (l : List Int) : inV (.int n) (l.map V.int) = decide (n ∈ l) := by
  unfold inV
  induction l with
  | nil => simp
  | cons x r ih =>
    rw [List.map_cons, List.any_cons, ih]
    show (x == n || decide (n ∈ r)) = decide (n ∈ x :: r)
    by_cases h : x = n
    · subst h
      simp
    · have h2 : (x == n) = false := by simpa using h
      have h3 : ¬ n = x := fun z => h z.symm
      rw [h2]
      simp [h3]
theorem refs_at {L : PL} {i : Nat} {x : V} (h : (refs L)[i]? = some x) : ∃ t, L[i]? = some t ∧ t ∈ L ∧ x = .ref t.1 := by
  unfold refs at h
  rw [List.getElem?_map] at h
  cases e : L[i]? with
  | none => rw [e] at h; cases h
  | some t =>
    rw [e] at h
    cases h
    exact ⟨t, rfl, List.mem_of_getElem? e, rfl⟩
theorem drop_at {α : Type} {l : List α} {i : Nat} {x : α} (h : l[i]? = some x) : l.drop i = x :: l.drop (i + 1) := by
  obtain ⟨hi, e⟩ := List.getElem?_eq_some_iff.mp h
  rw [List.drop_eq_getElem_cons hi, e]
/-- a new house is handed back: a new list p of pairs, as pure data h -/
def NewHs (K : PySem.W.Frag) (Q : VK) (H : Hp) (h : List (Int × Str)) : Prop := ∀ (p : Addr) (L' : PL) (H' : Hp), Same H H' → H p = none → H' p = some (.lst (refs L')) → PairsAt K H' L' → L'.map (·.2) = h → Q (.ref p) H'
/-- with a pair more, in its place -/
def ins (n : Int) (z : Str) (h : List (Int × Str)) : List (Int × Str) := h.filter (fun q => decide (q.1 < n)) ++ [(n, z)] ++ h.filter (fun q => decide (n < q.1))
theorem asc_uniq : ∀ {l m : List (Int × Str)}, l.Perm m → l.Pairwise (fun q r => q.1 < r.1) → m.Pairwise (fun q r => q.1 < r.1) → l = m
  | [], m, p, _, _ => (List.Perm.eq_nil p.symm).symm
  | x :: l, [], p, _, _ => absurd p.length_eq (by simp)
  | x :: l, y :: m, p, hl, hm => by
    rw [List.pairwise_cons] at hl hm
    have e : x = y := by
      rcases List.mem_cons.mp (p.mem_iff.mp (List.mem_cons_self ..)) with e | hx
      · exact e
      · rcases List.mem_cons.mp (p.mem_iff.mpr (List.mem_cons_self ..)) with e | hy
        · exact e.symm
        · have a := hm.1 x hx
          have b := hl.1 y hy
          omega
    subst e
    rw [asc_uniq p.cons_inv hl.2 hm.2]
theorem ins_perm {n : Int} {z : Str} : ∀ {h : List (Int × Str)}, n ∉ h.map (·.1) → (ins n z h).Perm (h ++ [(n, z)])
  | [], _ => List.Perm.refl _
  | q :: r, hn => by
    rw [List.map_cons, List.mem_cons, not_or] at hn
    have ih := ins_perm (z := z) hn.2
    unfold ins at ih ⊢
    by_cases h1 : q.1 < n
    · rw [List.filter_cons_of_pos (by simpa using h1), List.filter_cons_of_neg (by simp; omega)]
      exact ih.cons q
    · rw [List.filter_cons_of_neg (by simpa using h1), List.filter_cons_of_pos (by simp; omega)]
      have p1 := List.perm_middle (a := q) (l₁ := r.filter (fun q => decide (q.1 < n)) ++ [(n, z)]) (l₂ := r.filter (fun q => decide (n < q.1)))
      exact p1.trans (ih.cons q)
theorem ins_asc {n : Int} {z : Str} {h : List (Int × Str)} (a : h.Pairwise (fun q r => q.1 < r.1)) : (ins n z h).Pairwise (fun q r => q.1 < r.1) := by
  unfold ins
  rw [List.pairwise_append, List.pairwise_append]
  refine ⟨⟨a.filter _, by simp, fun x hx y hy => ?_⟩, a.filter _, fun x hx y hy => ?_⟩
  · have h1 := (List.mem_filter.mp hx).2
    rw [List.mem_singleton.mp hy]
    simpa using h1
  · have h2 := (List.mem_filter.mp hy).2
    have h2' : n < y.1 := by simpa using h2
    rcases List.mem_append.mp hx with m | m
    · have h1 := (List.mem_filter.mp m).2
      have h1' : x.1 < n := by simpa using h1
      omega
    · rw [List.mem_singleton.mp m]
      exact h2'
theorem IsHs.pw {m : Nat} {h : List (Int × Str)} (a : IsHs m h) : h.Pairwise (fun q r => q.1 < r.1) := List.pairwise_map.mp a.asc
end SH
set_option Elab.async false
set_option linter.all false
set_option maxRecDepth 100000
set_option maxHeartbeats 4000000
/-! a dict of words, each with the list of the numbers of the texts where it stands -/
namespace SH
open PySem PySem.Spec PyProof.Rows L2
abbrev WT := List (Str × Addr × List Int)
def wkvs (T : WT) : List (Key × V) := T.map fun e => ((Sum.inr e.1 : Key), V.ref e.2.1)
/-- what has been met: words and numbers, in order -/
abbrev Occ := List (Str × Int)
structure Wd (H0 H : Hp) (D : Addr) (T : WT) : Prop where
  at_ : H D = some (.dK (wkvs T))
  sm : Same H0 H
  nD : H0 D = none
  kd : (T.map (·.1)).Nodup
  rd : (T.map (·.2.1)).Nodup
  row : ∀ e ∈ T, H e.2.1 = some (.lst (e.2.2.map V.int)) ∧ H0 e.2.1 = none
/-- it tells what has been met -/
structure WdOf (T : WT) (O : Occ) : Prop where
  mem : ∀ z, z ∈ T.map (·.1) ↔ z ∈ O.map (·.1)
  val : ∀ e ∈ T, e.2.2 = (O.filter fun o => decide (o.1 = e.1)).map (·.2)
theorem wkvs_keys (T : WT) : (wkvs T).map (·.1) = (T.map (·.1)).map fun z => (Sum.inr z : Key) := by
  unfold wkvs
  rw [List.map_map, List.map_map]
  rfl
theorem Wd.val_of {H0 H : Hp} {D : Addr} {T : WT} (h : Wd H0 H D T) {e : Str × Addr × List Int} (he : e ∈ T) : valV (wkvs T) (.inr e.1) = some (.ref e.2.1) := by
  have kd := h.kd
  unfold wkvs
  clear h
  induction T with
  | nil => cases he
  | cons a r ih =>
    rw [List.map_cons] at kd ⊢
    rw [List.nodup_cons] at kd
    unfold valV
    rcases List.mem_cons.mp he with e1 | m
    · subst e1
      rw [List.find?_cons_of_pos (by simp)]
      rfl
    · have ne : ¬ a.1 = e.1 := fun z => kd.1 (by rw [z]; exact List.mem_map_of_mem m)
      rw [List.find?_cons_of_neg (by simpa using ne)]
      exact ih m kd.2
theorem wkvs_none {T : WT} {z : Str} (h : z ∉ T.map (·.1)) : valV (wkvs T) (.inr z) = none := by
  unfold valV
  rw [List.find?_eq_none.mpr fun x hx => ?_]
  · rfl
  · unfold wkvs at hx
    obtain ⟨e, he, rfl⟩ := List.mem_map.mp hx
    have : ¬ e.1 = z := fun y => h (y ▸ List.mem_map_of_mem he)
    simpa using this
theorem wkvs_put {T : WT} {z : Str} {r : Addr} (h : z ∉ T.map (·.1)) : putK (wkvs T) (.inr z) (.ref r) = wkvs (T ++ [(z, r, [])]) := by
  unfold putK
  rw [if_neg, show wkvs (T ++ [(z, r, [])]) = wkvs T ++ [((Sum.inr z : Key), V.ref r)] by unfold wkvs; rw [List.map_append]; rfl]
  intro y
  obtain ⟨x, hx, e⟩ := List.any_eq_true.mp y
  unfold wkvs at hx
  obtain ⟨e2, he, rfl⟩ := List.mem_map.mp hx
  have := of_decide_eq_true e
  exact h ((Sum.inr.inj this) ▸ List.mem_map_of_mem he)
def bump (T : WT) (z : Str) (n : Int) : WT := T.map fun x => if x.1 = z then (x.1, x.2.1, x.2.2 ++ [n]) else x
theorem bump_keys (T : WT) (z : Str) (n : Int) : (bump T z n).map (·.1) = T.map (·.1) := by
  unfold bump
  rw [List.map_map]
  refine List.map_congr_left fun x _ => ?_
  show (if x.1 = z then (x.1, x.2.1, x.2.2 ++ [n]) else x).1 = x.1
  split <;> rfl
theorem bump_refs (T : WT) (z : Str) (n : Int) : (bump T z n).map (·.2.1) = T.map (·.2.1) := by
  unfold bump
  rw [List.map_map]
  refine List.map_congr_left fun x _ => ?_
  show (if x.1 = z then (x.1, x.2.1, x.2.2 ++ [n]) else x).2.1 = x.2.1
  split <;> rfl
theorem bump_kvs (T : WT) (z : Str) (n : Int) : wkvs (bump T z n) = wkvs T := by
  unfold bump wkvs
  rw [List.map_map]
  refine List.map_congr_left fun x _ => ?_
  show ((Sum.inr (if x.1 = z then (x.1, x.2.1, x.2.2 ++ [n]) else x).1 : Key), V.ref (if x.1 = z then (x.1, x.2.1, x.2.2 ++ [n]) else x).2.1) = _
  split <;> rfl
theorem Wd.rne {H0 H : Hp} {D : Addr} {T : WT} (h : Wd H0 H D T) {e : Str × Addr × List Int} (he : e ∈ T) : e.2.1 ≠ D := fun z => by
  have := (h.row e he).1
  rw [z, h.at_] at this
  cases this
theorem nodup_key {T : WT} (h : (T.map (·.1)).Nodup) {e f : Str × Addr × List Int} (he : e ∈ T) (hf : f ∈ T) (k : e.1 = f.1) : e = f := by
  induction T with
  | nil => cases he
  | cons a r ih =>
    rw [List.map_cons, List.nodup_cons] at h
    rcases List.mem_cons.mp he with e1 | m1 <;> rcases List.mem_cons.mp hf with e2 | m2
    · rw [e1, e2]
    · exact (h.1 (by rw [← e1, k]; exact List.mem_map_of_mem (f := fun x : Str × Addr × List Int => x.1) m2)).elim
    · exact (h.1 (by rw [← e2, ← k]; exact List.mem_map_of_mem (f := fun x : Str × Addr × List Int => x.1) m1)).elim
    · exact ih h.2 m1 m2
theorem nodup_ref {T : WT} (h : (T.map (·.2.1)).Nodup) {e f : Str × Addr × List Int} (he : e ∈ T) (hf : f ∈ T) (k : e.2.1 = f.2.1) : e = f := by
  induction T with
  | nil => cases he
  | cons a r ih =>
    rw [List.map_cons, List.nodup_cons] at h
    rcases List.mem_cons.mp he with e1 | m1 <;> rcases List.mem_cons.mp hf with e2 | m2
    · rw [e1, e2]
    · exact (h.1 (by rw [← e1, k]; exact List.mem_map_of_mem (f := fun x : Str × Addr × List Int => x.2.1) m2)).elim
    · exact (h.1 (by rw [← e2, ← k]; exact List.mem_map_of_mem (f := fun x : Str × Addr × List Int => x.2.1) m1)).elim
    · exact ih h.2 m1 m2
/-- a word more -/
theorem Wd.new {H0 H : Hp} {D : Addr} {T : WT} (h : Wd H0 H D T) {z : Str} (hz : z ∉ T.map (·.1)) {r : Addr} (nr : H r = none) : Wd H0 (upd (upd H r (.lst [])) D (.dK (wkvs (T ++ [(z, r, [])])))) D (T ++ [(z, r, [])]) := by
  have rD : r ≠ D := fun e => by rw [e, h.at_] at nr; cases nr
  refine ⟨upd_same, same_mut (h.sm.trans (same_new nr)) h.nD, h.nD, ?_, ?_, fun e m => ?_⟩
  · rw [List.map_append, List.nodup_append]
    exact ⟨h.kd, by simp, fun a ha b hb e => by rw [List.mem_singleton.mp hb] at e; exact hz (by rw [← show a = z from e]; exact ha)⟩
  · rw [List.map_append, List.nodup_append]
    refine ⟨h.rd, by simp, fun a ha b hb e => ?_⟩
    rw [List.mem_singleton.mp hb] at e
    obtain ⟨x, hx, rfl⟩ := List.mem_map.mp ha
    have := (h.row x hx).1
    rw [show x.2.1 = r from e, nr] at this
    cases this
  · rcases List.mem_append.mp m with m | m
    · rw [upd_ne (h.rne m)]
      exact ⟨same_new nr _ _ (h.row e m).1, (h.row e m).2⟩
    · rw [List.mem_singleton.mp m]
      exact ⟨by rw [upd_ne rD]; exact upd_same, h.sm.free nr⟩
/-- a number more behind a word -/
theorem Wd.app {H0 H : Hp} {D : Addr} {T : WT} (h : Wd H0 H D T) {e : Str × Addr × List Int} (he : e ∈ T) (n : Int) : Wd H0 (upd H e.2.1 (.lst (e.2.2.map V.int ++ [.int n]))) D (bump T e.1 n) := by
  refine ⟨?_, same_mut h.sm (h.row e he).2, h.nD, by rw [bump_keys]; exact h.kd, by rw [bump_refs]; exact h.rd, fun x hx => ?_⟩
  · rw [upd_ne (fun z => h.rne he z.symm), bump_kvs]
    exact h.at_
  · unfold bump at hx
    obtain ⟨y, hy, rfl⟩ := List.mem_map.mp hx
    by_cases c : y.1 = e.1
    · have := nodup_key h.kd hy he c
      subst this
      rw [if_pos rfl]
      exact ⟨by rw [List.map_append]; exact upd_same, (h.row y hy).2⟩
    · rw [if_neg c]
      rw [upd_ne (fun z => c (congrArg (·.1) (nodup_ref h.rd hy he z)))]
      exact h.row y hy
theorem WdOf.bump {T : WT} {O : Occ} {z : Str} {n : Int} (hs : ∀ y, y ∈ T.map (·.1) ↔ y ∈ O.map (·.1) ∨ y = z) (hv : ∀ e ∈ T, e.2.2 = (O.filter fun o => decide (o.1 = e.1)).map (·.2)) : WdOf (SH.bump T z n) (O ++ [(z, n)]) := by
  refine ⟨fun y => ?_, fun e he => ?_⟩
  · rw [bump_keys, hs y, List.map_append, List.mem_append]
    exact or_congr Iff.rfl List.mem_singleton.symm
  · unfold SH.bump at he
    obtain ⟨x, hx, rfl⟩ := List.mem_map.mp he
    rw [List.filter_append, List.map_append]
    by_cases c : x.1 = z
    · rw [if_pos c]
      show x.2.2 ++ [n] = (O.filter fun o => decide (o.1 = x.1)).map (·.2) ++ ([((z, n) : Str × Int)].filter fun o => decide (o.1 = x.1)).map (·.2)
      rw [← hv x hx, List.filter_cons_of_pos (p := fun o : Str × Int => decide (o.1 = x.1)) (decide_eq_true (show z = x.1 from c.symm))]
      rfl
    · rw [if_neg c]
      show x.2.2 = (O.filter fun o => decide (o.1 = x.1)).map (·.2) ++ ([((z, n) : Str × Int)].filter fun o => decide (o.1 = x.1)).map (·.2)
      rw [← hv x hx, List.filter_cons_of_neg (p := fun o : Str × Int => decide (o.1 = x.1)) (by simpa using fun y : z = x.1 => c y.symm)]
      exact (List.append_nil _).symm
theorem Wd.same {H0 H H' : Hp} {D : Addr} {T : WT} (s : Same H H') (h : Wd H0 H D T) : Wd H0 H' D T := ⟨s _ _ h.at_, h.sm.trans s, h.nD, h.kd, h.rd, fun e m => ⟨s _ _ (h.row e m).1, (h.row e m).2⟩⟩
/-! ### the stretches of a house -/
def cutN (z : Str) (a b : Nat) : Str := cutS z (some (a : Int)) (some (b : Int))
def occA (z : Str) (n : Int) (a : Nat) (m : Nat) : Occ := (List.range m).map fun k => (cutN z a (a + 1 + k), n)
def occQ (q : Int × Str) (m : Nat) : Occ := (List.range m).flatMap fun a => occA q.2 q.1 a (q.2.length - a)
def occ (h : List (Int × Str)) : Occ := h.flatMap fun q => occQ q q.2.length
theorem occA_succ (z : Str) (n : Int) (a m : Nat) : occA z n a (m + 1) = occA z n a m ++ [(cutN z a (a + 1 + m), n)] := by
  unfold occA
  rw [List.range_succ, List.map_append]
  rfl
theorem occQ_succ (q : Int × Str) (m : Nat) : occQ q (m + 1) = occQ q m ++ occA q.2 q.1 m (q.2.length - m) := by
  unfold occQ
  rw [List.range_succ, List.flatMap_append]
  simp
theorem occ_snoc (h : List (Int × Str)) (q : Int × Str) : occ (h ++ [q]) = occ h ++ occQ q q.2.length := by
  unfold occ
  rw [List.flatMap_append]
  simp
end SH
set_option Elab.async false
set_option linter.all false
set_option maxRecDepth 100000
set_option maxHeartbeats 4000000
/-! all stretches, each once, by their number of letters and then as texts -/
namespace SH
open PySem PySem.Spec PyProof.Rows L2
def leL (x y : Str) : Prop := x.length < y.length ∨ (x.length = y.length ∧ x.cps.toList ≤ y.cps.toList)
structure StrL (O : List Str) (l : List Str) : Prop where
  nd : l.Nodup
  pw : l.Pairwise leL
  mem : ∀ z, z ∈ l ↔ z ∈ O
theorem two_of {α : Type} [DecidableEq α] : ∀ {l : List α} {a b : α}, a ∈ l → b ∈ l → a ≠ b → [a, b].Sublist l ∨ [b, a].Sublist l
  | x :: r, a, b, ha, hb, n => by
    rcases List.mem_cons.mp ha with e1 | m1 <;> rcases List.mem_cons.mp hb with e2 | m2
    · exact absurd (e1.trans e2.symm) n
    · subst e1
      exact .inl ((List.singleton_sublist.mpr m2).cons_cons a)
    · subst e2
      exact .inr ((List.singleton_sublist.mpr m1).cons_cons b)
    · rcases two_of m1 m2 n with h | h
      · exact .inl (h.cons x)
      · exact .inr (h.cons x)
theorem two_not {α : Type} : ∀ {l : List α} {a b : α}, l.Nodup → [a, b].Sublist l → [b, a].Sublist l → False
  | x :: r, a, b, nd, h1, h2 => by
    obtain ⟨nx, nr⟩ := List.nodup_cons.mp nd
    rcases List.sublist_cons_iff.mp h1 with h1 | ⟨r1, e1, h1⟩ <;> rcases List.sublist_cons_iff.mp h2 with h2 | ⟨r2, e2, h2⟩
    · exact two_not nr h1 h2
    · cases e2
      exact nx (h1.subset (by simp))
    · cases e1
      exact nx (h2.subset (by simp))
    · cases e1
      cases e2
      exact nx (List.singleton_sublist.mp h1)
theorem lenSort {l : List Str} (nd : l.Nodup) (pw : l.Pairwise fun x y => x.cps.toList ≤ y.cps.toList) : StrL l (l.mergeSort fun x y => decide (x.length ≤ y.length)) := by
  have pm := List.mergeSort_perm l fun x y => decide (x.length ≤ y.length)
  have tr : ∀ a b c : Str, decide (a.length ≤ b.length) = true → decide (b.length ≤ c.length) = true → decide (a.length ≤ c.length) = true := fun a b c h1 h2 => decide_eq_true (Nat.le_trans (of_decide_eq_true h1) (of_decide_eq_true h2))
  have tot : ∀ a b : Str, (decide (a.length ≤ b.length) || decide (b.length ≤ a.length)) = true := fun a b => by
    rcases Nat.le_total a.length b.length with h | h
    · rw [decide_eq_true h]; rfl
    · rw [decide_eq_true h, Bool.or_true]
  have pl := List.pairwise_mergeSort tr tot l
  have nr := pm.nodup_iff.mpr nd
  refine ⟨nr, ?_, fun z => pm.mem_iff⟩
  rw [List.pairwise_iff_forall_sublist]
  intro a b hab
  have h1 : a.length ≤ b.length := of_decide_eq_true (List.pairwise_iff_forall_sublist.mp pl hab)
  rcases Nat.lt_or_ge a.length b.length with h | h
  · exact .inl h
  · have e : a.length = b.length := Nat.le_antisymm h1 h
    refine .inr ⟨e, ?_⟩
    by_cases c : a = b
    · rw [c]; exact List.le_refl _
    · have ma := pm.mem_iff.mp (hab.subset (List.mem_cons_self ..))
      have mb := pm.mem_iff.mp (hab.subset (by simp : b ∈ [a, b]))
      rcases two_of ma mb c with s | s
      · exact List.pairwise_iff_forall_sublist.mp pw s
      · exact (two_not nr hab (List.pair_sublist_mergeSort tr tot (decide_eq_true h) s)).elim
theorem leL_anti {x y : Str} (h1 : leL x y) (h2 : leL y x) : x = y := by
  rcases h1 with a | ⟨a, b⟩ <;> rcases h2 with c | ⟨c, d⟩
  · omega
  · omega
  · omega
  · exact str_ext (List.le_antisymm b d)
theorem StrL.uniq {O l m : List Str} (h : StrL O l) (k : StrL O m) : l = m :=
  ((List.perm_ext_iff_of_nodup h.nd k.nd).mpr fun z => (h.mem z).trans (k.mem z).symm).eq_of_pairwise (fun a b _ _ => leL_anti) h.pw k.pw
theorem StrL.cong {O O' l : List Str} (h : StrL O l) (e : ∀ z, z ∈ O ↔ z ∈ O') : StrL O' l := ⟨h.nd, h.pw, fun z => (h.mem z).trans (e z)⟩
/-! ### a set of texts that grows -/
/-- at D stands a set of just these texts -/
def SetS (w : World) (H0 H : Hp) (D : Addr) (O : List Str) : Prop := ∃ (S : Key → Bool) (n : Nat), H D = some (SetMO w D S n) ∧ (∀ k, S k = true ↔ ∃ z : Str, k = .inr z ∧ z ∈ O) ∧ n ≤ O.length ∧ Same H0 H
theorem SetS.nil {w : World} {H0 : Hp} {D : Addr} (h : H0 D = none) : SetS w H0 (upd H0 D (SetMO w D (fun _ => false) 0)) D [] :=
  ⟨_, 0, upd_same, fun k => ⟨fun z => (by cases z), fun z => (by obtain ⟨_, _, z⟩ := z; cases z)⟩, Nat.le_refl _, same_new h⟩
theorem SetS.put {w : World} {H0 H : Hp} {D : Addr} {O : List Str} (nD : H0 D = none) (h : SetS w H0 H D O) (z : Str) (hl : O.length < 4000) {Q : Hp → Prop} (q : ∀ H', SetS w H0 H' D (O ++ [z]) → Q H') :
    ∃ (k : Key) (S : Key → Bool) (n : Nat), V.str z = kV k ∧ H D = some (SetMO w D S n) ∧ n + 1 < scanBound ∧ Q (upd H D (SetMO w D (fun j => S j || decide (j = k)) (if S k = true then n else n + 1))) := by
  obtain ⟨S, n, hD, hS, hn, sm⟩ := h
  refine ⟨.inr z, S, n, rfl, hD, ?_, q _ ⟨_, _, upd_same, fun k => ?_, ?_, same_mut sm nD⟩⟩
  · have : scanBound = 4096 := rfl
    omega
  · rw [Bool.or_eq_true, hS k, decide_eq_true_eq]
    constructor
    · rintro (⟨y, e, m⟩ | e)
      · exact ⟨y, e, List.mem_append_left _ m⟩
      · exact ⟨z, e, List.mem_append_right _ (List.mem_singleton.mpr rfl)⟩
    · rintro ⟨y, e, m⟩
      rcases List.mem_append.mp m with m | m
      · exact .inl ⟨y, e, m⟩
      · exact .inr (by rw [e, List.mem_singleton.mp m])
  · rw [List.length_append]
    show (if S (.inr z) = true then n else n + 1) ≤ O.length + 1
    split <;> omega
end SH
set_option Elab.async false
set_option linter.all false
set_option maxRecDepth 100000
set_option maxHeartbeats 4000000
/-! shortest single stretches -/
namespace SH
open PySem PySem.Spec PyProof.Rows L2
theorem cutN_tl {z : Str} {a b : Nat} (h1 : a ≤ b) (h2 : b ≤ z.length) : TL.tl (cutN z a b) = ((TL.tl z).drop a).take (b - a) := by
  unfold cutN
  have e : (b : Int) = (a : Int) + ((b - a : Nat) : Int) := by omega
  rw [e]
  exact cut_mid (by omega)
theorem cutN_len {z : Str} {a b : Nat} (h1 : a ≤ b) (h2 : b ≤ z.length) : (cutN z a b).length = b - a := by
  have := congrArg List.length (cutN_tl h1 h2)
  rw [List.length_take, List.length_drop] at this
  have e1 : (TL.tl (cutN z a b)).length = (cutN z a b).length := rfl
  have e2 : (TL.tl z).length = z.length := rfl
  omega
theorem cutN_is {z w : Str} {m k : Nat} (hm : m + 1 + k ≤ z.length) : cutN z m (m + 1 + k) = w ↔ (k + 1 = w.length ∧ standsP w z m = true) := by
  have tl := cutN_tl (z := z) (a := m) (b := m + 1 + k) (by omega) hm
  rw [show m + 1 + k - m = k + 1 by omega] at tl
  constructor
  · intro h
    have hl := cutN_len (z := z) (a := m) (b := m + 1 + k) (by omega) hm
    rw [h] at hl tl
    refine ⟨by omega, decide_eq_true ?_⟩
    rw [hl, show m + 1 + k - m = k + 1 by omega]
    exact tl.symm
  · rintro ⟨h1, h2⟩
    refine str_ext ?_
    show TL.tl (cutN z m (m + 1 + k)) = TL.tl w
    rw [tl, h1]
    exact of_decide_eq_true h2
theorem range_one (n : Nat) : ∀ c : Nat, ((List.range c).filter fun k => decide (k + 1 = n)).length = if 0 < n ∧ n ≤ c then 1 else 0
  | 0 => by
    rw [if_neg (by omega)]
    rfl
  | c + 1 => by
    rw [List.range_succ, List.filter_append, List.length_append, range_one n c]
    by_cases h : c + 1 = n
    · rw [if_neg (by omega), if_pos (by omega), List.filter_cons_of_pos (p := fun k => decide (k + 1 = n)) (decide_eq_true h)]
      rfl
    · rw [List.filter_cons_of_neg (p := fun k => decide (k + 1 = n)) (by simpa using h)]
      by_cases h2 : 0 < n ∧ n ≤ c
      · rw [if_pos h2, if_pos (by omega)]
        rfl
      · rw [if_neg h2, if_neg (by omega)]
        rfl
theorem occA_cnt {z w : Str} {n : Int} {m : Nat} (hm : m < z.length) (hw : 0 < w.length) : ((occA z n m (z.length - m)).filter fun o => decide (o.1 = w)).length = if standsP w z m = true then 1 else 0 := by
  unfold occA
  rw [List.filter_map, List.length_map]
  have e : (List.range (z.length - m)).filter ((fun o : Str × Int => decide (o.1 = w)) ∘ fun k => (cutN z m (m + 1 + k), n)) = (List.range (z.length - m)).filter fun k => decide (k + 1 = w.length ∧ standsP w z m = true) := by
    refine List.filter_congr fun k hk => ?_
    have := List.mem_range.mp hk
    exact decide_eq_decide.mpr (cutN_is (by omega))
  rw [e]
  by_cases s : standsP w z m = true
  · rw [if_pos s]
    have : (List.range (z.length - m)).filter (fun k => decide (k + 1 = w.length ∧ standsP w z m = true)) = (List.range (z.length - m)).filter fun k => decide (k + 1 = w.length) :=
      List.filter_congr fun k _ => decide_eq_decide.mpr ⟨fun h => h.1, fun h => ⟨h, s⟩⟩
    rw [this, range_one, if_pos]
    have := stands_le s (by omega)
    omega
  · rw [if_neg s, List.filter_eq_nil_iff.mpr fun k _ h => s (of_decide_eq_true h).2]
    rfl
theorem occQ_cnt {q : Int × Str} {w : Str} (hw : 0 < w.length) : ∀ m, m ≤ q.2.length → ((occQ q m).filter fun o => decide (o.1 = w)).length = ((List.range m).filter (standsP w q.2)).length
  | 0, _ => rfl
  | m + 1, h => by
    rw [occQ_succ, List.filter_append, List.length_append, occQ_cnt hw m (by omega), occA_cnt (by omega) hw, List.range_succ, List.filter_append, List.length_append]
    congr 1
    by_cases s : standsP w q.2 m = true
    · rw [if_pos s, List.filter_cons_of_pos s]; rfl
    · rw [if_neg s, List.filter_cons_of_neg s]; rfl
/-- as many numbers as places -/
theorem occ_cnt {w : Str} (hw : 0 < w.length) : ∀ h : List (Int × Str), ((occ h).filter fun o => decide (o.1 = w)).length = (plc h w).length
  | [] => rfl
  | q :: r => by
    have e1 : occ (q :: r) = occQ q q.2.length ++ occ r := rfl
    have e2 : plc (q :: r) w = plcOf w q ++ plc r w := rfl
    rw [e1, e2, List.filter_append, List.length_append, List.length_append, occ_cnt hw r, occQ_cnt hw _ (Nat.le_refl _)]
    congr 1
    unfold plcOf
    rw [List.length_map, List.range_succ, List.filter_append, List.length_append]
    have : standsP w q.2 q.2.length = false := by
      cases s : standsP w q.2 q.2.length with
      | false => rfl
      | true =>
        have := stands_le s (Nat.le_refl _)
        omega
    rw [List.filter_cons_of_neg (by rw [this]; decide)]
    rfl
theorem occ_mem {h : List (Int × Str)} {q : Int × Str} (hq : q ∈ h) {a b : Nat} (h1 : a < b) (h2 : b ≤ q.2.length) : cutN q.2 a b ∈ (occ h).map (·.1) := by
  have : ∀ m, a < m → m ≤ q.2.length → (cutN q.2 a b, q.1) ∈ occQ q m := fun m => by
    induction m with
    | zero => intro h; omega
    | succ m ih =>
      intro c1 c2
      rw [occQ_succ]
      rcases Nat.lt_or_ge a m with c | c
      · exact List.mem_append_left _ (ih c (by omega))
      · refine List.mem_append_right _ ?_
        rw [show m = a by omega]
        unfold occA
        exact List.mem_map.mpr ⟨b - a - 1, List.mem_range.mpr (by omega), by rw [show a + 1 + (b - a - 1) = b by omega]⟩
  exact List.mem_map.mpr ⟨_, List.mem_flatMap.mpr ⟨q, hq, this _ (by omega) (Nat.le_refl _)⟩, rfl⟩
/-- a stretch over a letter, that stands once -/
def Sgl (h : List (Int × Str)) (z : Str) (i : Nat) (s m : Nat) : Prop := s ≤ i ∧ i < s + m ∧ s + m ≤ z.length ∧ (plc h (cutN z s (s + m))).length = 1
/-- the least: by size, then by start -/
def LeastS (h : List (Int × Str)) (z : Str) (i : Nat) : Option (Nat × Nat) → Prop
  | none => ∀ s m, ¬ Sgl h z i s m
  | some (s, m) => Sgl h z i s m ∧ ∀ s' m', Sgl h z i s' m' → m < m' ∨ (m = m' ∧ s ≤ s')
theorem leastS_uniq {h : List (Int × Str)} {z : Str} {i : Nat} : ∀ {a b : Option (Nat × Nat)}, LeastS h z i a → LeastS h z i b → a = b
  | none, none, _, _ => rfl
  | none, some (s, m), h1, h2 => absurd h2.1 (h1 s m)
  | some (s, m), none, h1, h2 => absurd h1.1 (h2 s m)
  | some (s, m), some (s', m'), h1, h2 => by
    have a := h1.2 s' m' h2.1
    have b := h2.2 s m h1.1
    have : m = m' ∧ s = s' := by omega
    rw [this.1, this.2]
/-- how it is told -/
def AtS (_ : PySem.W.Frag) (H : Hp) (v : V) : Option (Nat × Nat) → Prop
  | none => v = .non
  | some (s, m) => ∃ t, v = .ref t ∧ H t = some (.tup [.int (s : Int), .int ((s + m : Nat) : Int)])
def dS : Option (Nat × Nat) → PyData
  | none => .none
  | some (s, m) => .tuple [.int (s : Int), .int ((s + m : Nat) : Int)]
theorem AtS.dp {K : PySem.W.Frag} {H : Hp} {v : V} : ∀ {r : Option (Nat × Nat)}, AtS K H v r → Dp K H v (dS r)
  | none, h => by rw [show v = .non from h]; exact .non
  | some (s, m), h => by
    obtain ⟨t, rfl, ht⟩ := h
    exact .tup (.inl (.inl ht)) (.cons (.int _) (.cons (.int _) .nil))
theorem AtS.same {K : PySem.W.Frag} {H H' : Hp} {v : V} (e : Same H H') : ∀ {r : Option (Nat × Nat)}, AtS K H v r → AtS K H' v r
  | none, h => h
  | some (s, m), h => by
    obtain ⟨t, rfl, ht⟩ := h
    exact ⟨t, rfl, e _ _ ht⟩
theorem okd_S : ∀ r : Option (Nat × Nat), Okd (dS r)
  | none => okd_non
  | some (s, m) => ⟨rfl, by show max 0 (max 0 0) + 1 ≤ 60; decide⟩
end SH
set_option Elab.async false
set_option linter.all false
set_option maxRecDepth 100000
set_option maxHeartbeats 4000000
/-! how many texts have how many letters -/
namespace SH
open PySem PySem.Spec PyProof.Rows L2
def cntOf (k : Nat) (p : List Str) : Nat := (p.filter fun z => decide (z.length = k + 1)).length
def cntsTo (m : Nat) (p : List Str) : List Int := (List.range m).map fun k => ((cntOf k p : Nat) : Int)
theorem cntsTo_len (m : Nat) (p : List Str) : (cntsTo m p).length = m := by unfold cntsTo; rw [List.length_map, List.length_range]
theorem cntOf_snoc (k : Nat) (p : List Str) (w : Str) : cntOf k (p ++ [w]) = cntOf k p + (if w.length = k + 1 then 1 else 0) := by
  unfold cntOf
  rw [List.filter_append, List.length_append]
  by_cases c : w.length = k + 1
  · simp [c]
  · simp [c]
theorem cntOf_zero {k : Nat} {p : List Str} (h : ∀ z ∈ p, z.length ≤ k) : cntOf k p = 0 := by
  unfold cntOf
  rw [List.filter_eq_nil_iff.mpr fun z hz hd => by have := h z hz; have := of_decide_eq_true hd; omega]
  rfl
theorem cntsTo_grow {m : Nat} {p : List Str} (h : ∀ z ∈ p, z.length ≤ m) : cntsTo m p ++ [0] = cntsTo (m + 1) p := by
  unfold cntsTo
  rw [List.range_succ, List.map_append]
  show _ = _ ++ [((cntOf m p : Nat) : Int)]
  rw [cntOf_zero h]
  rfl
theorem cntsTo_at (m : Nat) (p : List Str) : atI ((cntsTo (m + 1) p).map V.int) (-1) = some (.int ((cntOf m p : Nat) : Int)) := by
  unfold cntsTo
  rw [List.range_succ, List.map_append, List.map_append]
  exact atI_last _ _
theorem cntsTo_ix (m : Nat) (p : List Str) : ixN ((cntsTo (m + 1) p).map V.int).length (-1) = some m := by
  rw [List.length_map, cntsTo_len]
  unfold ixN
  rw [if_neg (by decide), if_pos (by omega)]
  congr 1
  omega
theorem cntsTo_set {m : Nat} {p : List Str} {w : Str} (h : w.length = m + 1) : ((cntsTo (m + 1) p).map V.int).set m (.int (((cntOf m p : Nat) : Int) + 1)) = (cntsTo (m + 1) (p ++ [w])).map V.int := by
  rw [← List.map_set]
  congr 1
  refine List.ext_getElem? fun k => ?_
  unfold cntsTo
  rw [List.getElem?_set, List.getElem?_map, List.getElem?_map, List.length_map, List.length_range]
  rcases Nat.lt_or_ge k (m + 1) with c | c
  · rw [List.getElem?_range c]
    by_cases e : m = k
    · subst e
      rw [if_pos rfl, if_pos c]
      show some _ = some _
      congr 1
      show _ = ((cntOf m (p ++ [w]) : Nat) : Int)
      rw [cntOf_snoc, if_pos h]
      omega
    · rw [if_neg e]
      show some _ = some _
      congr 1
      show ((cntOf k p : Nat) : Int) = ((cntOf k (p ++ [w]) : Nat) : Int)
      rw [cntOf_snoc, if_neg (by omega)]
      rfl
  · rw [if_neg (by omega), List.getElem?_eq_none (by rw [List.length_range]; exact c)]
    rfl
theorem cntOf_perm {k : Nat} {p q : List Str} (h : p.Perm q) : cntOf k p = cntOf k q := (h.filter _).length_eq
theorem cntsTo_perm {m : Nat} {p q : List Str} (h : p.Perm q) : cntsTo m p = cntsTo m q := by
  unfold cntsTo
  exact List.map_congr_left fun k _ => by rw [cntOf_perm h]
/-- the longest -/
structure MaxL (m : Nat) (p : List Str) : Prop where
  le : ∀ z ∈ p, z.length ≤ m
  has : m = 0 ∨ ∃ z ∈ p, z.length = m
theorem MaxL.uniq {m n : Nat} {p : List Str} (h : MaxL m p) (k : MaxL n p) : m = n := by
  rcases h.has with a | ⟨z, hz, a⟩ <;> rcases k.has with b | ⟨y, hy, b⟩
  · omega
  · have := h.le y hy; omega
  · have := k.le z hz; omega
  · have := h.le y hy
    have := k.le z hz
    omega
theorem MaxL.perm {m : Nat} {p q : List Str} (e : ∀ z, z ∈ p ↔ z ∈ q) (h : MaxL m p) : MaxL m q := ⟨fun z hz => h.le z ((e z).mpr hz), h.has.imp id fun ⟨z, hz, a⟩ => ⟨z, (e z).mp hz, a⟩⟩
theorem occ_isStr {h : List (Int × Str)} {p : List Nat} : p ∈ ((occ h).map (·.1)).map TL.tl ↔ isStr h p := by
  rw [← mem_cutsH]
  have key : ∀ q : Int × Str, p ∈ ((occQ q q.2.length).map (·.1)).map TL.tl ↔ p ∈ cutsZ q.2 := fun q => by
    unfold occQ cutsZ
    rw [List.map_flatMap, List.map_flatMap, List.mem_flatMap, List.mem_flatMap]
    have e : ∀ s ∈ List.range q.2.length, ((occA q.2 q.1 s (q.2.length - s)).map (·.1)).map TL.tl = cuts q.2 s := fun s hs => by
      have hs := List.mem_range.mp hs
      unfold occA cuts
      rw [List.map_map, List.map_map]
      refine List.map_congr_left fun k hk => ?_
      have hk := List.mem_range.mp hk
      show TL.tl (cutN q.2 s (s + 1 + k)) = _
      rw [cutN_tl (by omega) (by omega), show s + 1 + k - s = k + 1 by omega]
    exact ⟨fun ⟨s, hs, hp⟩ => ⟨s, hs, (e s hs) ▸ hp⟩, fun ⟨s, hs, hp⟩ => ⟨s, hs, (e s hs).symm ▸ hp⟩⟩
  unfold occ cutsH
  rw [List.map_flatMap, List.map_flatMap, List.mem_flatMap, List.mem_flatMap]
  exact ⟨fun ⟨q, hq, hp⟩ => ⟨q, hq, (key q).mp hp⟩, fun ⟨q, hq, hp⟩ => ⟨q, hq, (key q).mpr hp⟩⟩
theorem tl_inj {x y : Str} (h : TL.tl x = TL.tl y) : x = y := str_ext h
theorem strN_occ {h : List (Int × Str)} {l : List Str} (nd : l.Nodup) (hm : ∀ z, z ∈ l ↔ z ∈ (occ h).map (·.1)) : l.length = strN h := by
  have := strN_of (h := h) (l := l.map TL.tl) (by rw [List.Nodup, List.pairwise_map]; exact nd.imp fun n e => n (tl_inj e)) fun p => by
    rw [← occ_isStr, List.mem_map, List.mem_map]
    exact ⟨fun ⟨z, hz, e⟩ => ⟨z, (hm z).mp hz, e⟩, fun ⟨z, hz, e⟩ => ⟨z, (hm z).mpr hz, e⟩⟩
  rw [List.length_map] at this
  exact this
/-- letters are left out at the end -/
theorem occ_pos {h : List (Int × Str)} {z : Str} (hm : z ∈ (occ h).map (·.1)) : 0 < z.length := by
  obtain ⟨o, ho, rfl⟩ := List.mem_map.mp hm
  obtain ⟨q, hq, ho⟩ := List.mem_flatMap.mp ho
  obtain ⟨s, hs, ho⟩ := List.mem_flatMap.mp ho
  obtain ⟨k, hk, rfl⟩ := List.mem_map.mp ho
  have hs := List.mem_range.mp hs
  have hk := List.mem_range.mp hk
  show 0 < (cutN q.2 s (s + 1 + k)).length
  have e := cutN_len (z := q.2) (a := s) (b := s + 1 + k) (by omega) (by omega)
  omega
theorem occ_memK {h : List (Int × Str)} {q : Int × Str} (hq : q ∈ h) {s k : Nat} (hk : s + k < q.2.length) : cutN q.2 s (s + 1 + k) ∈ (occ h).map (·.1) :=
  List.mem_map.mpr ⟨(cutN q.2 s (s + 1 + k), q.1), List.mem_flatMap.mpr ⟨q, hq, List.mem_flatMap.mpr ⟨s, List.mem_range.mpr (by omega), List.mem_map.mpr ⟨k, List.mem_range.mpr (by omega), rfl⟩⟩⟩, rfl⟩
theorem occ_less {h : List (Int × Str)} {z : Str} {m : Nat} (hm : z ∈ (occ h).map (·.1)) (hz : z.length = m + 2) : ∃ y ∈ (occ h).map (·.1), y.length = m + 1 := by
  obtain ⟨o, ho, rfl⟩ := List.mem_map.mp hm
  obtain ⟨q, hq, ho⟩ := List.mem_flatMap.mp ho
  obtain ⟨s, hs, ho⟩ := List.mem_flatMap.mp ho
  obtain ⟨k, hk, rfl⟩ := List.mem_map.mp ho
  have hs := List.mem_range.mp hs
  have hk := List.mem_range.mp hk
  have e := cutN_len (z := q.2) (a := s) (b := s + 1 + k) (by omega) (by omega)
  have hz : (cutN q.2 s (s + 1 + k)).length = m + 2 := hz
  refine ⟨_, occ_memK hq (s := s) (k := m) (by omega), ?_⟩
  have := cutN_len (z := q.2) (a := s) (b := s + 1 + m) (by omega) (by omega)
  omega
theorem maxL_next {h : List (Int × Str)} {l : List Str} (hl : StrL ((occ h).map (·.1)) l) {i : Nat} {w : Str} (hw : l[i]? = some w) {m : Nat} (hm : MaxL m (l.take i)) : (m = w.length ∨ m + 1 = w.length) ∧ 0 < w.length ∧ MaxL w.length (l.take i ++ [w]) := by
  have il : i < l.length := (List.getElem?_eq_some_iff.mp hw).1
  have wm : w ∈ l := List.mem_of_getElem? hw
  have split : l = l.take i ++ (w :: l.drop (i + 1)) := by
    have e1 := List.take_append_drop i l
    have e2 : l.drop i = w :: l.drop (i + 1) := by
      rw [List.drop_eq_getElem_cons il]
      congr 1
      exact Option.some.inj ((List.getElem?_eq_getElem il).symm.trans hw)
    rw [e2] at e1
    exact e1.symm
  have pw := hl.pw
  rw [split, List.pairwise_append] at pw
  obtain ⟨_, p2, p3⟩ := pw
  rw [List.pairwise_cons] at p2
  have lel : ∀ {x y : Str}, leL x y → x.length ≤ y.length := fun h => by rcases h with h | ⟨h, _⟩ <;> omega
  have a1 : m ≤ w.length := by
    rcases hm.has with e | ⟨z, hz, e⟩
    · omega
    · have := lel (p3 z hz w (List.mem_cons_self ..))
      omega
  have pos := occ_pos ((hl.mem w).mp wm)
  refine ⟨?_, pos, ⟨fun z hz => ?_, .inr ⟨w, by simp, rfl⟩⟩⟩
  · rcases Nat.lt_or_ge (m + 1) w.length with c | c
    · obtain ⟨y, hy, ey⟩ := occ_less ((hl.mem w).mp wm) (m := w.length - 2) (by omega)
      have ym := (hl.mem y).mpr hy
      rw [split] at ym
      rcases List.mem_append.mp ym with m1 | m1
      · have := hm.le y m1
        omega
      · rcases List.mem_cons.mp m1 with e | m2
        · rw [e] at ey
          omega
        · have := lel (p2.1 y m2)
          omega
    · omega
  · rcases List.mem_append.mp hz with m1 | m1
    · exact lel (p3 z m1 w (List.mem_cons_self ..))
    · rw [List.mem_singleton.mp m1]
      exact Nat.le_refl _
theorem filter_both {α : Type} (f : α → Bool) : ∀ p : List α, p.length = (p.filter f).length + (p.filter fun z => !f z).length
  | [] => rfl
  | x :: r => by
    have ih := filter_both f r
    cases e : f x with
    | true =>
      rw [List.filter_cons_of_pos e, List.filter_cons_of_neg (by rw [e]; decide), List.length_cons, List.length_cons]
      omega
    | false =>
      rw [List.filter_cons_of_neg (by rw [e]; decide), List.filter_cons_of_pos (by rw [e]; rfl), List.length_cons, List.length_cons]
      omega
/-- all of them together -/
theorem cnts_sum : ∀ {p : List Str} {m : Nat}, (∀ z ∈ p, 0 < z.length ∧ z.length ≤ m) → (cntsTo m p).sum = (p.length : Int)
  | p, 0, h => by
    have : p = [] := List.eq_nil_iff_forall_not_mem.mpr fun z hz => by have := h z hz; omega
    subst this
    rfl
  | p, m + 1, h => by
    have e1 : (cntsTo (m + 1) p) = cntsTo m (p.filter fun z => decide (z.length ≤ m)) ++ [((cntOf m p : Nat) : Int)] := by
      unfold cntsTo
      rw [List.range_succ, List.map_append]
      congr 1
      refine List.map_congr_left fun k hk => ?_
      have hk := List.mem_range.mp hk
      show ((cntOf k p : Nat) : Int) = _
      unfold cntOf
      rw [List.filter_filter]
      congr 2
      refine List.filter_congr fun z _ => ?_
      by_cases c : z.length = k + 1
      · rw [decide_eq_true c, decide_eq_true (by omega : z.length ≤ m)]
        rfl
      · rw [decide_eq_false c]
        rfl
    have ih := cnts_sum (p := p.filter fun z => decide (z.length ≤ m)) (m := m) fun z hz => by
      obtain ⟨h1, h2⟩ := List.mem_filter.mp hz
      exact ⟨(h z h1).1, of_decide_eq_true h2⟩
    rw [e1, List.sum_append, ih]
    have : (p.filter fun z => decide (z.length ≤ m)).length + cntOf m p = p.length := by
      have e2 := filter_both (fun z : Str => decide (z.length ≤ m)) p
      have e3 : cntOf m p = (p.filter fun z => !decide (z.length ≤ m)).length := by
        unfold cntOf
        congr 1
        refine List.filter_congr fun z hz => ?_
        have := h z hz
        by_cases c : z.length = m + 1
        · rw [decide_eq_true c, decide_eq_false (by omega)]
          rfl
        · rw [decide_eq_false c, decide_eq_true (by omega)]
          rfl
      omega
    simp only [List.sum_cons, List.sum_nil]
    omega
end SH
set_option Elab.async false
set_option linter.all false
set_option maxRecDepth 100000
set_option maxHeartbeats 4000000
/-! set(a text), len(a set) -/
namespace SH
open PySem PySem.Spec PyProof.Rows L2
section
variable {prog : Program} {w : World} {A : Around} {R : Result → Shared → Prop} {I : Addr} {fp wr : List Addr} {G : Array GenState → Array GenState → Prop} {n : Nat} {P : Nat → Value → Prop} {St : Nat → Shared → Prop}
/-- how many, some of them equal -/
def nDist : List Key → Nat
  | [] => 0
  | k :: r => if r.any (fun j => decide (j = k)) = true then nDist r else nDist r + 1
theorem anyK {k : Key} {r : List Key} : r.any (fun j => decide (j = k)) = true ↔ k ∈ r := by
  rw [List.any_eq_true]
  exact ⟨fun ⟨x, hx, e⟩ => of_decide_eq_true e ▸ hx, fun h => ⟨k, h, decide_eq_true rfl⟩⟩
theorem nDist_le : ∀ l : List Key, nDist l ≤ l.length
  | [] => Nat.le_refl _
  | k :: r => by
    have := nDist_le r
    unfold nDist
    split
    · exact Nat.le_succ_of_le this
    · exact Nat.succ_le_succ this
theorem loopKey (W : WalksS prog w A.in1 I fp wr G n P St) (S : Addr) (hSf : S ∉ fp) (ks : List Key) (hsz : ks.length = n) (hn1 : n + 1 < scanBound)
    (hval : ∀ i v, P i v → ∃ k, ks[i]? = some k ∧ RelV (kV k) v) :
    ∀ (k i : Nat) (s : Shared) (S0 : Key → Bool), n - i = k → i ≤ n → St i s → (∀ j, S0 j = true ↔ j ∈ ks.take i) →
      s.heap.SetOf (mixKind prog w) S S0 (nDist (ks.take i).reverse) →
      (∀ s' S1, Moved (S :: wr) G s s' → (∀ j, S1 j = true ↔ j ∈ ks) → s'.heap.SetOf (mixKind prog w) S S1 (nDist ks.reverse) → R (.ok (.ret .none)) s') →
      codeAny (model prog w) A (.builtin "set.update.loop" ⟨[.ref S, .ref I], []⟩) R s := by
  have hSw : S ∉ wr := fun h => hSf (W.sub _ h)
  have hsub : ∀ b ∈ wr, b ∈ S :: wr := fun b hb => List.mem_cons_of_mem _ hb
  intro k
  induction k with
  | zero =>
    intro i s S0 hk hi hst hS0 hS hR
    have hin : i = n := by omega
    subst hin
    rw [List.take_of_length_le (by omega)] at hS0 hS
    refine codeAny_builtin PyProof.Rows.F.entry_set_update_loop ?_
    rw [Around.under_plainId PyProof.Rows.F.plain_set_update_loop _]
    show wpAny _ A.in1 (pyNext (.ref I) >>= _) _ _ s
    refine wpAny_bind (W.done s _ _ hst fun s' hm => ?_)
    show wpAny _ A.in1 (ret Value.none) _ _ s'
    exact wpAny_pure (hR s' S0 (hm.mono hsub) hS0 (by
      obtain ⟨o, es, ep, t, ho, rest⟩ := hS
      exact ⟨o, es, ep, t, hm.heap S _ hSw ho, rest⟩))
  | succ k ih =>
    intro i s S0 hk hi hst hS0 hS hR
    have hlt : i < n := by omega
    refine codeAny_builtin PyProof.Rows.F.entry_set_update_loop ?_
    rw [Around.under_plainId PyProof.Rows.F.plain_set_update_loop _]
    show wpAny _ A.in1 (pyNext (.ref I) >>= _) _ _ s
    refine wpAny_bind (W.item i s _ _ hlt hst fun v s' hP hst' hm => ?_)
    obtain ⟨kk, hkk, rk⟩ := hval i v hP
    have hS' : s'.heap.SetOf (mixKind prog w) S S0 (nDist (ks.take i).reverse) := by
      obtain ⟨o, es, ep, tb, ho, rest⟩ := hS
      exact ⟨o, es, ep, tb, hm.heap S _ hSw ho, rest⟩
    show wpAny _ A.in1 (holding [v] (setAdd S v) >>= _) _ _ s'
    refine wpAny_bind (wpAny_holding ?_)
    unfold setAdd
    refine wpAny_holding ?_
    refine wpAny_bind ((mixKind prog w).pyHash (k := kk) (kV_is rk) ?_)
    have tk : ks.take (i + 1) = ks.take i ++ [kk] := by rw [List.take_add_one, hkk]; rfl
    have nd : nDist (ks.take (i + 1)).reverse = if S0 kk = true then nDist (ks.take i).reverse else nDist (ks.take i).reverse + 1 := by
      rw [tk, List.reverse_append]
      show (if (ks.take i).reverse.any (fun j => decide (j = kk)) = true then nDist (ks.take i).reverse else nDist (ks.take i).reverse + 1) = _
      by_cases c : S0 kk = true
      · rw [if_pos c, if_pos (anyK.mpr (List.mem_reverse.mpr ((hS0 kk).mp c)))]
      · rw [if_neg c, if_neg fun z => c ((hS0 kk).mpr (List.mem_reverse.mp (anyK.mp z)))]
    refine wpAny_setAddHashed_of (knd := mixKind prog w) (s := { s' with toks := s'.toks + 1 }) (kV_is rk) (key_scan rk) hS' ?_ fun h' hsb hS2 => ?_
    · have h1 := nDist_le (ks.take i).reverse
      rw [List.length_reverse, List.length_take] at h1
      omega
    refine wpAny_pure ⟨plainId_quiet PyProof.Rows.F.plain_set_update_loop _, ih (i + 1) _ (fun j => S0 j || decide (j = kk)) (by omega) hlt (W.frame _ s' _ _ hst' (Nat.le_succ _) fun b hb o e => ?_) (fun j => ?_) ?_ fun s'' S1 hm'' h1 hS'' => ?_⟩
    · rw [hsb.2 b (fun h : b = S => hSf (by rw [← h]; exact hb))]; exact e
    · rw [tk, Bool.or_eq_true, hS0 j, decide_eq_true_eq, List.mem_append, List.mem_singleton]
    · rw [nd]
      exact hS2
    · refine hR s'' S1 (Moved.trans W.gtrans ((hm.mono hsub).then_heap (Nat.le_succ _) fun b o hb e => ?_) hm'') h1 hS''
      rw [hsb.2 b (fun h : b = S => hb (by rw [h]; exact List.mem_cons_self))]; exact e
end
def signs (z : Str) : List Key := z.cps.toList.map fun c => .inr ⟨#[c]⟩
section
variable {prog : Program} {w : World} {A : Around} {E : Value → Shared → Prop} {s : Shared}
set_option maxHeartbeats 3200000 in
theorem call_set_str {z : Str} {t : Tok} {Q : Value → Shared → Prop}
    (hh : A.handled = none) (hn1 : z.cps.size + 1 < scanBound)
    (h : ∀ (h' : Heap) (tk : Nat) (S1 : Key → Bool), (∀ j, S1 j = true ↔ j ∈ signs z) → h'.SetOf (mixKind prog w) s.heap.objs.size S1 (nDist (signs z).reverse) →
      (∀ b o, b < s.heap.objs.size → s.heap.get? b = some o → h'.get? b = some o) → Q (.ref s.heap.objs.size) { s with heap := h', toks := tk }) :
    wpAny (model prog w) A (call (.type "set") [.str z t]) Q E s := by
  obtain ⟨c, tl, hmro⟩ := PySem.F.called_set.mro
  have hmade := PySem.F.called_set.made
  have hsub := PySem.F.called_set.sub
  refine wpAny_call (codeAny_of_tree ?_)
  show wpAny _ _ (callAny (.type "set") _) _ _ _
  refine wpAny_pure ⟨Code.quiet_builtin _ (by decide +kernel), codeAny_builtin PySem.F.entry_type_call ?_⟩
  rw [Around.under_plain (weight_type_call_type "set" [.str z t] []) rfl]
  have h1 := PySem.F.called_set.notType
  have h2 := PySem.F.called_set.canCreate
  have hct := PySem.F.typeCall_set_1 (.str z t)
  repeat (any_goals (first | assumption | wp_step))
  refine codeAny_mono (code_set_new_1 (.str z t) (E := E) (Q₁ := fun obj s₁ => ∃ led : Bool, obj = .ref s.heap.objs.size ∧ s₁ = { s with heap := s.heap.push { cls := .type "set", dict := none, data := .set #[] 0 (.fresh 0 0 led) } }) fun led => ⟨led, rfl, rfl⟩) fun r s₁ hr => ?_
  cases r with
  | error e => exact hr
  | ok fl =>
    cases fl with
    | ret obj =>
      obtain ⟨led, rfl, rfl⟩ := hr
      have hS : (s.heap.push { cls := .type "set", dict := none, data := .set #[] 0 (.fresh 0 0 led) }).get? s.heap.objs.size = some { cls := .type "set", dict := none, data := .set #[] 0 (.fresh 0 0 led) } := Heap.get?_push_size _ rfl
      have hT : Shared.TypeIs { s with heap := s.heap.push { cls := .type "set", dict := none, data := .set #[] 0 (.fresh 0 0 led) } } (.ref s.heap.objs.size) "set" := ⟨_, hS, rfl⟩
      have hli := PySem.F.called_set.init.lookup
      have hbi := PySem.F.called_set.init.bind (.ref s.heap.objs.size)
      repeat (any_goals (first | assumption | wp_step))
      refine codeAny_mono (codeAny_call_builtin (R := wants (fun r s₂ => r = .none ∧ ∃ h' tk S1, s₂ = { s with heap := h', toks := tk } ∧ (∀ j, S1 j = true ↔ j ∈ signs z) ∧
          h'.SetOf (mixKind prog w) s.heap.objs.size S1 (nDist (signs z).reverse) ∧
          (∀ b o, b < s.heap.objs.size → s.heap.get? b = some o → h'.get? b = some o)) E) PySem.F.called_set.init.plain PySem.F.entry_set_init (check_set_init_1 hT ?_)) fun r₂ s₂ hr₂ => ?_
      · have hTs : Shared.TypeIs { s with heap := s.heap.push { cls := .type "set", dict := none, data := .set #[] 0 (.fresh 0 0 led) } } (.str z t) "str" := rfl
        have hsls : isSubtype (Value.type "str") (Value.type "set") = pure false := by rw [isSubtype_type]; kernel_rfl
        have hslf : isSubtype (Value.type "str") (Value.type "frozenset") = pure false := by rw [isSubtype_type]; kernel_rfl
        have hne : (Value.type "str" == Value.type "dict") = false := by decide
        unfold Builtin.«set.__init__» noKeywords Builtin.Frozenset.updateFrom
        generalize hPI : pyIter = PI
        wp_walk
        subst hPI
        refine wpAny_pyIter_str fun o St W st0 => ?_
        refine wpAny_bind (wpAny_runValue ?_)
        have hh3 : A.in1.in1.in1.handled = none := by simp [hh]
        have hSf : s.heap.objs.size ∉ [(s.heap.push { cls := .type "set", dict := none, data := .set #[] 0 (.fresh 0 0 led) }).objs.size] := by
          rw [Heap.size_push]; simp only [List.mem_singleton]
          exact Nat.ne_of_lt (Nat.lt_succ_self _)
        have hsz : (signs z).length = z.cps.size := by unfold signs; rw [List.length_map, Array.length_toList]
        refine loopKey ((W _ hh3).toS) s.heap.objs.size hSf (signs z) hsz hn1 (fun i v hv => ?_) (z.cps.size - 0) 0 _ (fun _ => false) (by omega) (Nat.zero_le _) st0 (fun j => by simp) ?hS0 fun s' S1 hm hS1 hS' => ?_
        · obtain ⟨c, u, hc, rfl⟩ := hv
          refine ⟨.inr ⟨#[c]⟩, ?_, u, rfl⟩
          unfold signs
          rw [List.getElem?_map, Array.getElem?_toList, hc]
          rfl
        case hS0 =>
          have hget : ((s.heap.push { cls := .type "set", dict := none, data := .set #[] 0 (.fresh 0 0 led) }).push o).get? s.heap.objs.size
              = some { cls := .type "set", dict := none, data := .set #[] 0 (.fresh 0 0 led) } := Heap.get?_push_of_some _ hS
          exact ⟨_, #[], 0, _, hget, ⟨rfl, rfl, rfl⟩, rfl, (fun e he => by simp at he), (fun k => by simp), (by decide), (by rfl), rfl⟩
        · obtain ⟨h', g', d', tk', os'⟩ := s'
          have eg : g' = s.gens := hm.gens
          have ed : d' = s.drawn := hm.drawn
          have eo : os' = s.os := hm.os
          subst eg; subst ed; subst eo
          show wpAny _ _ _ _ _ _
          refine wpAny_pure ?_
          show wpAny _ _ (ret Value.none) _ _ _
          refine wpAny_pure ⟨rfl, h', tk', S1, rfl, hS1, hS', fun b o' hb e => ?_⟩
          have hb1 : b ≠ s.heap.objs.size := Nat.ne_of_lt hb
          have hb2 : b ≠ (s.heap.push { cls := .type "set", dict := none, data := .set #[] 0 (.fresh 0 0 led) }).objs.size := by
            rw [Heap.size_push]; exact Nat.ne_of_lt (Nat.lt_succ_of_lt hb)
          exact hm.heap b o' (by simp only [List.mem_cons, List.mem_singleton, List.not_mem_nil, or_false, not_or]; exact ⟨hb1, hb2⟩) (Heap.get?_push_of_some _ (Heap.get?_push_of_some _ e))
      · cases r₂ with
        | error e => exact hr₂
        | ok fl₂ =>
          cases fl₂ with
          | ret r =>
            obtain ⟨rfl, h', tk, S1, rfl, hS1, hS', hk'⟩ := hr₂
            repeat (any_goals (first | assumption | wp_step))
            exact h _ _ S1 hS1 hS' hk'
          | _ => exact hr₂.elim
    | _ => exact hr.elim
end
section
variable {X : Cx}
/-- set(a text) -/
def rSetTxt (P : Program) (w : World) : List V → Hp → VK → Prop := fun vs H Q => ∃ z : Str, vs = [.str z] ∧ z.length < 4000 ∧
  ∀ (p : Addr) (S1 : Key → Bool), H p = none → (∀ j, S1 j = true ↔ j ∈ signs z) → Q (.ref p) (upd H p (SetK P w p S1 (nDist (signs z).reverse)))
theorem call_setTxt (hc : X.calm = true) : CallR X (.type "set") (rSetTxt X.prog X.w) := by
  intro pins s τ H vs us Q I r h
  obtain ⟨z, rfl, hz, q⟩ := h
  obtain ⟨u, rfl, t, rfl⟩ := vals1 r
  refine call_set_str (I.ok.hd hc) (by have : scanBound = 4096 := rfl; have : z.cps.size = z.length := rfl; omega) fun h' tk S1 hS1 hS k => ?_
  have new : H s.heap.objs.size = none := I.hok.fresh (Nat.le_refl _)
  exact ⟨.ref _, upd H s.heap.objs.size (SetK X.prog X.w s.heap.objs.size S1 (nDist (signs z).reverse)), I.laid (t' := tk) (fun b o e => k b o (Heap.lt_size e) e) (Nat.le_refl _) (setK_new hS), rfl, q _ S1 new hS1⟩
/-- len(a set) -/
def rLenSet (P : Program) (w : World) : List V → Hp → VK → Prop := fun vs H Q => ∃ (a : Addr) (S : Key → Bool) (n : Nat), vs = [.ref a] ∧ (H a = some (SetK P w a S n) ∨ H a = some (SetMO w a S n)) ∧ Q (.int n) H
theorem call_lenSet : CallR X (.builtin "len") (rLenSet X.prog X.w) := by
  intro pins s τ H vs us Q I r h
  obtain ⟨a, S, n, rfl, ha, q⟩ := h
  obtain ⟨u, rfl, ru⟩ := vals1 r
  obtain rfl : u = Value.ref a := ru
  have hS : s.heap.SetOf (mixKind X.prog X.w) a S n := ha.elim (fun ha => setK_get I ha) fun ha => (setMO_get I ha).setOf
  obtain ⟨o, es, ep, t, ho, hex, hd, hel, hmem, hb, hf, hn⟩ := hS
  have hb' : es.size < 4096 := hb
  subst hn
  exact call_len_set ho hex hd hf (by omega) ⟨.int _, H, I.tok _, ⟨_, rfl⟩, q⟩
theorem call_setTxtK {P : Program} {w : World} (hc : X.calm = true) (hp : X.prog = P := by rfl) (hw : X.w = w := by rfl) : CallR X (.type "set") (rSetTxt P w) := hp ▸ hw ▸ call_setTxt hc
theorem call_lenSetK {P : Program} {w : World} (hp : X.prog = P := by rfl) (hw : X.w = w := by rfl) : CallR X (.builtin "len") (rLenSet P w) := hp ▸ hw ▸ call_lenSet
theorem nDist_full : ∀ l : List Key, nDist l = l.length ↔ l.Nodup
  | [] => by simp [nDist]
  | k :: r => by
    have h1 := nDist_le r
    have ih := nDist_full r
    show (if r.any (fun j => decide (j = k)) = true then nDist r else nDist r + 1) = r.length + 1 ↔ _
    rw [List.nodup_cons]
    by_cases c : r.any (fun j => decide (j = k)) = true
    · rw [if_pos c]
      exact ⟨fun h => by omega, fun h => absurd (anyK.mp c) h.1⟩
    · rw [if_neg c]
      exact ⟨fun h => ⟨fun m => c (anyK.mpr m), ih.mp (by omega)⟩, fun h => by rw [ih.mpr h.2]⟩
end
end SH
set_option Elab.async false
set_option linter.all false
set_option maxRecDepth 100000
set_option maxHeartbeats 4000000
/-! a dict of words, each with a list of things -/
namespace SH
open PySem PySem.Spec PyProof.Rows L2
abbrev VT := List (Str × Addr × List V)
def vkvs (T : VT) : List (Key × V) := T.map fun e => ((Sum.inr e.1 : Key), V.ref e.2.1)
/-- what has been met: words and numbers, in order -/
abbrev VOcc := List (Str × V)
structure Vd (H0 H : Hp) (D : Addr) (T : VT) : Prop where
  at_ : H D = some (.dK (vkvs T))
  sm : Same H0 H
  nD : H0 D = none
  kd : (T.map (·.1)).Nodup
  rd : (T.map (·.2.1)).Nodup
  row : ∀ e ∈ T, H e.2.1 = some (.lst e.2.2) ∧ H0 e.2.1 = none
/-- it tells what has been met -/
structure VdOf (T : VT) (O : VOcc) : Prop where
  mem : ∀ z, z ∈ T.map (·.1) ↔ z ∈ O.map (·.1)
  val : ∀ e ∈ T, e.2.2 = (O.filter fun o => decide (o.1 = e.1)).map (·.2)
theorem vkvs_keys (T : VT) : (vkvs T).map (·.1) = (T.map (·.1)).map fun z => (Sum.inr z : Key) := by
  unfold vkvs
  rw [List.map_map, List.map_map]
  rfl
theorem Vd.val_of {H0 H : Hp} {D : Addr} {T : VT} (h : Vd H0 H D T) {e : Str × Addr × List V} (he : e ∈ T) : valV (vkvs T) (.inr e.1) = some (.ref e.2.1) := by
  have kd := h.kd
  unfold vkvs
  clear h
  induction T with
  | nil => cases he
  | cons a r ih =>
    rw [List.map_cons] at kd ⊢
    rw [List.nodup_cons] at kd
    unfold valV
    rcases List.mem_cons.mp he with e1 | m
    · subst e1
      rw [List.find?_cons_of_pos (by simp)]
      rfl
    · have ne : ¬ a.1 = e.1 := fun z => kd.1 (by rw [z]; exact List.mem_map_of_mem m)
      rw [List.find?_cons_of_neg (by simpa using ne)]
      exact ih m kd.2
theorem vkvs_none {T : VT} {z : Str} (h : z ∉ T.map (·.1)) : valV (vkvs T) (.inr z) = none := by
  unfold valV
  rw [List.find?_eq_none.mpr fun x hx => ?_]
  · rfl
  · unfold vkvs at hx
    obtain ⟨e, he, rfl⟩ := List.mem_map.mp hx
    have : ¬ e.1 = z := fun y => h (y ▸ List.mem_map_of_mem he)
    simpa using this
theorem vkvs_put {T : VT} {z : Str} {r : Addr} (h : z ∉ T.map (·.1)) : putK (vkvs T) (.inr z) (.ref r) = vkvs (T ++ [(z, r, [])]) := by
  unfold putK
  rw [if_neg, show vkvs (T ++ [(z, r, [])]) = vkvs T ++ [((Sum.inr z : Key), V.ref r)] by unfold vkvs; rw [List.map_append]; rfl]
  intro y
  obtain ⟨x, hx, e⟩ := List.any_eq_true.mp y
  unfold vkvs at hx
  obtain ⟨e2, he, rfl⟩ := List.mem_map.mp hx
  have := of_decide_eq_true e
  exact h ((Sum.inr.inj this) ▸ List.mem_map_of_mem he)
def vbump (T : VT) (z : Str) (n : V) : VT := T.map fun x => if x.1 = z then (x.1, x.2.1, x.2.2 ++ [n]) else x
theorem vbump_keys (T : VT) (z : Str) (n : V) : (vbump T z n).map (·.1) = T.map (·.1) := by
  unfold vbump
  rw [List.map_map]
  refine List.map_congr_left fun x _ => ?_
  show (if x.1 = z then (x.1, x.2.1, x.2.2 ++ [n]) else x).1 = x.1
  split <;> rfl
theorem vbump_refs (T : VT) (z : Str) (n : V) : (vbump T z n).map (·.2.1) = T.map (·.2.1) := by
  unfold vbump
  rw [List.map_map]
  refine List.map_congr_left fun x _ => ?_
  show (if x.1 = z then (x.1, x.2.1, x.2.2 ++ [n]) else x).2.1 = x.2.1
  split <;> rfl
theorem vbump_kvs (T : VT) (z : Str) (n : V) : vkvs (vbump T z n) = vkvs T := by
  unfold vbump vkvs
  rw [List.map_map]
  refine List.map_congr_left fun x _ => ?_
  show ((Sum.inr (if x.1 = z then (x.1, x.2.1, x.2.2 ++ [n]) else x).1 : Key), V.ref (if x.1 = z then (x.1, x.2.1, x.2.2 ++ [n]) else x).2.1) = _
  split <;> rfl
theorem Vd.rne {H0 H : Hp} {D : Addr} {T : VT} (h : Vd H0 H D T) {e : Str × Addr × List V} (he : e ∈ T) : e.2.1 ≠ D := fun z => by
  have := (h.row e he).1
  rw [z, h.at_] at this
  cases this
theorem vnodup_key {T : VT} (h : (T.map (·.1)).Nodup) {e f : Str × Addr × List V} (he : e ∈ T) (hf : f ∈ T) (k : e.1 = f.1) : e = f := by
  induction T with
  | nil => cases he
  | cons a r ih =>
    rw [List.map_cons, List.nodup_cons] at h
    rcases List.mem_cons.mp he with e1 | m1 <;> rcases List.mem_cons.mp hf with e2 | m2
    · rw [e1, e2]
    · exact (h.1 (by rw [← e1, k]; exact List.mem_map_of_mem (f := fun x : Str × Addr × List V => x.1) m2)).elim
    · exact (h.1 (by rw [← e2, ← k]; exact List.mem_map_of_mem (f := fun x : Str × Addr × List V => x.1) m1)).elim
    · exact ih h.2 m1 m2
theorem vnodup_ref {T : VT} (h : (T.map (·.2.1)).Nodup) {e f : Str × Addr × List V} (he : e ∈ T) (hf : f ∈ T) (k : e.2.1 = f.2.1) : e = f := by
  induction T with
  | nil => cases he
  | cons a r ih =>
    rw [List.map_cons, List.nodup_cons] at h
    rcases List.mem_cons.mp he with e1 | m1 <;> rcases List.mem_cons.mp hf with e2 | m2
    · rw [e1, e2]
    · exact (h.1 (by rw [← e1, k]; exact List.mem_map_of_mem (f := fun x : Str × Addr × List V => x.2.1) m2)).elim
    · exact (h.1 (by rw [← e2, ← k]; exact List.mem_map_of_mem (f := fun x : Str × Addr × List V => x.2.1) m1)).elim
    · exact ih h.2 m1 m2
/-- a word more -/
theorem Vd.new {H0 H : Hp} {D : Addr} {T : VT} (h : Vd H0 H D T) {z : Str} (hz : z ∉ T.map (·.1)) {r : Addr} (nr : H r = none) : Vd H0 (upd (upd H r (.lst [])) D (.dK (vkvs (T ++ [(z, r, [])])))) D (T ++ [(z, r, [])]) := by
  have rD : r ≠ D := fun e => by rw [e, h.at_] at nr; cases nr
  refine ⟨upd_same, same_mut (h.sm.trans (same_new nr)) h.nD, h.nD, ?_, ?_, fun e m => ?_⟩
  · rw [List.map_append, List.nodup_append]
    exact ⟨h.kd, by simp, fun a ha b hb e => by rw [List.mem_singleton.mp hb] at e; exact hz (by rw [← show a = z from e]; exact ha)⟩
  · rw [List.map_append, List.nodup_append]
    refine ⟨h.rd, by simp, fun a ha b hb e => ?_⟩
    rw [List.mem_singleton.mp hb] at e
    obtain ⟨x, hx, rfl⟩ := List.mem_map.mp ha
    have := (h.row x hx).1
    rw [show x.2.1 = r from e, nr] at this
    cases this
  · rcases List.mem_append.mp m with m | m
    · rw [upd_ne (h.rne m)]
      exact ⟨same_new nr _ _ (h.row e m).1, (h.row e m).2⟩
    · rw [List.mem_singleton.mp m]
      exact ⟨by rw [upd_ne rD]; exact upd_same, h.sm.free nr⟩
/-- a number more behind a word -/
theorem Vd.app {H0 H : Hp} {D : Addr} {T : VT} (h : Vd H0 H D T) {e : Str × Addr × List V} (he : e ∈ T) (n : V) : Vd H0 (upd H e.2.1 (.lst (e.2.2 ++ [n]))) D (vbump T e.1 n) := by
  refine ⟨?_, same_mut h.sm (h.row e he).2, h.nD, by rw [vbump_keys]; exact h.kd, by rw [vbump_refs]; exact h.rd, fun x hx => ?_⟩
  · rw [upd_ne (fun z => h.rne he z.symm), vbump_kvs]
    exact h.at_
  · unfold vbump at hx
    obtain ⟨y, hy, rfl⟩ := List.mem_map.mp hx
    by_cases c : y.1 = e.1
    · have := vnodup_key h.kd hy he c
      subst this
      rw [if_pos rfl]
      exact ⟨upd_same, (h.row y hy).2⟩
    · rw [if_neg c]
      rw [upd_ne (fun z => c (congrArg (·.1) (vnodup_ref h.rd hy he z)))]
      exact h.row y hy
theorem VdOf.vbump {T : VT} {O : VOcc} {z : Str} {n : V} (hs : ∀ y, y ∈ T.map (·.1) ↔ y ∈ O.map (·.1) ∨ y = z) (hv : ∀ e ∈ T, e.2.2 = (O.filter fun o => decide (o.1 = e.1)).map (·.2)) : VdOf (SH.vbump T z n) (O ++ [(z, n)]) := by
  refine ⟨fun y => ?_, fun e he => ?_⟩
  · rw [vbump_keys, hs y, List.map_append, List.mem_append]
    exact or_congr Iff.rfl List.mem_singleton.symm
  · unfold SH.vbump at he
    obtain ⟨x, hx, rfl⟩ := List.mem_map.mp he
    rw [List.filter_append, List.map_append]
    by_cases c : x.1 = z
    · rw [if_pos c]
      show x.2.2 ++ [n] = (O.filter fun o => decide (o.1 = x.1)).map (·.2) ++ ([((z, n) : Str × V)].filter fun o => decide (o.1 = x.1)).map (·.2)
      rw [← hv x hx, List.filter_cons_of_pos (p := fun o : Str × V => decide (o.1 = x.1)) (decide_eq_true (show z = x.1 from c.symm))]
      rfl
    · rw [if_neg c]
      show x.2.2 = (O.filter fun o => decide (o.1 = x.1)).map (·.2) ++ ([((z, n) : Str × V)].filter fun o => decide (o.1 = x.1)).map (·.2)
      rw [← hv x hx, List.filter_cons_of_neg (p := fun o : Str × V => decide (o.1 = x.1)) (by simpa using fun y : z = x.1 => c y.symm)]
      exact (List.append_nil _).symm
theorem Vd.same {H0 H H' : Hp} {D : Addr} {T : VT} (s : Same H H') (h : Vd H0 H D T) : Vd H0 H' D T := ⟨s _ _ h.at_, h.sm.trans s, h.nD, h.kd, h.rd, fun e m => ⟨s _ _ (h.row e m).1, (h.row e m).2⟩⟩
end SH
set_option Elab.async false
set_option linter.all false
set_option maxRecDepth 100000
set_option maxHeartbeats 4000000
/-! the least words that are missing -/
namespace SH
open PySem PySem.Spec PyProof.Rows L2
theorem StrL.of {O : List Str} {l : List Str} (nd : l.Nodup) (pw : l.Pairwise leL) (m : ∀ z, z ∈ l ↔ z ∈ O) : StrL O l := ⟨nd, pw, m⟩
/-! ### pairs of a size and a text, sorted -/
def eLen (z : Str) : PyData := .tuple [.int z.length, .str z]
theorem eLen_lt (x y : Str) : PySem.W.dataLt (eLen x) (eLen y) = decide (x.length < y.length ∨ (x.length = y.length ∧ x.cps.toList < y.cps.toList)) := by
  unfold eLen
  rw [PySem.W.dataLt_tuple, PySem.W.dataLt_cons (by simp [PySem.W.alike]), PySem.W.dataLt_cons (by simp [PySem.W.alike])]
  have e : PyProof.Rows.lexLt itemOrd (PySem.W.keyToksAll []) (PySem.W.keyToksAll []) = false := lex_irrefl _
  rw [e, eqv_int, eqv_str, PySem.W.dataLt_int, PySem.W.dataLt_str]
  by_cases a : x.length = y.length
  · have a2 : (x.length : Int) = (y.length : Int) := by omega
    by_cases b : x = y
    · rw [decide_eq_true a2, decide_eq_true b]
      symm
      refine decide_eq_false ?_
      rintro (h | ⟨_, h⟩)
      · omega
      · rw [b] at h
        exact List.lt_irrefl _ h
    · rw [decide_eq_true a2, decide_eq_false b]
      show decide (x.cps.toList < y.cps.toList) = _
      exact decide_eq_decide.mpr ⟨fun h => .inr ⟨a, h⟩, fun h => h.elim (fun h => by omega) fun h => h.2⟩
  · have a2 : ¬ (x.length : Int) = (y.length : Int) := by omega
    rw [decide_eq_false a2]
    show decide ((x.length : Int) < (y.length : Int)) = _
    exact decide_eq_decide.mpr ⟨fun h => .inl (by omega), fun h => h.elim (fun h => by omega) fun h => absurd h.1 a⟩
theorem eLen_le : ∀ {x y : Str}, PySem.W.dataLe false eLen x y = true → leL x y := fun {x y} h => by
  have h : (!PySem.W.dataLt (eLen y) (eLen x)) = true := h
  rw [eLen_lt] at h
  have h : ¬ (y.length < x.length ∨ (y.length = x.length ∧ y.cps.toList < x.cps.toList)) := fun z => by rw [decide_eq_true z] at h; cases h
  rcases Nat.lt_trichotomy x.length y.length with c | c | c
  · exact .inl c
  · exact .inr ⟨c, List.not_lt.mp fun z => h (.inr ⟨c.symm, z⟩)⟩
  · exact absurd (.inl c) h
theorem leL_le {x y : Str} (h : leL x y) : PySem.W.dataLe false eLen x y = true := by
  show (!PySem.W.dataLt (eLen y) (eLen x)) = true
  rw [eLen_lt, decide_eq_false]
  · rfl
  · rintro (a | ⟨a, b⟩) <;> rcases h with c | ⟨c, d⟩
    · omega
    · omega
    · omega
    · exact absurd b (List.not_lt.mpr d)
theorem leL_tr {x y z : Str} (h : leL x y) (k : leL y z) : leL x z := by
  rcases h with a | ⟨a, b⟩ <;> rcases k with c | ⟨c, d⟩
  · exact .inl (by omega)
  · exact .inl (by omega)
  · exact .inl (by omega)
  · exact .inr ⟨a.trans c, List.le_trans b d⟩
theorem leL_tot (x y : Str) : leL x y ∨ leL y x := by
  rcases Nat.lt_trichotomy x.length y.length with c | c | c
  · exact .inl (.inl c)
  · rcases List.le_total x.cps.toList y.cps.toList with d | d
    · exact .inl (.inr ⟨c, d⟩)
    · exact .inr (.inr ⟨c.symm, d⟩)
  · exact .inr (.inl c)
theorem eLen_sort (l : List Str) : (l.mergeSort (PySem.W.dataLe false eLen)).Pairwise leL := by
  refine (List.pairwise_mergeSort (le := PySem.W.dataLe false eLen) (fun x y z a b => leL_le (leL_tr (eLen_le a) (eLen_le b))) (fun x y => ?_) l).imp eLen_le
  rcases leL_tot x y with h | h
  · rw [leL_le h]; rfl
  · rw [leL_le h, Bool.or_true]
theorem str_sort (l : List Str) : (l.mergeSort (PySem.W.dataLe false PyData.str)).Pairwise (fun x y => x.cps.toList ≤ y.cps.toList) := by
  have e : PySem.W.dataLe false PyData.str = fun x y : Str => !decide (y.cps.toList < x.cps.toList) := by
    funext x y
    show (!PySem.W.dataLt (.str y) (.str x)) = _
    rw [PySem.W.dataLt_str]
  rw [e]
  refine (List.pairwise_mergeSort (le := fun x y : Str => !decide (y.cps.toList < x.cps.toList)) (fun x y z a b => ?_) (fun x y => ?_) l).imp fun {x y} a => List.not_lt.mp fun z => by rw [decide_eq_true z] at a; cases a
  · have a' : x.cps.toList ≤ y.cps.toList := List.not_lt.mp fun z => by rw [decide_eq_true z] at a; cases a
    have b' : y.cps.toList ≤ z.cps.toList := List.not_lt.mp fun z => by rw [decide_eq_true z] at b; cases b
    rw [decide_eq_false (List.not_lt.mpr (List.le_trans a' b'))]
    rfl
  · rcases List.le_total x.cps.toList y.cps.toList with a | a
    · rw [decide_eq_false (List.not_lt.mpr a)]
      rfl
    · rw [decide_eq_false (List.not_lt.mpr a), Bool.not_false, Bool.or_true]
/-! ### first and last letters left out -/
def dl (z : Str) : Str := cutS z none (some (-1))
def rst (z : Str) : Str := cutS z (some 1) none
def sg (c : Nat) : Str := ⟨#[c]⟩
theorem sg_tl (c : Nat) : TL.tl (sg c) = [c] := rfl
theorem rst_tl (z : Str) : TL.tl (rst z) = (TL.tl z).drop 1 := by
  have := suf_tl z 1
  exact this
theorem dl_tl (z : Str) : TL.tl (dl z) = (TL.tl z).dropLast := by
  unfold dl cutS
  show ((TL.tl z).drop (HT.sIx z.length 0 none)).take (HT.sIx z.length z.length (some (-1)) - HT.sIx z.length 0 none) = _
  have e0 : HT.sIx z.length 0 none = 0 := rfl
  have e1 : HT.sIx z.length z.length (some (-1)) = z.length - 1 := by
    unfold HT.sIx
    simp
    omega
  rw [e0, e1, List.drop_zero, List.dropLast_eq_take]
  rfl
theorem app_tl (x y : Str) : TL.tl (x ++ y) = TL.tl x ++ TL.tl y := TL.tl_append x y
theorem dl_app (z : Str) (c : Nat) : dl (z ++ sg c) = z := tl_inj (by rw [dl_tl, app_tl, sg_tl, List.dropLast_concat])
theorem rst_app {z : Str} (c : Nat) (h : 0 < z.length) : rst (z ++ sg c) = rst z ++ sg c := tl_inj (by
  rw [rst_tl, app_tl, app_tl, rst_tl, List.drop_append_of_le_length (show 1 ≤ (TL.tl z).length from h)])
theorem app_sg_inj {x y : Str} {c d : Nat} (h : x ++ sg c = y ++ sg d) : x = y ∧ c = d := by
  have e := congrArg TL.tl h
  rw [app_tl, app_tl, sg_tl, sg_tl] at e
  obtain ⟨e1, e2⟩ := List.append_inj' e rfl
  exact ⟨tl_inj e1, by cases e2; rfl⟩
theorem split_last {z : Str} (h : 0 < z.length) : ∃ c, c ∈ TL.tl z ∧ z = dl z ++ sg c := by
  have n : TL.tl z ≠ [] := List.length_pos_iff.mp (show 0 < (TL.tl z).length from h)
  refine ⟨(TL.tl z).getLast n, List.getLast_mem n, tl_inj ?_⟩
  rw [app_tl, dl_tl, sg_tl, List.dropLast_concat_getLast]
theorem dl_len {z : Str} : (dl z).length = z.length - 1 := by
  have := congrArg List.length (dl_tl z)
  rw [List.length_dropLast] at this
  exact this
theorem rst_len {z : Str} : (rst z).length = z.length - 1 := by
  have := congrArg List.length (rst_tl z)
  rw [List.length_drop] at this
  exact this
theorem sg_len (z : Str) (c : Nat) : (z ++ sg c).length = z.length + 1 := by
  have := congrArg List.length (app_tl z (sg c))
  rw [sg_tl, List.length_append] at this
  exact this
theorem nil_sg (c : Nat) : (Str.empty ++ sg c) = sg c := tl_inj (by rw [app_tl]; rfl)
/-- of these letters -/
def okA (al z : Str) : Prop := ∀ c ∈ TL.tl z, c ∈ TL.tl al
instance (al z : Str) : Decidable (okA al z) := inferInstanceAs (Decidable (∀ c ∈ TL.tl z, c ∈ TL.tl al))
theorem okA_app {al x y : Str} : okA al (x ++ y) ↔ okA al x ∧ okA al y := by
  unfold okA
  rw [app_tl]
  exact ⟨fun h => ⟨fun c m => h c (List.mem_append_left _ m), fun c m => h c (List.mem_append_right _ m)⟩, fun h c m => (List.mem_append.mp m).elim (h.1 c) (h.2 c)⟩
theorem okA_sg {al : Str} {c : Nat} : okA al (sg c) ↔ c ∈ TL.tl al := ⟨fun h => h c (List.mem_singleton.mpr rfl), fun h d m => by rw [sg_tl] at m; rw [List.mem_singleton.mp m]; exact h⟩
theorem okA_dl {al z : Str} (h : okA al z) : okA al (dl z) := fun c m => h c (by rw [dl_tl] at m; exact List.dropLast_subset _ m)
theorem okA_rst {al z : Str} (h : okA al z) : okA al (rst z) := fun c m => h c (by rw [rst_tl] at m; exact List.mem_of_mem_drop m)
/-- a least word that is missing -/
def MinA (O : List Str) (al z : Str) : Prop := okA al z ∧ z ∉ O ∧ (z.length = 1 ∨ (2 ≤ z.length ∧ dl z ∈ O ∧ rst z ∈ O))
theorem MinA.cong {O O' : List Str} (e : ∀ z, z ∈ O ↔ z ∈ O') {al z : Str} : MinA O al z ↔ MinA O' al z := by
  unfold MinA
  rw [e z, e (dl z), e (rst z)]
theorem MinA.rev {O : List Str} {al bl z : Str} (e : ∀ c, c ∈ TL.tl al ↔ c ∈ TL.tl bl) : MinA O al z ↔ MinA O bl z := by
  have : okA al z ↔ okA bl z := ⟨fun h c m => (e c).mp (h c m), fun h c m => (e c).mpr (h c m)⟩
  unfold MinA
  rw [this]
/-- one text within another -/
def within (d z : Str) : Prop := ∃ x y, TL.tl z = x ++ TL.tl d ++ y
theorem within_refl (z : Str) : within z z := ⟨[], [], by simp⟩
theorem within_dl {d z : Str} (h : within d (dl z)) (hz : 0 < z.length) : within d z := by
  obtain ⟨c, _, e⟩ := split_last hz
  obtain ⟨x, y, h⟩ := h
  refine ⟨x, y ++ [c], ?_⟩
  rw [e, app_tl, h, sg_tl, List.append_assoc, List.append_assoc]
theorem within_rst {d z : Str} (h : within d (rst z)) : within d z := by
  obtain ⟨x, y, h⟩ := h
  rw [rst_tl] at h
  cases e : TL.tl z with
  | nil => exact ⟨x, y, by rw [e] at h ⊢; exact h⟩
  | cons c r =>
    rw [e] at h
    exact ⟨c :: x, y, by rw [e, show (c :: x) ++ TL.tl d ++ y = c :: (x ++ TL.tl d ++ y) by simp, ← h]; rfl⟩
theorem within_in {d z : Str} (h : within d z) : (!(Builtin.Str.occurrences z d 0 z.length 1).isEmpty) = true := by
  rw [StrLaws.found_iff]
  obtain ⟨x, y, h⟩ := h
  have hl := congrArg List.length h
  rw [List.length_append, List.length_append] at hl
  have e1 : (TL.tl z).length = z.length := rfl
  have e2 : (TL.tl d).length = d.length := rfl
  refine ⟨x.length, by omega, ?_⟩
  rw [StrLaws.subAt_eq]
  refine beq_iff_eq.mpr ?_
  show ((TL.tl z).drop x.length).take d.length = TL.tl d
  rw [h, List.append_assoc, List.drop_left' rfl, List.take_left' (show (TL.tl d).length = d.length from rfl)]
/-- a word that is missing has a least one within it -/
theorem minA_in {O : List Str} {al : Str} : ∀ (n : Nat) (z : Str), z.length ≤ n → 0 < z.length → okA al z → z ∉ O → ∃ d, MinA O al d ∧ within d z
  | 0, z, h, h0, _, _ => by omega
  | n + 1, z, h, h0, ok, no => by
    by_cases c1 : z.length = 1
    · exact ⟨z, ⟨ok, no, .inl c1⟩, within_refl z⟩
    · by_cases c2 : dl z ∈ O
      · by_cases c3 : rst z ∈ O
        · exact ⟨z, ⟨ok, no, .inr ⟨by omega, c2, c3⟩⟩, within_refl z⟩
        · obtain ⟨d, h1, h2⟩ := minA_in n (rst z) (by rw [rst_len]; omega) (by rw [rst_len]; omega) (okA_rst ok) c3
          exact ⟨d, h1, within_rst h2⟩
      · obtain ⟨d, h1, h2⟩ := minA_in n (dl z) (by rw [dl_len]; omega) (by rw [dl_len]; omega) (okA_dl ok) c2
        exact ⟨d, h1, within_dl h2 h0⟩
/-! ### found by words and letters -/
/-- the last letters of the words that begin so -/
def lastC (z : Str) : Nat := (TL.tl z).getLastD 0
theorem lastC_app (z : Str) (c : Nat) : lastC (z ++ sg c) = c := by
  unfold lastC
  rw [app_tl, sg_tl, List.getLastD_concat]
theorem lastC_at {z : Str} (h : 0 < z.length) : atI z.cps.toList (-1) = some (lastC z) := by
  obtain ⟨c, _, e⟩ := split_last h
  have e2 : z.cps.toList = TL.tl (dl z) ++ [c] := by
    have := congrArg TL.tl e
    rw [app_tl, sg_tl] at this
    exact this
  have e3 : lastC z = c := by rw [e, lastC_app]
  rw [e2, e3]
  exact atI_last _ _
def behL (W : List Str) (u : Str) : List Nat := (W.filter fun x => decide (dl x = u)).map lastC
theorem mem_behL {W : List Str} (hW : ∀ w ∈ W, 0 < w.length) {u : Str} {c : Nat} : c ∈ behL W u ↔ (u ++ sg c) ∈ W := by
  unfold behL
  rw [List.mem_map]
  constructor
  · rintro ⟨x, hx, rfl⟩
    obtain ⟨h1, h2⟩ := List.mem_filter.mp hx
    obtain ⟨c, _, e⟩ := split_last (hW x h1)
    have h2 := of_decide_eq_true h2
    rw [h2] at e
    have : lastC x = c := by rw [e, lastC_app]
    rw [this, ← e]
    exact h1
  · intro h
    exact ⟨u ++ sg c, List.mem_filter.mpr ⟨h, decide_eq_true (dl_app u c)⟩, lastC_app u c⟩
theorem behL_nd {W : List Str} (nd : W.Nodup) (hW : ∀ w ∈ W, 0 < w.length) (u : Str) : (behL W u).Nodup := by
  unfold behL
  rw [List.Nodup, List.pairwise_map]
  refine (nd.filter _).imp_of_mem fun {x y} hx hy n e => ?_
  obtain ⟨h1, h2⟩ := List.mem_filter.mp hx
  obtain ⟨k1, k2⟩ := List.mem_filter.mp hy
  obtain ⟨c, _, e1⟩ := split_last (hW x h1)
  obtain ⟨d, _, e2⟩ := split_last (hW y k1)
  rw [of_decide_eq_true h2] at e1
  rw [of_decide_eq_true k2] at e2
  rw [e1, e2, lastC_app, lastC_app] at e
  exact n (by rw [e1, e2, e])
/-- the words that are made of a word and letters -/
def mkW (w : Str) (cs : List Nat) : List Str := cs.map fun c => w ++ sg c
def absF (al : Str) (W : List Str) : List Str := (((TL.tl al).filter fun c => !decide (sg c ∈ W)).map sg) ++ W.flatMap fun w => (mkW w (behL W (rst w))).filter fun z => !decide (z ∈ W)
theorem absF_is {O W : List Str} {al : Str} (hal : (TL.tl al).Nodup) (nd : W.Nodup) (hW : ∀ w, w ∈ W ↔ w ∈ O ∧ okA al w) (pos : ∀ z ∈ O, 0 < z.length) : (absF al W).Nodup ∧ ∀ z, z ∈ absF al W ↔ MinA O al z := by
  have posW : ∀ w ∈ W, 0 < w.length := fun w h => pos w ((hW w).mp h).1
  have long : ∀ w ∈ W, ∀ z ∈ (mkW w (behL W (rst w))).filter fun z => !decide (z ∈ W), 2 ≤ z.length ∧ ∃ c, z = w ++ sg c := fun w hw z hz => by
    obtain ⟨h1, _⟩ := List.mem_filter.mp hz
    obtain ⟨c, _, rfl⟩ := List.mem_map.mp h1
    have := posW w hw
    exact ⟨by rw [sg_len]; omega, c, rfl⟩
  constructor
  · unfold absF
    rw [List.nodup_append]
    refine ⟨?_, ?_, fun x hx y hy e => ?_⟩
    · rw [List.Nodup, List.pairwise_map]
      exact (hal.filter _).imp fun n e => n (by have := congrArg TL.tl e; rw [sg_tl, sg_tl] at this; cases this; rfl)
    · rw [List.Nodup, List.pairwise_flatMap]
      refine ⟨fun w hw => ?_, nd.imp_of_mem fun {w v} hw hv n x hx y hy e => ?_⟩
      · refine List.Pairwise.filter _ ?_
        unfold mkW
        rw [List.pairwise_map]
        exact (behL_nd nd posW _).imp fun n e => n (app_sg_inj e).2
      · obtain ⟨_, c, rfl⟩ := long w hw x hx
        obtain ⟨_, d, rfl⟩ := long v hv y hy
        exact n (app_sg_inj e).1
    · obtain ⟨c, _, rfl⟩ := List.mem_map.mp hx
      obtain ⟨w, hw, hy⟩ := List.mem_flatMap.mp hy
      have h2 := (long w hw y hy).1
      rw [← e] at h2
      exact absurd h2 (by show ¬ 2 ≤ 1; omega)
  · intro z
    unfold absF
    rw [List.mem_append, List.mem_map, List.mem_flatMap]
    constructor
    · rintro (⟨c, hc, rfl⟩ | ⟨w, hw, hz⟩)
      · obtain ⟨h1, h2⟩ := List.mem_filter.mp hc
        have h2 : sg c ∉ W := fun m => by rw [decide_eq_true m] at h2; cases h2
        have ok := okA_sg.mpr h1
        exact ⟨ok, fun m => h2 ((hW _).mpr ⟨m, ok⟩), .inl rfl⟩
      · obtain ⟨h1, h2⟩ := List.mem_filter.mp hz
        have h2 : z ∉ W := fun m => by rw [decide_eq_true m] at h2; cases h2
        obtain ⟨c, hc, rfl⟩ := List.mem_map.mp h1
        have hx := (mem_behL posW).mp hc
        obtain ⟨x1, x2⟩ := (hW _).mp hx
        obtain ⟨w1, w2⟩ := (hW _).mp hw
        have pw := posW w hw
        have ok : okA al (w ++ sg c) := okA_app.mpr ⟨w2, (okA_app.mp x2).2⟩
        refine ⟨ok, fun m => h2 ((hW _).mpr ⟨m, ok⟩), .inr ⟨by rw [sg_len]; omega, by rw [dl_app]; exact w1, by rw [rst_app c pw]; exact x1⟩⟩
    · rintro ⟨ok, no, h⟩
      have noW : z ∉ W := fun m => no ((hW z).mp m).1
      rcases h with h1 | ⟨h2, hd, hr⟩
      · obtain ⟨c, hc, e⟩ := split_last (z := z) (by omega)
        have e0 : dl z = Str.empty := tl_inj (by
          refine List.eq_nil_of_length_eq_zero ?_
          show (dl z).length = 0
          rw [dl_len]
          omega)
        rw [e0, nil_sg] at e
        refine .inl ⟨c, List.mem_filter.mpr ⟨ok c hc, ?_⟩, e.symm⟩
        rw [← e, decide_eq_false noW]
        rfl
      · obtain ⟨c, hc, e⟩ := split_last (z := z) (by omega)
        refine .inr ⟨dl z, (hW _).mpr ⟨hd, okA_dl ok⟩, List.mem_filter.mpr ⟨List.mem_map.mpr ⟨c, (mem_behL posW).mpr ?_, e.symm⟩, by rw [decide_eq_false noW]; rfl⟩⟩
        have pd : 0 < (dl z).length := by rw [dl_len]; omega
        rw [← rst_app c pd, ← e]
        exact (hW _).mpr ⟨hr, okA_rst ok⟩
/-- gone through all words and all letters -/
def dueF (al : Str) (O Ws : List Str) : List Str := Ws.flatMap fun w => (mkW w (TL.tl al)).filter fun z => decide (okA al w ∧ z ∉ O ∧ (w = Str.empty ∨ rst z ∈ O))
theorem dueF_is {O Ws : List Str} {al : Str} (hal : (TL.tl al).Nodup) (nd : Ws.Nodup) (hW : ∀ w, w ∈ Ws ↔ w = Str.empty ∨ w ∈ O) (pos : ∀ z ∈ O, 0 < z.length) : (dueF al O Ws).Nodup ∧ ∀ z, z ∈ dueF al O Ws ↔ MinA O al z := by
  constructor
  · unfold dueF
    rw [List.Nodup, List.pairwise_flatMap]
    refine ⟨fun w hw => ?_, nd.imp_of_mem fun {w v} hw hv n x hx y hy e => ?_⟩
    · refine List.Pairwise.filter _ ?_
      unfold mkW
      rw [List.pairwise_map]
      exact hal.imp fun n e => n (app_sg_inj e).2
    · obtain ⟨c, _, rfl⟩ := List.mem_map.mp (List.mem_filter.mp hx).1
      obtain ⟨d, _, rfl⟩ := List.mem_map.mp (List.mem_filter.mp hy).1
      exact n (app_sg_inj e).1
  · intro z
    unfold dueF
    rw [List.mem_flatMap]
    constructor
    · rintro ⟨w, hw, hz⟩
      obtain ⟨h1, h2⟩ := List.mem_filter.mp hz
      obtain ⟨c, hc, rfl⟩ := List.mem_map.mp h1
      obtain ⟨o1, o2, o3⟩ := of_decide_eq_true h2
      have ok : okA al (w ++ sg c) := okA_app.mpr ⟨o1, okA_sg.mpr hc⟩
      refine ⟨ok, o2, ?_⟩
      rcases (hW w).mp hw with e | m
      · exact .inl (by rw [e, sg_len]; rfl)
      · have pw := pos w m
        refine .inr ⟨by rw [sg_len]; omega, by rw [dl_app]; exact m, ?_⟩
        rcases o3 with e | o3
        · rw [e] at pw
          exact absurd pw (by decide)
        · exact o3
    · rintro ⟨ok, no, h⟩
      obtain ⟨c, hc, e⟩ := split_last (z := z) (by omega)
      have ok2 : okA al (dl z) := okA_dl ok
      refine ⟨dl z, (hW _).mpr ?_, List.mem_filter.mpr ⟨List.mem_map.mpr ⟨c, ok c hc, e.symm⟩, decide_eq_true ⟨ok2, no, ?_⟩⟩⟩
      · rcases h with h1 | ⟨h2, hd, hr⟩
        · refine .inl (tl_inj (List.eq_nil_of_length_eq_zero ?_))
          show (dl z).length = 0
          rw [dl_len]
          omega
        · exact .inr hd
      · rcases h with h1 | ⟨h2, hd, hr⟩
        · refine .inl (tl_inj (List.eq_nil_of_length_eq_zero ?_))
          show (dl z).length = 0
          rw [dl_len]
          omega
        · exact .inr hr
theorem sortZ (enc : Str → PyData) (F : List Str) : ((F.map fun z => (V.str z, z)).mergeSort (PySem.W.dataLe false fun z => enc z.2)).map (·.1) = (F.mergeSort (PySem.W.dataLe false enc)).map V.str := by
  rw [← List.map_mergeSort (l := F) (f := fun z : Str => (V.str z, z)) (r := PySem.W.dataLe false enc) (s := PySem.W.dataLe false fun z : V × Str => enc z.2) (fun a _ b _ => rfl), List.map_map]
  rfl
theorem sorted2 {F : List Str} (nd : F.Nodup) : StrL F ((F.mergeSort (PySem.W.dataLe false PyData.str)).mergeSort fun x y => decide (x.length ≤ y.length)) := by
  have pm := List.mergeSort_perm F (PySem.W.dataLe false PyData.str)
  exact (lenSort (pm.nodup_iff.mpr nd) (str_sort F)).cong fun z => pm.mem_iff
theorem sorted1 {F : List Str} (nd : F.Nodup) : StrL F (F.mergeSort (PySem.W.dataLe false eLen)) := by
  have pm := List.mergeSort_perm F (PySem.W.dataLe false eLen)
  exact ⟨pm.nodup_iff.mpr nd, eLen_sort F, fun z => pm.mem_iff⟩
theorem flat_len {α β : Type} {f : α → List β} {m : Nat} : ∀ {l : List α}, (∀ x ∈ l, (f x).length ≤ m) → (l.flatMap f).length ≤ l.length * m
  | [], _ => by simp
  | x :: r, h => by
    have ih := flat_len (f := f) fun y hy => h y (List.mem_cons_of_mem _ hy)
    have h1 := h x (List.mem_cons_self ..)
    have : (x :: r).flatMap f = f x ++ r.flatMap f := rfl
    rw [this, List.length_append, List.length_cons, Nat.succ_mul]
    omega
theorem behL_len (W : List Str) (u : Str) : (behL W u).length ≤ W.length := by
  unfold behL
  rw [List.length_map]
  exact List.length_filter_le _ _
/-- a table of just these words -/
def Kn (kvs : List (Key × V)) (W : List Str) : Prop := ∀ z : Str, valV kvs (.inr z) = if z ∈ W then some (.bl true) else none
theorem Kn.nil : Kn [] [] := fun z => rfl
theorem Kn.put {kvs : List (Key × V)} {W : List Str} (h : Kn kvs W) (z : Str) : Kn (putK kvs (.inr z) (.bl true)) (W ++ [z]) := fun y => by
  rw [valV_put, h y]
  by_cases c : y = z
  · subst c
    rw [if_pos rfl, if_pos (List.mem_append_right _ (List.mem_singleton.mpr rfl))]
  · have c2 : ¬ (Sum.inr y : Key) = .inr z := fun e => c (Sum.inr.inj e)
    rw [if_neg c2]
    by_cases d : y ∈ W
    · rw [if_pos d, if_pos (List.mem_append_left _ d)]
    · rw [if_neg d, if_neg fun m => (List.mem_append.mp m).elim d fun m => c (List.mem_singleton.mp m)]
/-- what a list of found words and letters looks up -/
theorem vd_get {H0 H : Hp} {D : Addr} {T : VT} {W : List Str} (h : Vd H0 H D T) (o : VdOf T (W.map fun x => (dl x, V.str (sg (lastC x))))) (u : Str) :
    (∃ r : Addr, valV (vkvs T) (.inr u) = some (.ref r) ∧ H r = some (.lst ((behL W u).map fun c => V.str (sg c)))) ∨ (valV (vkvs T) (.inr u) = none ∧ behL W u = []) := by
  by_cases c : u ∈ T.map (·.1)
  · obtain ⟨e, he, rfl⟩ := List.mem_map.mp c
    refine .inl ⟨e.2.1, h.val_of he, ?_⟩
    rw [(h.row e he).1, o.val e he]
    unfold behL
    rw [List.filter_map, List.map_map, List.map_map]
    rfl
  · refine .inr ⟨vkvs_none c, ?_⟩
    unfold behL
    rw [List.filter_eq_nil_iff.mpr fun x hx hd => ?_]
    · rfl
    · refine c ((o.mem u).mpr ?_)
      rw [List.map_map, ← of_decide_eq_true hd]
      exact List.mem_map_of_mem (f := (fun o : Str × V => o.1) ∘ fun x => (dl x, V.str (sg (lastC x)))) hx
structure AbsL (O : List Str) (al : Str) (l : List Str) : Prop where
  nd : l.Nodup
  pw : l.Pairwise leL
  mem : ∀ z, z ∈ l ↔ MinA O al z
theorem AbsL.uniq {O l m : List Str} {al bl : Str} (h : AbsL O al l) (k : AbsL O bl m) (e : ∀ c, c ∈ TL.tl al ↔ c ∈ TL.tl bl) : l = m :=
  ((List.perm_ext_iff_of_nodup h.nd k.nd).mpr fun z => (h.mem z).trans ((MinA.rev e).trans (k.mem z).symm)).eq_of_pairwise (fun a b _ _ => leL_anti) h.pw k.pw
theorem StrL.absL {F O l : List Str} {al : Str} (h : StrL F l) (e : ∀ z, z ∈ F ↔ MinA O al z) : AbsL O al l := ⟨h.nd, h.pw, fun z => (h.mem z).trans (e z)⟩
/-! ### lists of texts as data -/
def dTx (l : List Str) : PyData := .list (l.map .str)
theorem dp_txs {K : PySem.W.Frag} {H : Hp} : ∀ (l : List Str), DpAll K H (l.map V.str) (l.map PyData.str)
  | [] => .nil
  | _ :: r => .cons (.str _) (dp_txs r)
theorem dp_tx {K : PySem.W.Frag} {H : Hp} {a : Addr} {l : List Str} (h : SqL K H a (l.map V.str)) : Dp K H (.ref a) (dTx l) := .lst h (dp_txs l)
theorem okd_Tx {l : List Str} (h : ∀ z ∈ l, IsLet z) : Okd (dTx l) := by
  refine ⟨?_, ?_⟩
  · show PyData.canLayAll0 (l.map PyData.str) = true
    refine lay_all fun d hd => ?_
    obtain ⟨z, hz, rfl⟩ := List.mem_map.mp hd
    exact let_ok (h z hz)
  · have : ∀ l : List Str, PyData.depthAll (l.map PyData.str) = 0 := by
      intro l
      induction l with
      | nil => rfl
      | cons a r ih => rw [List.map_cons]; show max 0 (PyData.depthAll (r.map PyData.str)) = 0; rw [ih]; rfl
    show PyData.depthAll (l.map PyData.str) + 1 ≤ 60
    rw [this]
    decide
theorem eqv_nilTx (l : List Str) : PyData.eqv (dTx l) (dTx []) = decide (l = []) := by
  cases l with
  | nil => rfl
  | cons a r => rfl
theorem let_of {al z : Str} (hal : IsLet al) (h : okA al z) : IsLet z := List.all_eq_true.mpr fun c hc => List.all_eq_true.mp hal c (h c hc)
end SH
set_option Elab.async false
set_option linter.all false
set_option maxRecDepth 100000
set_option maxHeartbeats 4000000
/-! list(range(a, b, c)); a text backwards -/
namespace SH
open PySem PySem.Spec PyProof.Rows L2
def rgC (a c : Int) (n : Nat) : List V := (List.range n).map fun i => V.int (a + (i : Nat) * c)
theorem vals_rgC {a c : Int} {n : Nat} {acc : Array Value} (h : ItemsOf (fun i v => ∃ t, v = .int (a + i * c) t) acc n) : Vals (rgC a c n) acc.toList := by
  have e : acc.toList.length = n := by rw [Array.length_toList]; exact h.1
  unfold rgC
  rw [← e]
  refine vals_of_get acc.toList _ fun j u hj => ?_
  obtain ⟨t, rfl⟩ := h.2 j u (by rw [← hj, Array.getElem?_toList])
  exact ⟨t, rfl⟩
section
variable {X : Cx}
def tLstRg3 (ta : TA) : TE := fun σ H Q => ta σ H fun vs H1 => ∃ (i j c : Int) (n : Nat), vs = [.int i, .int j, .int c] ∧ RgC i j c n ∧ n ≤ 2 ^ 24 ∧ ∀ q, H1 q = none → Q (.ref q) (upd H1 q (.lst (rgC i c n)))
theorem pe_listRg3 {a b c : Expr} {ta : TA} {p pos p2 pos2 : Pos} (hc : X.calm = true) (hg : Gl X "list") (hm : X.mg "list" = none) (hg2 : Gl X "range") (hm2 : X.mg "range" = none) (ha : PA X [a, b, c] ta)
    (na : starEach [.Call (.Name "range" p) [a, b, c] [] pos] X.env = (false, eval (.Call (.Name "range" p) [a, b, c] [] pos) X.env) :: starEach [] X.env := by rfl)
    (hs : starEach [a, b, c] X.env = (false, eval a X.env) :: starEach [b, c] X.env := by rfl) (hpl : (backTo pos (starEach [b, c] X.env)).any (·.1) = false := by rfl) :
    PE X (.Call (.Name "list" p2) [.Call (.Name "range" p) [a, b, c] [] pos] [] pos2) (tLstRg3 ta) := by
  refine ⟨fun pins s σ H Q I h => ?_⟩
  have he : wpAny (model X.prog X.w) X.A (eval (.Call (.Name "range" p) [a, b, c] [] pos) X.env) (fun x s' => ∃ r i j k n t u v H', x = .ref r ∧ IsRange s'.heap r i j k t u v ∧ Inv X pins σ H' s' ∧ RgC i j k n ∧ n ≤ 2 ^ 24 ∧ ∀ q, H' q = none → Q (.ref q) (upd H' q (.lst (rgC i k n)))) X.xe s := by
    refine Call_ (ld_blt I hg2 hm2 boot_range (PyProof.Rows.callWith_type1 (thn (ha.run pos pins s σ H _ I h) fun us s1 ⟨vs, H1, I1, r1, q1⟩ => ?_) hs hpl))
    obtain ⟨i, j, k, n, e, ok, hn, q⟩ := q1
    obtain ⟨c0, c1, c2, c3⟩ := id ok
    subst e
    cases r1 with
    | cons r rr =>
      cases rr with
      | cons r' rr =>
        cases rr with
        | cons r'' rr =>
          cases rr
          obtain ⟨t, rfl⟩ := r
          obtain ⟨t', rfl⟩ := r'
          obtain ⟨t'', rfl⟩ := r''
          refine call_range_3 c0 ?_ (.inl (PyProof.noPylong_small c1))
          exact ⟨_, i, j, k, n, _, _, _, H1, rfl, IsRange.new _ _ _ _ _ _ _, I1.kept (t' := s1.toks) fun b o e => Heap.get?_push_of_some _ e, ok, hn, q⟩
  refine Call_ (ld_blt I hg hm boot_list (PyProof.Rows.callWith_type1 (args_cons (thn he fun x s1 ⟨r, i, j, k, n, t, u, v, H1, ex, hr, I1, ok, hn, q⟩ => args_nil ?_) na) na))
  subst ex
  obtain ⟨c0, c1, c2, c3⟩ := ok
  refine call_list_range (n := n) (I1.ok.hd hc) hr c2 c3 hn fun h' tk acc c' hk e' hi => ?_
  refine ⟨.ref s1.heap.objs.size, upd H1 s1.heap.objs.size (.lst (rgC i k n)), I1.laid hk (Nat.le_refl _) (show ObjOk X.prog X.w _ _ _ (.lst (rgC i k n)) from ⟨?_, acc.toList, c', vals_rgC hi, ?_⟩), rfl, q _ (I1.hok.fresh (Nat.le_refl _))⟩
  · unfold rgC
    rw [List.length_map, List.length_range, sizeLine_eq]
    exact hn
  · rw [Array.toArray_toList]; exact e'
/-- a text backwards -/
def revS (z : Str) : Str := ⟨z.cps.toList.reverse.toArray⟩
theorem revS_tl (z : Str) : TL.tl (revS z) = (TL.tl z).reverse := rfl
def tRevS (te : TE) : TE := fun σ H Q => te σ H fun x H1 => ∃ z : Str, x = .str z ∧ z.length ≤ sizeLine ∧ Q (.str (revS z)) H1
theorem krs_pick (z : Str) : ((Builtin.Str.strSliceIndices none none (-1) z.length).filterMap (z.cps[·]?)).toArray = z.cps.toList.reverse.toArray := by
  have e : Builtin.Str.strSliceIndices none none (-1) z.length = (List.range z.length).map fun k => z.length - 1 - k := PySem.W.krv_sliceRange z.length
  rw [e, PySem.W.krv_range, List.filterMap_reverse]
  show ((List.filterMap (z.cps[·]?) (List.range z.cps.size)).reverse).toArray = _
  rw [PySem.W.krv_all]
theorem pe_revS {e : Expr} {te : TE} {k : Nat} {p1 p2 p3 pos : Pos} (he : PE X e te) : PE X (.Subscript e (.Slice none none (some (.UnaryOp .USub (.Constant (.int 1) k p1) p2)) p3) pos) (tRevS te) := by
  refine ⟨fun pins s σ H Q I h => ?_⟩
  refine Subscript_ (thn (he.run pins s σ H _ I h) fun v s1 ⟨x, H1, I1, r1, q1⟩ => ?_)
  obtain ⟨z, ex, hz, q⟩ := q1
  subst ex
  obtain ⟨t, rfl⟩ := r1
  have hst : PO X (some (.UnaryOp .USub (.Constant (.int 1) k p1) p2)) (tPart (tUn (rU fun i => .int (-i)) (tC (.int 1)))) := po_some (pe_un un_neg pe_int)
  refine wpAny_Slice (thn (po_none.run pins s1 σ H1 (fun o H2 => o = none ∧ H2 = H1) I1 ⟨rfl, rfl⟩) fun vl s2 ⟨l, H2, I2, pl, el, e2⟩ => ?_)
  subst el e2
  refine thn (po_none.run pins s2 σ H2 (fun o H3 => o = none ∧ H3 = H2) I2 ⟨rfl, rfl⟩) fun vu s3 ⟨u, H3, I3, pu, eu, e3⟩ => ?_
  subst eu e3
  refine thn (hst.run pins s3 σ H3 (fun o H4 => o = some (-1) ∧ H4 = H3) I3 ⟨1, rfl, -1, rfl, rfl, rfl⟩) fun vs s4 ⟨o, H4, I4, ps, eo, e4⟩ => ?_
  subst eo e4
  have I5 : Inv X pins σ H4 { s4 with heap := s4.heap.push { cls := .type "slice", data := .fields #[vl, vu, vs] } } := I4.kept (t' := s4.toks) fun b ob q => Heap.get?_push_of_some _ q
  obtain ⟨l, rfl, el⟩ := IsPart.raw pl
  obtain ⟨u, rfl, eu⟩ := IsPart.raw pu
  obtain ⟨st, rfl, es⟩ := IsPart.raw ps
  have hS := Heap.IsSliceOf.new s4.heap (partValue l) (partValue u) (partValue st)
  obtain ⟨os, hos, hcs, hds⟩ := hS
  show wpAny (model X.prog X.w) X.A (subscriptTail e (.Slice none none (some (.UnaryOp .USub (.Constant (.int 1) k p1) p2)) p3) (.str z t) (.ref s4.heap.objs.size)) (EP X pins σ Q) X.xe { s4 with heap := s4.heap.push { cls := .type "slice", data := .fields #[partValue l, partValue u, partValue st] } }
  refine tail_any (ops := [.str z t, .ref s4.heap.objs.size]) (typeIs_str _ _ _) (F.slot_str_getitem.lookup) ?_ (by with_unfolding_all rfl)
  have es1 : (st.map (·.1)) = some (-1) := es
  refine wpAny_getItem_str_slice (l := l) (u := u) (st := st) ⟨os, hos, hcs, hds⟩ (by rw [es1]; rfl) ?_
  unfold sliceMade slicePicked
  rw [es1, el, eu]
  have hne : ¬ (((some (-1 : Int)).getD 1 == 1 && (Builtin.Str.strSliceIndices none none ((some (-1 : Int)).getD 1) z.length).length == z.length) = true) := by
    rw [show ((some (-1 : Int)).getD 1 == 1) = false from rfl, Bool.false_and]
    exact Bool.false_ne_true
  rw [if_neg hne]
  have e3 : ((Builtin.Str.strSliceIndices none none ((some (-1 : Int)).getD 1) z.length).filterMap (z.cps[·]?)).toArray = z.cps.toList.reverse.toArray := krs_pick z
  rw [e3]
  refine ⟨?_, .str (revS z), H4, I5.tok _, ⟨_, rfl⟩, q⟩
  show z.cps.toList.reverse.toArray.size ≤ sizeLine
  rw [List.size_toArray, List.length_reverse]
  exact hz
theorem pe_revLK {K : PySem.W.Frag} {e : Expr} {te : TE} {k : Nat} {p1 p2 p3 pos : Pos} (he : PE X e te) (h : X.K = K := by rfl) : PE X (.Subscript e (.Slice none none (some (.UnaryOp .USub (.Constant (.int 1) k p1) p2)) p3) pos) (tRevL K te) := h ▸ pe_revL he
end
end SH
set_option Elab.async false
set_option linter.all false
set_option maxRecDepth 100000
set_option maxHeartbeats 4000000
/-! slices of texts as lists of signs; letters joined -/
namespace SH
open PySem PySem.Spec PyProof.Rows L2
theorem tlen (z : Str) : (TL.tl z).length = z.length := (TL.len_tl z).symm
theorem cuts_take (z : Str) (k : Nat) : TL.tl (cutS z none (some (k : Int))) = (TL.tl z).take k := by
  show (z.cps.toList.drop (HT.sIx z.length 0 none)).take (HT.sIx z.length z.length (some (k : Int)) - HT.sIx z.length 0 none) = _
  rw [HT.sIx_none, HT.sIx_nat, List.drop_zero, Nat.sub_zero]
  have hz : z.cps.toList.length = z.length := rfl
  rcases Nat.le_total k z.length with h | h
  · rw [Nat.min_eq_left h]
  · rw [Nat.min_eq_right h, List.take_of_length_le (by rw [hz]; exact Nat.le_refl _)]
    exact (List.take_of_length_le (by rw [tlen]; exact h)).symm
theorem cuts_drop (z : Str) (k : Nat) : TL.tl (cutS z (some (k : Int)) none) = (TL.tl z).drop k := by
  show (z.cps.toList.drop (HT.sIx z.length 0 (some (k : Int)))).take (HT.sIx z.length z.length none - HT.sIx z.length 0 (some (k : Int))) = _
  rw [HT.sIx_none, HT.sIx_nat]
  have hz : z.cps.toList.length = z.length := rfl
  rcases Nat.le_total k z.length with h | h
  · rw [Nat.min_eq_left h, List.take_of_length_le (by rw [List.length_drop, hz]; exact Nat.le_refl _)]
  · rw [Nat.min_eq_right h, List.drop_of_length_le (by rw [hz]; exact Nat.le_refl _), List.take_nil]
    exact (List.drop_of_length_le (by rw [tlen]; exact h)).symm
theorem joinL_ones : ∀ cs : List Nat, TL.joinL [] (cs.map fun c => [c]) = cs
  | [] => rfl
  | [c] => rfl
  | c :: d :: r => by
    show [c] ++ ([] ++ TL.joinL [] ((d :: r).map fun c => [c])) = _
    rw [joinL_ones (d :: r)]
    rfl
theorem tl_join_ones (cs : List Nat) : TL.tl (Txt.join "" (cs.map fun c => (⟨#[c]⟩ : Str))) = cs := by
  have e : (Txt.join "" (cs.map fun c => (⟨#[c]⟩ : Str))).cps.toList = TL.joinL [] (cs.map fun c => [c]) := by
    rw [TL.join_eq]
    refine (TL.tl_join "" _).trans ?_
    rw [List.map_map]
    rfl
  rw [joinL_ones] at e
  exact e
theorem cut_let {z : Str} (h : IsLet z) (lo hi : Option Int) : IsLet (cutS z lo hi) := List.all_eq_true.mpr fun c hc => List.all_eq_true.mp h c (List.mem_of_mem_drop (List.mem_of_mem_take (show c ∈ (z.cps.toList.drop _).take _ from hc)))
end SH
set_option Elab.async false
set_option linter.all false
set_option maxRecDepth 100000
set_option maxHeartbeats 4000000
/-! distances of words, tables of them -/
namespace SH
open PySem PySem.Spec PyProof.Rows L2
def ed : List Nat → List Nat → Nat
  | [], y => y.length
  | _ :: x, [] => x.length + 1
  | a :: x, b :: y => min (ed x (b :: y) + 1) (min (ed (a :: x) y + 1) (ed x y + if a = b then 0 else 1))
termination_by x y => x.length + y.length
theorem ed_nil (y : List Nat) : ed [] y = y.length := by
  unfold ed
  rfl
theorem ed_nil2 (x : List Nat) : ed x [] = x.length := by
  cases x <;> unfold ed <;> rfl
theorem ed_cons (a b : Nat) (x y : List Nat) : ed (a :: x) (b :: y) = min (ed x (b :: y) + 1) (min (ed (a :: x) y + 1) (ed x y + if a = b then 0 else 1)) := by
  rw [ed]
theorem ed_out (a : Nat) (x y : List Nat) : ed (a :: x) y ≤ ed x y + 1 := by
  cases y with
  | nil => rw [ed_nil2, ed_nil2]; exact Nat.le_refl _
  | cons b y => rw [ed_cons]; omega
theorem ed_put (b : Nat) (x y : List Nat) : ed x (b :: y) ≤ ed x y + 1 := by
  cases x with
  | nil => rw [ed_nil, ed_nil]; exact Nat.le_refl _
  | cons a x => rw [ed_cons]; omega
theorem ed_lip (a : Nat) (x : List Nat) : ∀ y : List Nat, ed x y ≤ ed (a :: x) y + 1
  | [] => by rw [ed_nil2, ed_nil2, List.length_cons]; omega
  | b :: y => by
    have ih := ed_lip a x y
    have h := ed_put b x y
    rw [ed_cons]
    split <;> omega
theorem ed_symm : ∀ (x y : List Nat), ed x y = ed y x
  | [], y => by rw [ed_nil, ed_nil2]
  | a :: x, [] => by rw [ed_nil, ed_nil2]
  | a :: x, b :: y => by
    rw [ed_cons, ed_cons, ed_symm x (b :: y), ed_symm (a :: x) y, ed_symm x y]
    have : (if a = b then 0 else 1) = (if b = a then 0 else 1) := by
      by_cases h : a = b
      · rw [if_pos h, if_pos h.symm]
      · rw [if_neg h, if_neg (fun z => h z.symm)]
    rw [this]
    omega
termination_by x y => x.length + y.length
theorem ed_lip2 (b : Nat) (x y : List Nat) : ed x y ≤ ed x (b :: y) + 1 := by
  rw [ed_symm x y, ed_symm x (b :: y)]
  exact ed_lip b y x
/-- what begins alike -/
theorem ed_same (a : Nat) (x y : List Nat) : ed (a :: x) (a :: y) = ed x y := by
  rw [ed_cons, if_pos rfl]
  have := ed_lip2 a x y
  have := ed_lip a x y
  omega
theorem ed_diff {a b : Nat} (h : a ≠ b) (x y : List Nat) : ed (a :: x) (b :: y) = 1 + min (ed x (b :: y)) (min (ed (a :: x) y) (ed x y)) := by
  rw [ed_cons, if_neg h]
  omega
theorem ed_self : ∀ x : List Nat, ed x x = 0
  | [] => by rw [ed_nil]; rfl
  | a :: x => by rw [ed_same, ed_self x]
theorem ed_le (x y : List Nat) : ed x y ≤ x.length + y.length := by
  induction x with
  | nil => rw [ed_nil]; omega
  | cons a x ih =>
    have := ed_out a x y
    rw [List.length_cons]
    omega
/-! ### rows and tables -/
def rowE (x y : List Nat) : List Int := (List.range (y.length + 1)).map fun j => ((ed x (y.drop j) : Nat) : Int)
def tabE (x y : List Nat) : List (List Int) := (List.range (x.length + 1)).map fun i => rowE (x.drop i) y
theorem rowE_len (x y : List Nat) : (rowE x y).length = y.length + 1 := by unfold rowE; rw [List.length_map, List.length_range]
theorem tabE_len (x y : List Nat) : (tabE x y).length = x.length + 1 := by unfold tabE; rw [List.length_map, List.length_range]
theorem rowE_at {x y : List Nat} {j : Nat} (h : j ≤ y.length) : (rowE x y)[j]? = some ((ed x (y.drop j) : Nat) : Int) := by
  unfold rowE
  rw [List.getElem?_map, List.getElem?_range (by omega)]
  rfl
theorem tabE_at {x y : List Nat} {i : Nat} (h : i ≤ x.length) : (tabE x y)[i]? = some (rowE (x.drop i) y) := by
  unfold tabE
  rw [List.getElem?_map, List.getElem?_range (by omega)]
  rfl
theorem rowE_of {x y : List Nat} {l : List Int} (hl : l.length = y.length + 1) (h : ∀ j, j ≤ y.length → l[j]? = some ((ed x (y.drop j) : Nat) : Int)) : l = rowE x y := by
  refine List.ext_getElem? fun j => ?_
  rcases Nat.lt_or_ge y.length j with c | c
  · rw [List.getElem?_eq_none (by omega), List.getElem?_eq_none (by rw [rowE_len]; omega)]
  · rw [h j c, rowE_at c]
/-- the same recursion over the whole table, from the ends -/
theorem drop_cons {y : List Nat} {j : Nat} (h : j < y.length) : y.drop j = y[j] :: y.drop (j + 1) := List.drop_eq_getElem_cons h
/-! ### tables in the heap -/
structure TabAt (H : Hp) (t : Addr) (rs : List Addr) (M : List (List Int)) : Prop where
  at_ : H t = some (.lst (rs.map V.ref))
  len : rs.length = M.length
  row : ∀ (i : Nat) (r : Addr) (l : List Int), rs[i]? = some r → M[i]? = some l → H r = some (.lst (l.map V.int))
theorem TabAt.same {H H' : Hp} {t : Addr} {rs : List Addr} {M : List (List Int)} (s : Same H H') (h : TabAt H t rs M) : TabAt H' t rs M :=
  ⟨s _ _ h.at_, h.len, fun i r l a b => s _ _ (h.row i r l a b)⟩
def dM (M : List (List Int)) : PyData := .list (M.map dI)
theorem dp_all_of {K : PySem.W.Frag} {H : Hp} : ∀ {vs : List V} {ds : List PyData}, vs.length = ds.length → (∀ (i : Nat) (v : V) (d : PyData), vs[i]? = some v → ds[i]? = some d → Dp K H v d) → DpAll K H vs ds
  | [], [], _, _ => .nil
  | [], _ :: _, h, _ => by simp at h
  | _ :: _, [], h, _ => by simp at h
  | v :: vs, d :: ds, h, f => .cons (f 0 v d rfl rfl) (dp_all_of (by simpa using h) fun i a b h1 h2 => f (i + 1) a b (by simpa using h1) (by simpa using h2))
theorem dp_tab {K : PySem.W.Frag} {H : Hp} {t : Addr} {rs : List Addr} {M : List (List Int)} (h : TabAt H t rs M) : Dp K H (.ref t) (dM M) := by
  refine .lst (SqL.of h.at_) (dp_all_of (by rw [List.length_map, List.length_map, h.len]) fun i v d h1 h2 => ?_)
  rw [List.getElem?_map] at h1 h2
  cases e1 : rs[i]? with
  | none => rw [e1] at h1; cases h1
  | some r =>
    cases e2 : M[i]? with
    | none => rw [e2] at h2; cases h2
    | some l =>
      rw [e1] at h1
      rw [e2] at h2
      cases h1
      cases h2
      exact dp_i (SqL.of (h.row i r l e1 e2))
theorem okd_M (M : List (List Int)) : Okd (dM M) := okd_list (fun d m => by
  obtain ⟨l, _, rfl⟩ := List.mem_map.mp m
  exact dI_lay l) fun d m => by
  obtain ⟨l, _, rfl⟩ := List.mem_map.mp m
  exact Nat.le_trans (dI_d l) (by decide)
/-- a new table -/
def NewTab (H H' : Hp) (t : Addr) (rs : List Addr) (M : List (List Int)) : Prop := TabAt H' t rs M ∧ H t = none ∧ ∀ r ∈ rs, H r = none
/-- the table of two words: new lists -/
def spTable : Sp := fun vs H Q _ => ∃ a b : Str, vs = [.str a, .str b] ∧ a.length ≤ 200 ∧ b.length ≤ 200 ∧ ∀ (t : Addr) (rs : List Addr) (H' : Hp), Same H H' → NewTab H H' t rs (tabE (TL.tl a) (TL.tl b)) → Q (.ref t) H'
theorem ixN_nat {n j : Nat} (h : j < n) : ixN n (j : Int) = some j := by
  unfold ixN
  rw [if_pos (by omega), if_pos (by omega), Int.toNat_natCast]
theorem nuMin2_int (a b : Int) : nuMin2 (.int a) (.int b) = some (.int (min a b)) := by
  show some (if decide (b < a) = true then V.int b else V.int a) = _
  by_cases h : b < a
  · rw [decide_eq_true h, if_pos rfl, show min a b = b by omega]
  · rw [decide_eq_false h, if_neg Bool.false_ne_true, show min a b = a by omega]
theorem nuMin3_int (a b c : Int) : nuMin3 (.int a) (.int b) (.int c) = some (.int (min a (min b c))) := by
  unfold nuMin3
  rw [nuMin2_int]
  show nuMin2 (.int (min a b)) (.int c) = _
  rw [nuMin2_int, show min (min a b) c = min a (min b c) by omega]
end SH
set_option Elab.async false
set_option linter.all false
set_option maxRecDepth 100000
set_option maxHeartbeats 4000000
/-! a table that is filled -/
namespace SH
open PySem PySem.Spec PyProof.Rows L2
def rowF (F : Nat → Nat → Int) (n i : Nat) : List V := (List.range (n + 1)).map fun j => V.int (F i j)
structure TabF (H0 H : Hp) (t : Addr) (rs : List Addr) (m n : Nat) (F : Nat → Nat → Int) : Prop where
  sm : Same H0 H
  at_ : H t = some (.lst (rs.map V.ref))
  nt : H0 t = none
  len : rs.length = m + 1
  nd : rs.Nodup
  new : ∀ r ∈ rs, r ≠ t ∧ H0 r = none
  row : ∀ (i : Nat) (r : Addr), rs[i]? = some r → H r = some (.lst (rowF F n i))
theorem TabF.same {H0 H H' : Hp} {t : Addr} {rs : List Addr} {m n : Nat} {F : Nat → Nat → Int} (h : TabF H0 H t rs m n F) (s : Same H H') : TabF H0 H' t rs m n F :=
  ⟨h.sm.trans s, s _ _ h.at_, h.nt, h.len, h.nd, h.new, fun i r e => s _ _ (h.row i r e)⟩
theorem rowF_at {F : Nat → Nat → Int} {n i j : Nat} (h : j ≤ n) : (rowF F n i)[j]? = some (.int (F i j)) := by
  unfold rowF
  rw [List.getElem?_map, List.getElem?_range (by omega)]
  rfl
theorem rowF_len (F : Nat → Nat → Int) (n i : Nat) : (rowF F n i).length = n + 1 := by
  unfold rowF
  rw [List.length_map, List.length_range]
theorem TabF.cell {H0 H : Hp} {t : Addr} {rs : List Addr} {m n : Nat} {F : Nat → Nat → Int} (h : TabF H0 H t rs m n F) {i j : Nat} (hi : i ≤ m) (hj : j ≤ n) :
    ∃ r, rs[i]? = some r ∧ r ∈ rs ∧ atI (rs.map V.ref) (i : Int) = some (.ref r) ∧ H r = some (.lst (rowF F n i)) ∧ atI (rowF F n i) (j : Int) = some (.int (F i j)) := by
  have l := h.len
  have e : rs[i]? = some (rs[i]'(by omega)) := List.getElem?_eq_getElem (by omega)
  exact ⟨_, e, List.getElem_mem _, atI_nat (by rw [List.getElem?_map, e]; rfl), h.row i _ e, atI_nat (rowF_at hj)⟩
def setF (F : Nat → Nat → Int) (i j : Nat) (v : Int) : Nat → Nat → Int := fun a c => if a = i ∧ c = j then v else F a c
theorem TabF.set {H0 H : Hp} {t : Addr} {rs : List Addr} {m n : Nat} {F : Nat → Nat → Int} (h : TabF H0 H t rs m n F) {i j : Nat} {r : Addr} (e : rs[i]? = some r) (hj : j ≤ n) (v : Int) :
    TabF H0 (upd H r (.lst ((rowF F n i).set j (.int v)))) t rs m n (setF F i j v) := by
  have rm := List.mem_of_getElem? e
  have nw := h.new r rm
  refine ⟨same_mut h.sm nw.2, ?_, h.nt, h.len, h.nd, h.new, fun k r2 e2 => ?_⟩
  · rw [upd_ne (fun z => nw.1 z.symm)]
    exact h.at_
  · by_cases c : k = i
    · subst c
      rw [e] at e2
      obtain rfl := Option.some.inj e2
      rw [upd_same]
      congr 2
      refine List.ext_getElem? fun a => ?_
      rcases Nat.lt_or_ge n a with ha | ha
      · rw [List.getElem?_eq_none (by rw [List.length_set, rowF_len]; omega), List.getElem?_eq_none (by rw [rowF_len]; omega)]
      · rw [rowF_at ha]
        unfold setF
        by_cases c : a = j
        · subst c
          rw [List.getElem?_set_self (by rw [rowF_len]; omega), if_pos ⟨rfl, rfl⟩]
        · rw [List.getElem?_set_ne (fun z => c z.symm), rowF_at ha, if_neg (fun z => c z.2)]
    · have ne : r2 ≠ r := fun z => by
        subst z
        have h1 := (List.getElem?_eq_some_iff.mp e)
        have h2 := (List.getElem?_eq_some_iff.mp e2)
        obtain ⟨l1, g1⟩ := h1
        obtain ⟨l2, g2⟩ := h2
        rcases Nat.lt_trichotomy k i with z | z | z
        · exact List.pairwise_iff_getElem.mp h.nd k i l2 l1 z (g2.trans g1.symm)
        · exact c z
        · exact List.pairwise_iff_getElem.mp h.nd i k l1 l2 z (g1.trans g2.symm)
      rw [upd_ne ne, h.row k r2 e2]
      congr 2
      unfold rowF setF
      refine List.map_congr_left fun a _ => ?_
      rw [if_neg (fun z => c z.1)]
theorem TabF.tab {H0 H : Hp} {t : Addr} {rs : List Addr} {x y : List Nat} {F : Nat → Nat → Int} (h : TabF H0 H t rs x.length y.length F) (hF : ∀ a c, a ≤ x.length → c ≤ y.length → F a c = ((ed (x.drop a) (y.drop c) : Nat) : Int)) : NewTab H0 H t rs (tabE x y) := by
  refine ⟨⟨h.at_, by rw [h.len, tabE_len], fun i r l e1 e2 => ?_⟩, h.nt, fun r m => (h.new r m).2⟩
  have hi : i ≤ x.length := by
    have := (List.getElem?_eq_some_iff.mp e1).1
    have := h.len
    omega
  rw [tabE_at hi] at e2
  obtain rfl := Option.some.inj e2
  rw [h.row i r e1]
  unfold rowF rowE
  rw [List.map_map]
  congr 2
  refine List.map_congr_left fun c hc => ?_
  have := List.mem_range.mp hc
  rw [hF i c hi (by omega)]
  rfl
theorem eqv_nil_ne (x : Int) (l : List Int) : PyData.eqv (dI (x :: l)) (dI []) = false := rfl
theorem setF_same (F : Nat → Nat → Int) (i j : Nat) (v : Int) : setF F i j v i j = v := if_pos ⟨rfl, rfl⟩
theorem setF_ne {F : Nat → Nat → Int} {i j a c : Nat} {v : Int} (h : ¬ (a = i ∧ c = j)) : setF F i j v a c = F a c := if_neg h
end SH
set_option Elab.async false
set_option linter.all false
set_option maxRecDepth 100000
set_option maxHeartbeats 4000000
/-! alignments -/
namespace SH
open PySem PySem.Spec PyProof.Rows L2
inductive Stp where
  | keep (c : Nat)
  | chg (c d : Nat)
  | out (c : Nat)
  | put (d : Nat)
abbrev s1 (c : Nat) : Str := ⟨#[c]⟩
def stV : Stp → List V
  | .keep c => [.str "keep", .str (s1 c)]
  | .chg c d => [.str "change", .str (s1 c), .str (s1 d)]
  | .out c => [.str "out", .str (s1 c)]
  | .put d => [.str "put", .str (s1 d)]
def stD : Stp → PyData
  | .keep c => .tuple [.str "keep", .str (s1 c)]
  | .chg c d => .tuple [.str "change", .str (s1 c), .str (s1 d)]
  | .out c => .tuple [.str "out", .str (s1 c)]
  | .put d => .tuple [.str "put", .str (s1 d)]
def stOk : Stp → Prop
  | .keep c => okc c = true
  | .chg c d => okc c = true ∧ okc d = true
  | .out c => okc c = true
  | .put d => okc d = true
/-- the told alignment -/
def tst : List Nat → List Nat → List Stp
  | [], [] => []
  | [], b :: y => .put b :: tst [] y
  | a :: x, [] => .out a :: tst x []
  | a :: x, b :: y => if a = b then .keep a :: tst x y else if ed (a :: x) (b :: y) = ed x y + 1 then .chg a b :: tst x y else if ed (a :: x) (b :: y) = ed x (b :: y) + 1 then .out a :: tst x (b :: y) else .put b :: tst (a :: x) y
termination_by x y => x.length + y.length
theorem tst_nn : tst [] [] = [] := by unfold tst; rfl
theorem tst_np (b : Nat) (y : List Nat) : tst [] (b :: y) = .put b :: tst [] y := by rw [tst]
theorem tst_on (a : Nat) (x : List Nat) : tst (a :: x) [] = .out a :: tst x [] := by rw [tst]
theorem tst_cc (a b : Nat) (x y : List Nat) : tst (a :: x) (b :: y) = if a = b then .keep a :: tst x y else if ed (a :: x) (b :: y) = ed x y + 1 then .chg a b :: tst x y else if ed (a :: x) (b :: y) = ed x (b :: y) + 1 then .out a :: tst x (b :: y) else .put b :: tst (a :: x) y := by rw [tst]
theorem tst_self : ∀ x : List Nat, tst x x = x.map .keep
  | [] => tst_nn
  | a :: x => by rw [tst_cc, if_pos rfl, tst_self x]; rfl
def isKeep : Stp → Bool
  | .keep _ => true
  | _ => false
def price (S : List Stp) : Nat := (S.filter fun s => !isKeep s).length
theorem price_keep (c : Nat) (S : List Stp) : price (.keep c :: S) = price S := rfl
theorem price_else {s : Stp} (h : isKeep s = false) (S : List Stp) : price (s :: S) = price S + 1 := by
  unfold price
  rw [List.filter_cons_of_pos (by rw [h]; rfl), List.length_cons]
theorem price_tst : ∀ (x y : List Nat), price (tst x y) = ed x y
  | [], [] => by rw [tst_nn, ed_nil]; rfl
  | [], b :: y => by rw [tst_np, price_else rfl, price_tst [] y, ed_nil, ed_nil, List.length_cons]
  | a :: x, [] => by rw [tst_on, price_else rfl, price_tst x [], ed_nil2, ed_nil2, List.length_cons]
  | a :: x, b :: y => by
    rw [tst_cc]
    by_cases c : a = b
    · rw [if_pos c, price_keep, price_tst x y, c, ed_same]
    · rw [if_neg c]
      by_cases c1 : ed (a :: x) (b :: y) = ed x y + 1
      · rw [if_pos c1, price_else rfl, price_tst x y, c1]
      · rw [if_neg c1]
        by_cases c2 : ed (a :: x) (b :: y) = ed x (b :: y) + 1
        · rw [if_pos c2, price_else rfl, price_tst x (b :: y), c2]
        · rw [if_neg c2, price_else rfl, price_tst (a :: x) y]
          have := ed_diff c x y
          omega
termination_by x y => x.length + y.length
/-- where an alignment leads, or the first step that does not fit -/
def ali : List Nat → List Stp → Nat → Except Nat (List Nat)
  | [], [], _ => .ok []
  | _ :: _, [], k => .error k
  | x, .put d :: r, k => (ali x r (k + 1)).map (d :: ·)
  | a :: x, .keep c :: r, k => if a = c then (ali x r (k + 1)).map (c :: ·) else .error k
  | [], .keep _ :: _, k => .error k
  | a :: x, .chg c d :: r, k => if a = c ∧ c ≠ d then (ali x r (k + 1)).map (d :: ·) else .error k
  | [], .chg _ _ :: _, k => .error k
  | a :: x, .out c :: r, k => if a = c then ali x r (k + 1) else .error k
  | [], .out _ :: _, k => .error k
theorem ali_tst : ∀ (x y : List Nat) (k : Nat), ali x (tst x y) k = .ok y
  | [], [], k => by rw [tst_nn]; rfl
  | [], b :: y, k => by
    rw [tst_np]
    show (ali [] (tst [] y) (k + 1)).map (b :: ·) = _
    rw [ali_tst [] y]
    rfl
  | a :: x, [], k => by
    rw [tst_on]
    show (if a = a then ali x (tst x []) (k + 1) else .error k) = _
    rw [if_pos rfl, ali_tst x []]
  | a :: x, b :: y, k => by
    rw [tst_cc]
    by_cases c : a = b
    · rw [if_pos c]
      show (if a = a then (ali x (tst x y) (k + 1)).map (a :: ·) else .error k) = _
      rw [if_pos rfl, ali_tst x y, c]
      rfl
    · rw [if_neg c]
      by_cases c1 : ed (a :: x) (b :: y) = ed x y + 1
      · rw [if_pos c1]
        show (if a = a ∧ a ≠ b then (ali x (tst x y) (k + 1)).map (b :: ·) else .error k) = _
        rw [if_pos ⟨rfl, c⟩, ali_tst x y]
        rfl
      · rw [if_neg c1]
        by_cases c2 : ed (a :: x) (b :: y) = ed x (b :: y) + 1
        · rw [if_pos c2]
          show (if a = a then ali x (tst x (b :: y)) (k + 1) else .error k) = _
          rw [if_pos rfl, ali_tst x (b :: y)]
        · rw [if_neg c2]
          show (ali (a :: x) (tst (a :: x) y) (k + 1)).map (b :: ·) = _
          rw [ali_tst (a :: x) y]
          rfl
termination_by x y => x.length + y.length
theorem tst_ok : ∀ {x y : List Nat}, (∀ c ∈ x, okc c = true) → (∀ c ∈ y, okc c = true) → ∀ s ∈ tst x y, stOk s
  | [], [], _, _ => by rw [tst_nn]; exact fun _ m => nomatch m
  | [], b :: y, hx, hy => by
    rw [tst_np]
    intro s m
    rcases List.mem_cons.mp m with e | m
    · rw [e]; exact hy b (List.mem_cons_self ..)
    · exact tst_ok hx (fun c m => hy c (List.mem_cons_of_mem _ m)) s m
  | a :: x, [], hx, hy => by
    rw [tst_on]
    intro s m
    rcases List.mem_cons.mp m with e | m
    · rw [e]; exact hx a (List.mem_cons_self ..)
    · exact tst_ok (fun c m => hx c (List.mem_cons_of_mem _ m)) hy s m
  | a :: x, b :: y, hx, hy => by
    have ha := hx a (List.mem_cons_self ..)
    have hb := hy b (List.mem_cons_self ..)
    have hx' : ∀ c ∈ x, okc c = true := fun c m => hx c (List.mem_cons_of_mem _ m)
    have hy' : ∀ c ∈ y, okc c = true := fun c m => hy c (List.mem_cons_of_mem _ m)
    rw [tst_cc]
    intro s m
    split at m
    · rcases List.mem_cons.mp m with e | m
      · rw [e]; exact ha
      · exact tst_ok hx' hy' s m
    · split at m
      · rcases List.mem_cons.mp m with e | m
        · rw [e]; exact ⟨ha, hb⟩
        · exact tst_ok hx' hy' s m
      · split at m
        · rcases List.mem_cons.mp m with e | m
          · rw [e]; exact ha
          · exact tst_ok hx' hy s m
        · rcases List.mem_cons.mp m with e | m
          · rw [e]; exact hb
          · exact tst_ok hx hy' s m
termination_by x y => x.length + y.length
theorem tst_len : ∀ (x y : List Nat), (tst x y).length ≤ x.length + y.length
  | [], [] => by rw [tst_nn]; exact Nat.zero_le _
  | [], b :: y => by rw [tst_np, List.length_cons, List.length_cons]; have := tst_len [] y; omega
  | a :: x, [] => by rw [tst_on, List.length_cons, List.length_cons]; have := tst_len x []; omega
  | a :: x, b :: y => by
    have h1 := tst_len x y
    have h2 := tst_len x (b :: y)
    have h3 := tst_len (a :: x) y
    rw [tst_cc]
    simp only [List.length_cons] at *
    split
    · simp only [List.length_cons]; omega
    · split
      · simp only [List.length_cons]; omega
      · split <;> simp only [List.length_cons] <;> omega
termination_by x y => x.length + y.length
/-! ### steps in the heap -/
abbrev ST := List (Addr × Stp)
def srefs (S : ST) : List V := S.map fun s => V.ref s.1
def StAt (K : PySem.W.Frag) (H : Hp) (S : ST) : Prop := ∀ s ∈ S, SqT K H s.1 (stV s.2)
theorem StAt.same {K : PySem.W.Frag} {H H' : Hp} {S : ST} (e : Same H H') (h : StAt K H S) : StAt K H' S := fun s m => same_tup e (h s m)
theorem StAt.put {K : PySem.W.Frag} {H : Hp} {S : ST} {D : Addr} {l : List V} {o : HO} (h : StAt K H S) (hD : H D = some (.lst l)) : StAt K (upd H D o) S := fun z m => but_tup (l := l) hD but_upd (h z m)
theorem srefs_len (S : ST) : (srefs S).length = S.length := List.length_map ..
theorem srefs_get {S : ST} {i : Nat} {x : V} (h : (srefs S)[i]? = some x) : ∃ s, S[i]? = some s ∧ s ∈ S ∧ x = .ref s.1 := by
  unfold srefs at h
  rw [List.getElem?_map] at h
  cases e : S[i]? with
  | none => rw [e] at h; cases h
  | some z => rw [e] at h; cases h; exact ⟨z, rfl, List.mem_of_getElem? e, rfl⟩
def dSt (l : List Stp) : PyData := .list (l.map stD)
theorem dp_st1 {K : PySem.W.Frag} {H : Hp} {t : Addr} {s : Stp} (h : SqT K H t (stV s)) : Dp K H (.ref t) (stD s) := by
  cases s with
  | keep c => exact .tup h (.cons (.str _) (.cons (.str _) .nil))
  | chg c d => exact .tup h (.cons (.str _) (.cons (.str _) (.cons (.str _) .nil)))
  | out c => exact .tup h (.cons (.str _) (.cons (.str _) .nil))
  | put d => exact .tup h (.cons (.str _) (.cons (.str _) .nil))
theorem dp_sts {K : PySem.W.Frag} {H : Hp} : ∀ (S : ST), StAt K H S → DpAll K H (srefs S) ((S.map (·.2)).map stD)
  | [], _ => .nil
  | s :: r, h => .cons (dp_st1 (h s (List.mem_cons_self ..))) (dp_sts r fun x m => h x (List.mem_cons_of_mem _ m))
theorem dp_st {K : PySem.W.Frag} {H : Hp} {a : Addr} {S : ST} (h : SqL K H a (srefs S)) (hs : StAt K H S) : Dp K H (.ref a) (dSt (S.map (·.2))) := .lst h (dp_sts S hs)
theorem okc_strOk {c : Nat} (h : okc c = true) : PyData.strOk (s1 c) = true := let_ok (let_one h)
theorem stD_ok {s : Stp} (h : stOk s) : (stD s).canLay0 = true ∧ (stD s).depth ≤ 59 := by
  have a1 : PyData.strOk ("keep" : Str) = true := by decide +kernel
  have a2 : PyData.strOk ("change" : Str) = true := by decide +kernel
  have a3 : PyData.strOk ("out" : Str) = true := by decide +kernel
  have a4 : PyData.strOk ("put" : Str) = true := by decide +kernel
  cases s with
  | keep c =>
    have b := okc_strOk (show okc c = true from h)
    exact ⟨by simp [stD, PyData.canLay0, PyData.canLayAll0, a1, b], by show max 0 (max 0 0) + 1 ≤ 59; decide⟩
  | chg c d =>
    have h : okc c = true ∧ okc d = true := h
    have b := okc_strOk h.1
    have b2 := okc_strOk h.2
    exact ⟨by simp [stD, PyData.canLay0, PyData.canLayAll0, a2, b, b2], by show max 0 (max 0 (max 0 0)) + 1 ≤ 59; decide⟩
  | out c =>
    have b := okc_strOk (show okc c = true from h)
    exact ⟨by simp [stD, PyData.canLay0, PyData.canLayAll0, a3, b], by show max 0 (max 0 0) + 1 ≤ 59; decide⟩
  | put c =>
    have b := okc_strOk (show okc c = true from h)
    exact ⟨by simp [stD, PyData.canLay0, PyData.canLayAll0, a4, b], by show max 0 (max 0 0) + 1 ≤ 59; decide⟩
theorem okd_St {l : List Stp} (h : ∀ s ∈ l, stOk s) : Okd (dSt l) := okd_list (fun d m => by
  obtain ⟨s, hs, rfl⟩ := List.mem_map.mp m
  exact (stD_ok (h s hs)).1) fun d m => by
  obtain ⟨s, hs, rfl⟩ := List.mem_map.mp m
  exact (stD_ok (h s hs)).2
theorem StAt.snoc {K : PySem.W.Frag} {H : Hp} {S : ST} {t : Addr} {s : Stp} (h : StAt K H S) (hz : H t = some (.tup (stV s))) : StAt K H (S ++ [(t, s)]) := fun y hy => by
  rcases List.mem_append.mp hy with m | m
  · exact h y m
  · rw [List.mem_singleton.mp m]; exact .inl (.inl hz)
end SH
namespace SH
open PySem PySem.Spec PyProof.Rows L2
def isPut : Stp → Bool
  | .put _ => true
  | _ => false
def isOut : Stp → Bool
  | .out _ => true
  | _ => false
/-- the steps behind the first one -/
theorem tst_step : ∀ {x y : List Nat} {s : Stp} {r : List Stp}, tst x y = s :: r → r = tst (if isPut s then x else x.tail) (if isOut s then y else y.tail) ∧ (isPut s = false → x ≠ []) ∧ (isOut s = false → y ≠ [])
  | [], [], s, r, h => by rw [tst_nn] at h; cases h
  | [], b :: y, s, r, h => by
    rw [tst_np] at h
    cases h
    exact ⟨rfl, (fun z => by cases z), fun _ => by simp⟩
  | a :: x, [], s, r, h => by
    rw [tst_on] at h
    cases h
    exact ⟨rfl, (fun _ => by simp), fun z => by cases z⟩
  | a :: x, b :: y, s, r, h => by
    rw [tst_cc] at h
    split at h
    · cases h
      exact ⟨rfl, (fun _ => by simp), fun _ => by simp⟩
    · split at h
      · cases h
        exact ⟨rfl, (fun _ => by simp), fun _ => by simp⟩
      · split at h
        · cases h
          exact ⟨rfl, (fun _ => by simp), fun _ => by simp⟩
        · cases h
          exact ⟨rfl, (fun _ => by simp), fun _ => by simp⟩
theorem tst_more {x y : List Nat} (h : x ≠ [] ∨ y ≠ []) : ∃ s r, tst x y = s :: r := by
  cases x with
  | nil =>
    cases y with
    | nil => rcases h with h | h <;> exact absurd rfl h
    | cons b y => exact ⟨_, _, tst_np b y⟩
  | cons a x =>
    cases y with
    | nil => exact ⟨_, _, tst_on a x⟩
    | cons b y =>
      rw [tst_cc]
      split
      · exact ⟨_, _, rfl⟩
      · split
        · exact ⟨_, _, rfl⟩
        · split <;> exact ⟨_, _, rfl⟩
theorem TabAt.cell {H : Hp} {t : Addr} {rs : List Addr} {x y : List Nat} (h : TabAt H t rs (tabE x y)) {i j : Nat} (hi : i ≤ x.length) (hj : j ≤ y.length) :
    ∃ r, atI (rs.map V.ref) (i : Int) = some (.ref r) ∧ H r = some (.lst ((rowE (x.drop i) y).map V.int)) ∧ atI ((rowE (x.drop i) y).map V.int) (j : Int) = some (.int (ed (x.drop i) (y.drop j) : Nat)) := by
  have l := h.len
  rw [tabE_len] at l
  have e : rs[i]? = some (rs[i]'(by omega)) := List.getElem?_eq_getElem (by omega)
  refine ⟨_, atI_nat (by rw [List.getElem?_map, e]; rfl), h.row i _ _ e (tabE_at hi), atI_nat ?_⟩
  rw [List.getElem?_map, rowE_at hj]
  rfl
def tag : Stp → Str
  | .keep _ => "keep"
  | .chg _ _ => "change"
  | .out _ => "out"
  | .put _ => "put"
theorem tag_at (s : Stp) : atI (stV s) 0 = some (.str (tag s)) := by cases s <;> rfl
theorem tag_put : ∀ s : Stp, (!decide (V.str (tag s) = V.str "put")) = !isPut s
  | .keep _ => (by decide +kernel : (!decide (V.str ("keep" : Str) = V.str ("put" : Str))) = true)
  | .chg _ _ => (by decide +kernel : (!decide (V.str ("change" : Str) = V.str ("put" : Str))) = true)
  | .out _ => (by decide +kernel : (!decide (V.str ("out" : Str) = V.str ("put" : Str))) = true)
  | .put _ => (by decide +kernel : (!decide (V.str ("put" : Str) = V.str ("put" : Str))) = false)
theorem tag_out : ∀ s : Stp, (!decide (V.str (tag s) = V.str "out")) = !isOut s
  | .keep _ => (by decide +kernel : (!decide (V.str ("keep" : Str) = V.str ("out" : Str))) = true)
  | .chg _ _ => (by decide +kernel : (!decide (V.str ("change" : Str) = V.str ("out" : Str))) = true)
  | .out _ => (by decide +kernel : (!decide (V.str ("out" : Str) = V.str ("out" : Str))) = false)
  | .put _ => (by decide +kernel : (!decide (V.str ("put" : Str) = V.str ("out" : Str))) = true)
theorem tag_keep : ∀ s : Stp, (!decide (V.str (tag s) = V.str "keep")) = !isKeep s
  | .keep _ => (by decide +kernel : (!decide (V.str ("keep" : Str) = V.str ("keep" : Str))) = false)
  | .chg _ _ => (by decide +kernel : (!decide (V.str ("change" : Str) = V.str ("keep" : Str))) = true)
  | .out _ => (by decide +kernel : (!decide (V.str ("out" : Str) = V.str ("keep" : Str))) = true)
  | .put _ => (by decide +kernel : (!decide (V.str ("put" : Str) = V.str ("keep" : Str))) = true)
/-- the steps told: a new list of new pairs -/
def spSteps (K : PySem.W.Frag) : Sp := fun vs H Q _ => ∃ a b : Str, vs = [.str a, .str b] ∧ a.length ≤ 200 ∧ b.length ≤ 200 ∧ ∀ (l : Addr) (S : ST) (H' : Hp), Same H H' → H l = none → H' l = some (.lst (srefs S)) → StAt K H' S → S.map (·.2) = tst (TL.tl a) (TL.tl b) → Q (.ref l) H'
end SH
namespace SH
open PySem PySem.Spec PyProof.Rows L2
/-- a step fits the next letter, told as a text -/
def fitB : Stp → Str → Bool
  | .keep c, z => decide (s1 c = z)
  | .chg c d, z => decide (s1 c = z) && decide (c ≠ d)
  | .out c, z => decide (s1 c = z)
  | .put _, _ => true
theorem fitB_chg (c d : Nat) (z : Str) : fitB (.chg c d) z = (decide (s1 c = z) && decide (c ≠ d)) := rfl
def fst1 : Stp → Nat
  | .keep c => c
  | .chg c _ => c
  | .out c => c
  | .put d => d
def lst1 : Stp → Nat
  | .keep c => c
  | .chg _ d => d
  | .out c => c
  | .put d => d
theorem fst_at (s : Stp) : atI (stV s) 1 = some (.str (s1 (fst1 s))) := by cases s <;> rfl
theorem lst_at (s : Stp) : atI (stV s) (-1) = some (.str (s1 (lst1 s))) := by cases s <;> rfl
theorem s1_inj {c d : Nat} (h : s1 c = s1 d) : c = d := by
  have h := Str.mk.inj h
  simpa using h
theorem s1_ne (c : Nat) : s1 c ≠ "" := fun h => by
  have := congrArg (fun z : Str => z.length) h
  cases this
/-- one step of an alignment -/
theorem ali_step (x : List Nat) (s : Stp) (r : List Stp) (k : Nat) : ali x (s :: r) k =
    if isPut s then (ali x r (k + 1)).map (lst1 s :: ·)
    else if fitB s (⟨(x.take 1).toArray⟩ : Str) then (if isOut s then ali x.tail r (k + 1) else (ali x.tail r (k + 1)).map (lst1 s :: ·)) else .error k := by
  cases s with
  | put d => cases x <;> rfl
  | keep c =>
    cases x with
    | nil =>
      have : fitB (.keep c) (⟨(([] : List Nat).take 1).toArray⟩ : Str) = false := decide_eq_false (s1_ne c)
      show Except.error k = _
      rw [this]
      rfl
    | cons a x =>
      have : fitB (.keep c) (⟨((a :: x).take 1).toArray⟩ : Str) = decide (a = c) := decide_eq_decide.mpr ⟨fun h => (s1_inj h).symm, fun h => by rw [h]; rfl⟩
      show (if a = c then _ else _) = _
      rw [this]
      by_cases h : a = c
      · rw [if_pos h, decide_eq_true h]; rfl
      · rw [if_neg h, decide_eq_false h]; rfl
  | chg c d =>
    cases x with
    | nil =>
      have : fitB (.chg c d) (⟨(([] : List Nat).take 1).toArray⟩ : Str) = false := by
        rw [fitB_chg]
        have : ¬ s1 c = (⟨(([] : List Nat).take 1).toArray⟩ : Str) := s1_ne c
        rw [decide_eq_false this]
        rfl
      show Except.error k = _
      rw [this]
      rfl
    | cons a x =>
      have : fitB (.chg c d) (⟨((a :: x).take 1).toArray⟩ : Str) = decide (a = c ∧ c ≠ d) := by
        rw [fitB_chg]
        show (decide (s1 c = s1 a) && decide (c ≠ d)) = _
        by_cases h : a = c
        · rw [h, decide_eq_true rfl, Bool.true_and]
          exact decide_eq_decide.mpr ⟨fun z => ⟨rfl, z⟩, fun z => z.2⟩
        · rw [decide_eq_false (fun z => h (s1_inj z).symm)]
          exact (decide_eq_false fun z : a = c ∧ c ≠ d => h z.1).symm
      show (if a = c ∧ c ≠ d then _ else _) = _
      rw [this]
      by_cases h : a = c ∧ c ≠ d
      · rw [if_pos h, decide_eq_true h]; rfl
      · rw [if_neg h, decide_eq_false h]; rfl
  | out c =>
    cases x with
    | nil =>
      have : fitB (.out c) (⟨(([] : List Nat).take 1).toArray⟩ : Str) = false := decide_eq_false (s1_ne c)
      show Except.error k = _
      rw [this]
      rfl
    | cons a x =>
      have : fitB (.out c) (⟨((a :: x).take 1).toArray⟩ : Str) = decide (a = c) := decide_eq_decide.mpr ⟨fun h => (s1_inj h).symm, fun h => by rw [h]; rfl⟩
      show (if a = c then _ else _) = _
      rw [this]
      by_cases h : a = c
      · rw [if_pos h, decide_eq_true h]; rfl
      · rw [if_neg h, decide_eq_false h]; rfl
theorem fit_ne {s : Stp} {x : List Nat} (hp : isPut s = false) (h : fitB s (⟨(x.take 1).toArray⟩ : Str) = true) : x ≠ [] := fun z => by
  subst z
  cases s with
  | put d => cases hp
  | keep c => exact s1_ne c (of_decide_eq_true h)
  | chg c d =>
    rw [fitB_chg] at h
    exact s1_ne c (of_decide_eq_true (Bool.and_eq_true_iff.mp h).1)
  | out c => exact s1_ne c (of_decide_eq_true h)
theorem map_map_ex (e : Except Nat (List Nat)) (u v : List Nat) : (e.map (v ++ ·)).map (u ++ ·) = e.map ((u ++ v) ++ ·) := by
  cases e with
  | error k => rfl
  | ok w => show Except.ok (u ++ (v ++ w)) = Except.ok (u ++ v ++ w); rw [List.append_assoc]
end SH
namespace SH
open PySem PySem.Spec PyProof.Rows L2
def isChg : Stp → Bool
  | .chg _ _ => true
  | _ => false
theorem tag_chg : ∀ s : Stp, decide (V.str (tag s) = V.str "change") = isChg s
  | .keep _ => (by decide +kernel : decide (V.str ("keep" : Str) = V.str ("change" : Str)) = false)
  | .chg _ _ => (by decide +kernel : decide (V.str ("change" : Str) = V.str ("change" : Str)) = true)
  | .out _ => (by decide +kernel : decide (V.str ("out" : Str) = V.str ("change" : Str)) = false)
  | .put _ => (by decide +kernel : decide (V.str ("put" : Str) = V.str ("change" : Str)) = false)
theorem fit_nil {s : Stp} (hp : isPut s = false) : fitB s (⟨(([] : List Nat).take 1).toArray⟩ : Str) = false := by
  cases h : fitB s (⟨(([] : List Nat).take 1).toArray⟩ : Str) with
  | false => rfl
  | true => exact absurd rfl (fit_ne (x := []) hp h)
theorem fit_cons {s : Stp} {c : Nat} {x : List Nat} (hp : isPut s = false) : fitB s (⟨((c :: x).take 1).toArray⟩ : Str) = (decide (c = fst1 s) && !(isChg s && decide (fst1 s = lst1 s))) := by
  have e : ∀ d : Nat, decide (s1 d = s1 c) = decide (c = d) := fun d => decide_eq_decide.mpr ⟨fun h => (s1_inj h).symm, fun h => by rw [h]⟩
  cases s with
  | put d => cases hp
  | keep d =>
    show decide (s1 d = s1 c) = _
    rw [e]
    show _ = (decide (c = d) && true)
    rw [Bool.and_true]
  | out d =>
    show decide (s1 d = s1 c) = _
    rw [e]
    show _ = (decide (c = d) && true)
    rw [Bool.and_true]
  | chg d d2 =>
    rw [fitB_chg]
    show (decide (s1 d = s1 c) && decide (d ≠ d2)) = (decide (c = d) && !(true && decide (d = d2)))
    rw [e, Bool.true_and]
    congr 1
    by_cases h : d = d2
    · simp [h]
    · simp [h]
theorem chg_at {s : Stp} (h : isChg s = true) : atI (stV s) 2 = some (.str (s1 (lst1 s))) := by
  cases s <;> first | rfl | cases h
theorem map_ok {e : Except Nat (List Nat)} {u w : List Nat} (h : e.map (u ++ ·) = .ok w) : ∃ v, e = .ok v ∧ w = u ++ v := by
  cases e with
  | error k => cases h
  | ok v => exact ⟨v, rfl, (Except.ok.inj h).symm⟩
theorem stOk_lst {s : Stp} (h : stOk s) : okc (lst1 s) = true := by
  cases s with
  | keep c => exact h
  | chg c d => exact h.2
  | out c => exact h
  | put d => exact h
theorem ali_okc : ∀ {S : List Stp} {x w : List Nat} {k : Nat}, (∀ s ∈ S, stOk s) → ali x S k = .ok w → ∀ c ∈ w, okc c = true
  | [], x, w, k, _, h => by
    cases x with
    | nil => cases h; exact fun _ m => nomatch m
    | cons a x => cases h
  | s :: r, x, w, k, hs, h => by
    have hr : ∀ s ∈ r, stOk s := fun y m => hs y (List.mem_cons_of_mem _ m)
    have hl := stOk_lst (hs s (List.mem_cons_self ..))
    have cons : ∀ {x' : List Nat}, (ali x' r (k + 1)).map (lst1 s :: ·) = .ok w → ∀ c ∈ w, okc c = true := fun {x'} h => by
      obtain ⟨v, e, rfl⟩ := map_ok (u := [lst1 s]) h
      intro c m
      rcases List.mem_append.mp m with m | m
      · rw [List.mem_singleton.mp m]; exact hl
      · exact ali_okc hr e c m
    rw [ali_step] at h
    split at h
    · exact cons h
    · split at h
      · split at h
        · exact ali_okc hr h
        · exact cons h
      · cases h
/-- what is told of an alignment -/
def dueA (x : List Nat) (S : List Stp) : Str × PyData :=
  match ali x S 0 with
  | .ok w => ("word", .str ⟨w.toArray⟩)
  | .error k => ("bad", .int (k : Nat))
theorem dueA_ok {x : List Nat} {S : List Stp} {w : List Nat} (h : ali x S 0 = .ok w) : dueA x S = (("word" : Str), .str ⟨w.toArray⟩) := by unfold dueA; rw [h]
theorem dueA_err {x : List Nat} {S : List Stp} {k : Nat} (h : ali x S 0 = .error k) : dueA x S = (("bad" : Str), .int (k : Nat)) := by unfold dueA; rw [h]
end SH
set_option Elab.async false
set_option linter.all false
set_option maxRecDepth 100000
set_option maxHeartbeats 4000000
/-! xs[i] += e -/
namespace SH
open PySem PySem.Spec PyProof.Rows L2
theorem pget_list {X : Cx} : PGet X (rIxL X.K) := by
  intro pins s σ H x y v u Q I rx ry h
  obtain ⟨p, xs, i, z, rfl, rfl, hq, he, q⟩ := h
  cases rx
  obtain ⟨t, rfl⟩ := ry
  obtain ⟨its, r, pl, hz⟩ := I.list hq
  obtain ⟨j, h1, h2, h3, h4, h5⟩ := atI_get he
  obtain ⟨w, ew, rw'⟩ := r.get h2
  have hl := r.length
  have hn := line63
  have fin : EP X pins σ Q w s := ⟨z, H, I, rw', q⟩
  by_cases h0 : 0 ≤ i
  · have hj : i.toNat = j := by
      rw [seqIndex_of h0 h5] at h1
      exact Option.some.inj h1
    exact wpAny_getItem_list pl.isList h0 (by omega) (by rw [hj]; simpa using ew) fin
  · have hj : (i + (its.toArray.size : Int)).toNat = j := by
      rw [seqIndex_neg (by omega) h4] at h1
      rw [List.size_toArray, ← hl]
      exact Option.some.inj h1
    exact wpAny_getItem_list_neg pl.isList (by omega) (by rw [List.size_toArray] <;> omega) (by omega) (by rw [hj]; simpa using ew) fin
theorem pgetK {X : Cx} {K : PySem.W.Frag} (h : X.K = K := by rfl) : PGet X (rIxL K) := h ▸ pget_list
theorem call_len_seqK {X : Cx} {K : PySem.W.Frag} (h : X.K = K := by rfl) : CallR X (.builtin "len") (fun xs H Q => ∃ p ys, xs = [.ref p] ∧ (SqL K H p ys ∨ SqT K H p ys) ∧ Q (.int ys.length) H) := h ▸ call_len_seq
theorem call_list_ofK {X : Cx} {K : PySem.W.Frag} (h : X.K = K := by rfl) : CallR X (.type "list") (fun xs H Q => ∃ p ys, xs = [.ref p] ∧ (SqL K H p ys ∨ SqT K H p ys) ∧ ∀ l, H l = none → Q (.ref l) (upd H l (.lst ys))) := h ▸ call_list_of
theorem op_notIn_seqK {X : Cx} {K : PySem.W.Frag} (h : X.K = K := by rfl) : OpR X (compareOp .NotIn) (rIn K true) := h ▸ op_notIn_seq
end SH
set_option Elab.async false
set_option linter.all false
set_option maxRecDepth 100000
set_option maxHeartbeats 4000000
namespace SH
open PySem PySem.Spec PyProof.Rows L2
def topS (i : Nat) : Stmt := PySem.Challenge.pw_suffixhouse_k26_least_absent_words.main.body.getD i (.Pass ⟨0, 0, 0, 0⟩)
abbrev s_stretches : Stmt := topS 4
abbrev s_absent_words : Stmt := topS 6
abbrev s__consists_of : Stmt := topS 7
abbrev s__letters_behind : Stmt := topS 8
abbrev s__law_draws : Stmt := topS 10
abbrev s__law_at : Stmt := topS 11
abbrev s__law_text : Stmt := topS 13
abbrev s__law_house : Stmt := topS 14
abbrev s__law_words : Stmt := topS 15
abbrev s__law_alphabet : Stmt := topS 17
abbrev s__law_due : Stmt := topS 18
abbrev s__law_refused : Stmt := topS 19
abbrev s_law : Stmt := topS 20
structure Ea where
  fI : Addr
  c_HouseError : Addr
  c_OutOfRange : Addr
abbrev s_init : Stmt := inClass (topS 1) 0
structure Txt (K : PySem.W.Frag) (mg : Str → Option Value) (ea : Ea) : Prop where
  b_abs : mg "abs" = none
  b_all : mg "all" = none
  b_bool : mg "bool" = none
  b_int : mg "int" = none
  b_isinstance : mg "isinstance" = none
  b_len : mg "len" = none
  b_list : mg "list" = none
  b_min : mg "min" = none
  b_range : mg "range" = none
  b_set : mg "set" = none
  b_sorted : mg "sorted" = none
  d_stretches : Dd K mg "stretches" s_stretches ["house"]
  d_absent_words : Dd K mg "absent_words" s_absent_words ["house", "alphabet"]
  d__consists_of : Dd K mg "_consists_of" s__consists_of ["word", "alphabet"]
  d__letters_behind : Dd K mg "_letters_behind" s__letters_behind ["words"]
  d__law_draws : Dd K mg "_law_draws" s__law_draws ["script"]
  d__law_at : Dd K mg "_law_at" s__law_at ["draws", "k", "many"]
  d__law_text : Dd K mg "_law_text" s__law_text ["draws", "first", "most"]
  d__law_house : Dd K mg "_law_house" s__law_house ["draws", "first"]
  d__law_words : Dd K mg "_law_words" s__law_words ["house"]
  d__law_alphabet : Dd K mg "_law_alphabet" s__law_alphabet ["draws", "k"]
  d__law_due : Dd K mg "_law_due" s__law_due ["found", "alphabet"]
  d__law_refused : Dd K mg "_law_refused" s__law_refused ["house", "alphabet"]
  d_law : Dd K mg "law" s_law ["script"]
  init : DdI K "HouseError.__init__" s_init ea.fI
  x_HouseError : ErrC K mg "HouseError" ea.c_HouseError ea.fI
  x_OutOfRange : ErrC K mg "OutOfRange" ea.c_OutOfRange ea.fI
  e_OutOfRange_OutOfRange : PySem.W.exmOne K (.ref ea.c_OutOfRange) (.ref ea.c_OutOfRange) = some true
section
variable {P : Program} {w : World} {K : PySem.W.Frag} {mg : Str → Option Value} {base : Heap} {ea : Ea}
/-- the numbers drawn from the script: a new list of small numbers -/
def spDraws (K : PySem.W.Frag) : Sp := fun vs H Q _ => ∃ (a : Addr) (ns : List Int), vs = [.ref a] ∧ SqL K H a (ns.map V.int) ∧ ns.length ≤ 63 ∧
  ∀ (p : Addr) (ds : List Int) (H' : Hp), Same H H' → H p = none → H' p = some (.lst (ds.map V.int)) → Dr ds → Q (.ref p) H'
/-- the list at p so far -/
structure DrAt (H H' : Hp) (p : Addr) (n : Nat) (ds : List Int) : Prop where
  sm : Same H H'
  at_ : H' p = some (.lst (ds.map V.int))
  len : ds.length ≤ n
  all : ∀ z ∈ ds, 0 ≤ z ∧ z < 65536
theorem DrAt.more {H H' : Hp} {p : Addr} {n : Nat} {ds : List Int} (h : DrAt H H' p n ds) (hp : H p = none) {z : Int} (z0 : 0 ≤ z) (z1 : z < 65536) : DrAt H (upd H' p (.lst (ds.map V.int ++ [.int z]))) p (n + 1) (ds ++ [z]) :=
  ⟨same_mut h.sm hp, by rw [upd_same, List.map_append]; rfl, by rw [List.length_append]; have := h.len; simp; omega, fun y hy => by
    rcases List.mem_append.mp hy with m | m
    · exact h.all y m
    · rw [List.mem_singleton.mp m]; exact ⟨z0, z1⟩⟩
theorem DrAt.mono {H H' : Hp} {p : Addr} {n m : Nat} {ds : List Int} (h : DrAt H H' p n ds) (l : n ≤ m) : DrAt H H' p m ds := ⟨h.sm, h.at_, Nat.le_trans h.len l, h.all⟩
theorem sc__law_draws : FnScope ["script", "draws", "k", "rest", "turn", "mixed"] ["script"] (defScope s__law_draws) := ⟨rfl, rfl, rfl, by decide +kernel, rfl, by decide +kernel, by decide +kernel⟩
theorem ok__law_draws (T : Txt K mg ea) : Cl P w K mg base 1 "_law_draws" (spDraws K) := by
  have nd := sc__law_draws.nd
  refine cl_of T.d__law_draws sc__law_draws (fun vs H Q E h => ?_) (fun f cdv A outer s H vs Q E hr h => ?_)
  · obtain ⟨a, ns, rfl, _⟩ := h
    rfl
  · obtain ⟨a, ns, rfl, hS, hl, q⟩ := h
    refine ⟨_, (pss_cons (ps_set (i := 1) nd rfl (.inl rfl) (pe_lst pa_nil))
      (pss_cons (ps_for PassesOwn.never rfl (pi_range1 rfl T.b_range (pa_cons (pe_callB (call_min2 rfl) (by rfl) T.b_min (by decide +kernel) (pa_cons pe_int (pa_cons (pe_callB call_len_seq (by rfl) T.b_len PySem.boot_len (pa_cons (pv 0) pa_nil)) pa_nil))) pa_nil)) (pg_name (i := 2) nd rfl (.inl rfl))
        (pss_cons (ps_set (i := 3) nd rfl (.inl rfl) (pe_callB call_abs (by rfl) T.b_abs (by decide +kernel) (pa_cons (pe_ix (ixl (K := K)) (pv 0) (pv 2) (fun _ _ => rfl)) pa_nil)))
          (pss_one (ps_if (pt_cmpR op_ge (pv 3) (pe_op op_pow pe_int pe_int) (nomark _))
            (pss_one (ps_for PassesOwn.never rfl (pi_range1 rfl T.b_range (pa_cons pe_int pa_nil)) (pg_name (i := 4) nd rfl (.inl rfl))
                (pss_one (ps_if (pt_cmpR op_gt (pv 3) pe_int (nomark _))
                    (pss_cons (ps_expr (pe_bm PySem.F.plainAttrs_list PySem.F.slot_list_append PySem.F.type_list_append mt_append (pv 1) (pa_cons (pe_op op_mod (pe_callTy call_int1 (by rfl) T.b_int (by decide +kernel) (pa_cons (pv 3) pa_nil)) pe_int) pa_nil)))
                      (pss_one (ps_set (i := 3) nd rfl (.inl rfl) (pe_op op_fdiv (pv 3) pe_int))))
                    pss_nil))))
            (pss_cons (ps_set (i := 5) nd rfl (.inl rfl) (pe_op op_mod (pe_callTy call_int1 (by rfl) T.b_int (by decide +kernel) (pa_cons (pe_op op_add (pe_op op_mul (pv 3) pe_int) (pe_op op_mul (pe_op op_add (pv 2) pe_int) pe_int)) pa_nil)) pe_int))
              (pss_cons (ps_set (i := 5) nd rfl (.inl rfl) (pe_op op_mod (pe_callTy call_int1 (by rfl) T.b_int (by decide +kernel) (pa_cons (pe_op op_add (pe_op op_add (pe_op op_mul (pv 5) pe_int) (pe_op op_mul pe_int (pv 2))) pe_int) pa_nil)) pe_int))
              (pss_cons (ps_expr (pe_bm PySem.F.plainAttrs_list PySem.F.slot_list_append PySem.F.type_list_append mt_append (pv 1) (pa_cons (pe_op op_mod (pe_callTy call_int1 (by rfl) T.b_int (by decide +kernel) (pa_cons (pv 5) pa_nil)) pe_int) pa_nil)))
              (pss_one (ps_expr (pe_bm PySem.F.plainAttrs_list PySem.F.slot_list_append PySem.F.type_list_append mt_append (pv 1) (pa_cons (pe_op op_mod (pe_callTy call_int1 (by rfl) T.b_int (by decide +kernel) (pa_cons (pe_op op_fdiv (pv 5) pe_int) pa_nil)) pe_int) pa_nil)))))))))))
      (pss_one (ps_ret (pv 1))))), ?_⟩
    refine ⟨Nat.zero_le _, fun p hp => ?_⟩
    have sm0 : Same H (upd H p (.lst [])) := same_new hp
    have hlen : (ns.map V.int).length = ns.length := List.length_map ..
    refine ⟨_, rfl, _, _, rfl, .inl (sm0.seq hS), _, _, rfl, ?_⟩
    have hm : (if ((ns.map V.int).length : Int) < 63 then ((ns.map V.int).length : Int) else 63) ≤ ns.length ∧ 0 ≤ (if ((ns.map V.int).length : Int) < 63 then ((ns.map V.int).length : Int) else 63) ∧ (if ((ns.map V.int).length : Int) < 63 then ((ns.map V.int).length : Int) else 63) ≤ 63 := by
      rw [hlen]; split <;> omega
    refine ⟨_, rfl, by omega, by omega, ?_⟩
    generalize (if ((ns.map V.int).length : Int) < 63 then ((ns.map V.int).length : Int) else 63) = m at hm ⊢
    obtain ⟨m1, m0, m2⟩ := hm
    refine for_range (lo := 0) (n := m.toNat) (fun i σ H' => ∃ (ds : List Int) (y2 y3 y4 y5 : Option V), σ = [some (.ref a), some (.ref p), y2, y3, y4, y5] ∧ DrAt H H' p (60 * i) ds)
      ⟨[], none, none, none, none, rfl, sm0, upd_same, Nat.zero_le _, fun z hz => by cases hz⟩ (fun i σ H' hi hW => ?_) (fun σ H' hW => ?_)
    · obtain ⟨ds, y2, y3, y4, y5, rfl, hA⟩ := hW
      obtain ⟨z, hz, _⟩ := at_ints (ns := ns) (i := 0 + (i : Int)) (by omega) (by omega)
      refine ⟨_, rfl, _, rfl, _, _, _, _, rfl, rfl, hA.sm.seq hS, hz, _, rfl, ?_⟩
      generalize (if z < 0 then -z else z) = r
      refine ⟨_, rfl, _, _, rfl, rfl, ⟨by decide, by decide, by decide⟩, _, _, rfl, rfl, _, rfl, ite2 (fun e => ?_) (fun e => ?_)⟩
      · -- a great number: its digits
        refine ⟨60, rfl, by decide, by decide, ?_⟩
        refine for_range (lo := 0) (n := 60) (fun j σ H' => ∃ (ds : List Int) (r' : Int) (y4 : Option V), σ = [some (.ref a), some (.ref p), some (.int (0 + (i : Int))), some (.int r'), y4, y5] ∧ DrAt H H' p (60 * i + j) ds)
          ⟨ds, r, y4, rfl, hA⟩ (fun j σ H2 hj hW => ?_) (fun σ H2 hW => ?_)
        · obtain ⟨ds2, r2, y42, rfl, hA2⟩ := hW
          refine ⟨_, rfl, _, _, rfl, rfl, _, rfl, ite2 (fun e => ?_) (fun e => ?_)⟩
          · refine ⟨_, rfl, .inl ⟨rfl, _, SqL.of hA2.at_⟩, _, rfl, .inl ⟨_, rfl, _, _, rfl, rfl, (by show (0 : Int) < 65536; decide), ?_⟩⟩
            refine ⟨p, _, _, rfl, rfl, hA2.at_, ?_, ?_⟩
            · rw [List.length_map]; exact Nat.lt_of_le_of_lt (Nat.le_trans hA2.len (by omega : _ ≤ 4000)) (by decide)
            · refine ⟨_, rfl, _, _, rfl, rfl, (by constructor <;> decide), ?_⟩
              exact ⟨_, _, _, rfl, hA2.more hp (Int.emod_nonneg _ (by decide)) (Int.emod_lt_of_pos _ (by decide))⟩
          · exact ⟨ds2, r2, _, rfl, hA2.mono (by omega)⟩
        · obtain ⟨ds2, r2, y42, rfl, hA2⟩ := hW
          exact ⟨ds2, _, _, _, _, rfl, hA2.mono (by omega)⟩
      · -- a lesser one: two numbers mixed
        refine ⟨_, rfl, _, _, rfl, rfl, .inr (by decide), _, rfl, _, _, rfl, rfl, _, _, rfl, rfl, .inr (by decide), _, _, rfl, rfl, .inl ⟨_, rfl, _, _, rfl, rfl, (by show (0 : Int) < 2147483647; decide), ?_⟩⟩
        refine ⟨_, rfl, _, _, rfl, rfl, .inr (by decide), _, rfl, _, _, rfl, rfl, .inl (by decide), _, _, rfl, rfl, _, _, rfl, rfl, .inl ⟨_, rfl, _, _, rfl, rfl, (by show (0 : Int) < 2147483629; decide), ?_⟩⟩
        have b1 : (ds.map V.int).length < sizeLine := by rw [List.length_map]; exact Nat.lt_of_le_of_lt (Nat.le_trans hA.len (by omega : _ ≤ 4000)) (by decide)
        refine ⟨_, rfl, .inl ⟨rfl, _, SqL.of hA.at_⟩, _, rfl, .inl ⟨_, rfl, _, _, rfl, rfl, (by show (0 : Int) < 65536; decide), p, _, _, rfl, rfl, hA.at_, b1, ?_⟩⟩
        have hB := hA.more hp (z := (((r * 48271 + (0 + (i : Int) + 1) * 69621) % 2147483647 * 16807 + 11 * (0 + (i : Int)) + 5) % 2147483629) % 65536) (Int.emod_nonneg _ (by decide)) (Int.emod_lt_of_pos _ (by decide))
        have b2 : ((ds ++ [(((r * 48271 + (0 + (i : Int) + 1) * 69621) % 2147483647 * 16807 + 11 * (0 + (i : Int)) + 5) % 2147483629) % 65536]).map V.int).length < sizeLine := by rw [List.length_map]; exact Nat.lt_of_le_of_lt (Nat.le_trans hB.len (by omega : _ ≤ 4000)) (by decide)
        refine ⟨_, rfl, .inl ⟨rfl, _, SqL.of hB.at_⟩, _, rfl, _, _, rfl, rfl, (by constructor <;> decide), .inl ⟨_, rfl, _, _, rfl, rfl, (by show (0 : Int) < 32768; decide), p, _, _, rfl, rfl, hB.at_, b2, ?_⟩⟩
        exact ⟨_, _, _, _, _, rfl, (hB.more hp (z := (((r * 48271 + (0 + (i : Int) + 1) * 69621) % 2147483647 * 16807 + 11 * (0 + (i : Int)) + 5) % 2147483629) / 65536 % 32768) (Int.emod_nonneg _ (by decide)) (by have := Int.emod_lt_of_pos ((((r * 48271 + (0 + (i : Int) + 1) * 69621) % 2147483647 * 16807 + 11 * (0 + (i : Int)) + 5) % 2147483629) / 65536) (show (0 : Int) < 32768 by decide); omega)).mono (by omega)⟩
    · obtain ⟨ds, y2, y3, y4, y5, rfl, hA⟩ := hW
      exact ⟨_, rfl, q p ds H' hA.sm hp hA.at_ ⟨Nat.le_trans hA.len (by omega), hA.all⟩⟩
end

section
variable {P : Program} {w : World} {K : PySem.W.Frag} {mg : Str → Option Value} {base : Heap} {ea : Ea}
theorem sc__law_at : FnScope ["draws", "k", "many"] ["draws", "k", "many"] (defScope s__law_at) := ⟨rfl, rfl, rfl, by decide +kernel, rfl, by decide +kernel, by decide +kernel⟩
theorem ok__law_at (T : Txt K mg ea) : Cl P w K mg base 1 "_law_at" (spDraw K) := by
  have nd := sc__law_at.nd
  refine cl_of T.d__law_at sc__law_at (fun vs H Q E h => ?_) (fun f cdv A outer s H vs Q E hr h => ?_)
  · obtain ⟨a, ns, k, many, rfl, _⟩ := h
    rfl
  · obtain ⟨a, ns, k, many, rfl, hS, hD, h0, h1, hm, q⟩ := h
    refine ⟨_, (pss_cons (ps_if (pt_cmpR op_lt (pv 1) (pe_callB call_len_seq (by rfl) T.b_len PySem.boot_len (pa_cons (pv 0) pa_nil)) (nomark _))
        (pss_one (ps_ret (pe_op op_mod (pe_callTy call_int1 (by rfl) T.b_int (by decide +kernel) (pa_cons (pe_ix (ixl (K := K)) (pv 0) (pv 1) (fun _ _ => rfl)) pa_nil)) (pv 2))))
        pss_nil)
      (pss_one (ps_ret pe_int))), ?_⟩
    refine ⟨_, rfl, _, rfl, _, _, rfl, .inl hS, _, _, rfl, rfl, _, rfl, ite2 (fun e => ?_) (fun e => ?_)⟩
    · have e' := of_decide_eq_true e
      rw [List.length_map] at e'
      obtain ⟨z, hz, hm2⟩ := at_ints h0 e'
      refine ⟨_, rfl, _, rfl, _, _, _, _, rfl, rfl, hS, hz, .inl ⟨_, rfl, _, rfl, _, _, rfl, rfl, hm, ?_⟩⟩
      exact q _ (Int.emod_nonneg _ (by omega)) (Int.emod_lt_of_pos _ hm)
    · exact q 0 (by omega) hm
end

section
variable {P : Program} {w : World} {K : PySem.W.Frag} {mg : Str → Option Value} {base : Heap} {ea : Ea}
theorem sc_init : FnScope ["self", "at"] ["self", "at"] (defScope s_init) := ⟨rfl, rfl, rfl, by decide +kernel, rfl, by decide +kernel, by decide +kernel⟩
theorem ok_init (T : Txt K mg ea) : InitOk P w K mg base ea.fI := by
  obtain ⟨fd, F, b, t⟩ := T.init.ex
  refine ⟨fd, F.ok sc_init (fun vs H Q E h => ?_) (fun cdv A outer s H vs Q E hr h => ?_), b, t⟩
  · obtain ⟨a, C, n, rfl, _⟩ := h
    rfl
  · obtain ⟨a, C, n, rfl, To, Tn, hs, ha, q⟩ := h
    refine ⟨_, pss_cons (ps_ost (pv 0) (pv 1)) (pss_one (ps_if (pt_cmpR op_gt (pe_bits (pv 1)) pe_int (nomark _)) pss_never pss_nil)), ?_⟩
    refine ⟨_, rfl, _, rfl, a, C, rfl, To, Tn, .inl ⟨ha, fun dx n1 n2 => ?_⟩⟩
    refine ⟨_, rfl, n, rfl, _, _, rfl, rfl, _, rfl, ?_⟩
    rw [small_bits hs]
    exact iteF (q dx n1 n2)
end

end SH
set_option Elab.async false
set_option linter.all false
set_option maxRecDepth 100000
set_option maxHeartbeats 4000000
namespace SH
open PySem PySem.Spec PyProof.Rows L2
section
variable {P : Program} {w : World} {K : PySem.W.Frag} {mg : Str → Option Value} {base : Heap} {ea : Ea}
/-- a word drawn -/
def spWord3 (K : PySem.W.Frag) : Sp := fun vs H Q _ => ∃ (a : Addr) (ns : List Int) (k : Int) (most : Nat), vs = [.ref a, .int k, .int most] ∧ SqL K H a (ns.map V.int) ∧ Dr ns ∧ 0 ≤ k ∧ k < 50000 ∧ most ≤ 40 ∧
  ∀ (z : Str) (H' : Hp), Same H H' → IsLet z → z.length ≤ most → Q (.str z) H'
theorem sc__law_text : FnScope ["draws", "first", "most", "menu", "out", "k"] ["draws", "first", "most"] (defScope s__law_text) := ⟨rfl, rfl, rfl, by decide +kernel, rfl, by decide +kernel, by decide +kernel⟩
theorem ok__law_text (T : Txt K mg ea) (c__law_at : Cl P w K mg base 1 "_law_at" (spDraw K)) : Cl P w K mg base 2 "_law_text" (spWord3 K) := by
  have nd := sc__law_text.nd
  refine cl_of T.d__law_text sc__law_text (fun vs H Q E h => ?_) (fun f cdv A outer s H vs Q E hr h => ?_)
  · obtain ⟨a, ns, k, most, rfl, _⟩ := h
    rfl
  · obtain ⟨a, ns, k, most, rfl, hS, hD, h0, h1, hm, q⟩ := h
    refine ⟨_, (pss_cons (ps_set (i := 3) nd rfl (.inl rfl) (pe_ix (ixl (K := K)) (pe_lst (pa_cons pe_str (pa_cons pe_str (pa_cons pe_str (pa_cons pe_str pa_nil))))) (C8.pe_c c__law_at hr (by decide) (by rfl) (pa_cons (pv 0) (pa_cons (pe_op op_add (pv 1) pe_int) (pa_cons pe_int pa_nil)))) (fun _ _ => rfl)))
      (pss_cons (ps_set (i := 4) nd rfl (.inl rfl) pe_str)
      (pss_cons (ps_for PassesOwn.never rfl (pi_range1 rfl T.b_range (pa_cons (C8.pe_c c__law_at hr (by decide) (by rfl) (pa_cons (pv 0) (pa_cons (pv 1) (pa_cons (pe_op op_add (pv 2) pe_int) pa_nil)))) pa_nil)) (pg_name (i := 5) nd rfl (.inl rfl))
        (pss_one (ps_set (i := 4) nd rfl (.inl rfl) (pe_op op_add_str (pv 4) (pe_ix ix_str (pv 3) (pe_op op_mod (pe_callTy call_int1 (by rfl) T.b_int (by decide +kernel) (pa_cons (pe_op op_fdiv (C8.pe_c c__law_at hr (by decide) (by rfl) (pa_cons (pv 0) (pa_cons (pe_op op_add (pe_op op_add (pv 1) pe_int) (pe_op op_mod (pe_callTy call_int1 (by rfl) T.b_int (by decide +kernel) (pa_cons (pv 5) pa_nil)) pe_int)) (pa_cons pe_int pa_nil)))) (pe_op op_add pe_int (pe_op op_fdiv (pv 5) pe_int))) pa_nil)) (pe_callB call_len_str (by rfl) T.b_len PySem.boot_len (pa_cons (pv 3) pa_nil))) (fun _ _ => rfl))))))
      (pss_one (ps_ret (pv 4)))))), ?_⟩
    refine ⟨(by show 4 ≤ sizeLine; decide), fun l nl => ?_⟩
    have s1 : Same H (upd H l (.lst ([("ab" : Str), "abc", "a", "ab ~X"].map V.str))) := same_new nl
    repeat (first | refine ⟨_, rfl, ?_⟩ | refine ⟨rfl, ?_⟩ | refine ⟨_, _, rfl, rfl, ?_⟩ | refine ⟨_, _, _, rfl, rfl, ?_⟩)
    refine ⟨a, ns, _, 4, rfl, s1.seq hS, hD, by omega, by omega, by omega, fun word w0 w1 => ?_⟩
    obtain ⟨x, hx, hxm⟩ := at_map V.str (xs := [("ab" : Str), "abc", "a", "ab ~X"]) (i := word) w0 w1
    have hx1 : IsLet x ∧ 1 ≤ x.length ∧ x.length ≤ 5 := by
      simp only [List.mem_cons, List.not_mem_nil, or_false] at hxm
      rcases hxm with e | e | e | e <;> subst e <;> exact ⟨by decide, by decide, by decide⟩
    refine ⟨l, _, word, .str x, rfl, rfl, .inl (.inl upd_same), hx, ?_⟩
    repeat (first | refine ⟨_, rfl, ?_⟩ | refine ⟨rfl, ?_⟩ | refine ⟨_, _, rfl, rfl, ?_⟩ | refine ⟨_, _, _, rfl, rfl, ?_⟩)
    refine ⟨a, ns, k, (most : Int) + 1, rfl, s1.seq hS, hD, by omega, by omega, by omega, fun r r0 r1 => ?_⟩
    refine ⟨r, rfl, by omega, by omega, ?_⟩
    have s2 : Same H (upd H l (.lst [.str "ab", .str "abc", .str "a", .str "ab ~X"])) := s1
    generalize upd H l (.lst [.str "ab", .str "abc", .str "a", .str "ab ~X"]) = H1 at s2 ⊢
    refine for_range (lo := 0) (n := r.toNat) (fun i σ H' => H' = H1 ∧ ∃ (z : Str) (y5 : Option V), σ = [some (.ref a), some (.int k), some (.int most), some (.str x), some (.str z), y5] ∧ IsLet z ∧ z.length ≤ i)
      ⟨rfl, "", none, rfl, by decide, Nat.zero_le _⟩ (fun i σ H' hi hW => ?_) (fun σ H' hW => ?_)
    · obtain ⟨rfl, z, y5, rfl, zl, zn⟩ := hW
      repeat (first | refine ⟨_, rfl, ?_⟩ | refine ⟨rfl, ?_⟩ | refine ⟨_, _, rfl, rfl, ?_⟩ | refine ⟨_, _, _, rfl, rfl, ?_⟩)
      refine .inl ⟨_, rfl, _, _, rfl, rfl, (by show (0 : Int) < 9; decide), ?_⟩
      repeat (first | refine ⟨_, rfl, ?_⟩ | refine ⟨rfl, ?_⟩ | refine ⟨_, _, rfl, rfl, ?_⟩ | refine ⟨_, _, _, rfl, rfl, ?_⟩)
      refine ⟨a, ns, _, 60000, rfl, s2.seq hS, hD, by omega, by omega, by omega, fun g g0 g1 => ?_⟩
      repeat (first | refine ⟨_, rfl, ?_⟩ | refine ⟨rfl, ?_⟩ | refine ⟨_, _, rfl, rfl, ?_⟩ | refine ⟨_, _, _, rfl, rfl, ?_⟩)
      refine ⟨⟨by decide, by decide⟩, ?_⟩
      repeat (first | refine ⟨_, rfl, ?_⟩ | refine ⟨rfl, ?_⟩ | refine ⟨_, _, rfl, rfl, ?_⟩ | refine ⟨_, _, _, rfl, rfl, ?_⟩)
      refine ⟨by unfold CDiv; omega, .inl ⟨_, rfl, _, rfl, x, rfl, Nat.le_trans hx1.2.2 (by decide), _, _, rfl, rfl, (by show (0 : Int) < (x.length : Int); omega), ?_⟩⟩
      refine ixs_let hx1.1 (Nat.le_trans hx1.2.2 (by decide)) (Int.emod_nonneg _ (by omega)) (by show _ % (x.length : Int) < (x.length : Int); exact Int.emod_lt_of_pos _ (by omega)) fun c hc => ?_
      have e1 : (⟨#[c]⟩ : Str).length = 1 := rfl
      refine ⟨z, ⟨#[c]⟩, rfl, rfl, Nat.le_trans (by rw [e1]; omega : _ ≤ 1000) (by decide), rfl, z ++ ⟨#[c]⟩, _, rfl, let_app zl (let_one hc), ?_⟩
      rw [len_app, e1]
      omega
    · obtain ⟨rfl, z, y5, rfl, zl, zn⟩ := hW
      exact ⟨_, rfl, q z _ s2 zl (by omega)⟩
end

theorem hs_snoc {m : Nat} {h : List (Int × Str)} (a : IsHs m h) {n : Int} {z : Str} (lt : ∀ q ∈ h, q.1 < n) (n0 : 0 ≤ n) (n1 : n ≤ 99) (hz : IsLet z) (hl : z.length ≤ m) : IsHs m (h ++ [(n, z)]) := by
  refine ⟨?_, fun q hq => ?_, fun q hq => ?_⟩
  · rw [List.map_append, List.pairwise_append]
    refine ⟨a.asc, by simp, fun x hx y hy => ?_⟩
    obtain ⟨q, hq, rfl⟩ := List.mem_map.mp hx
    simp at hy
    subst hy
    exact lt q hq
  · rcases List.mem_append.mp hq with m1 | m1
    · exact a.num q m1
    · rw [List.mem_singleton.mp m1]; exact ⟨n0, n1⟩
  · rcases List.mem_append.mp hq with m1 | m1
    · exact a.txt q m1
    · rw [List.mem_singleton.mp m1]; exact ⟨hz, hl⟩

section
variable {P : Program} {w : World} {K : PySem.W.Frag} {mg : Str → Option Value} {base : Heap} {ea : Ea}
/-- a house drawn -/
def spHouse (K : PySem.W.Frag) : Sp := fun vs H Q _ => ∃ (a : Addr) (ns : List Int) (k : Int), vs = [.ref a, .int k] ∧ SqL K H a (ns.map V.int) ∧ Dr ns ∧ 0 ≤ k ∧ k < 10000 ∧
  ∀ (p : Addr) (L : PL) (H' : Hp), Same H H' → H p = none → H' p = some (.lst (refs L)) → PairsAt K H' L → L.length ≤ 4 → IsHs 14 (L.map (·.2)) → Q (.ref p) H'
/-- the house so far -/
structure HsSo (K : PySem.W.Frag) (H H' : Hp) (p : Addr) (i : Nat) (num : Int) (L : PL) : Prop where
  sm : Same H H'
  at_ : H' p = some (.lst (refs L))
  ps : PairsAt K H' L
  len : L.length = i
  hs : IsHs 14 (L.map (·.2))
  le : ∀ q ∈ L, q.2.1 ≤ num
  n0 : -1 ≤ num
  n1 : num ≤ 7 + 20 * (i : Int)
theorem HsSo.same {H H' H2 : Hp} {p : Addr} {i : Nat} {num : Int} {L : PL} (h : HsSo K H H' p i num L) (e : Same H' H2) : HsSo K H H2 p i num L :=
  ⟨h.sm.trans e, e _ _ h.at_, h.ps.same e, h.len, h.hs, h.le, h.n0, h.n1⟩
theorem pairs_put {H : Hp} {p : Addr} {L : PL} {l : List V} {o : HO} (h : H p = some (.lst l)) (a : PairsAt K H L) : PairsAt K (upd H p o) L := fun q hq => but_tup (l := l) h but_upd (a q hq)
theorem sc__law_house : FnScope ["draws", "first", "most", "house", "number", "k", "text"] ["draws", "first"] (defScope s__law_house) := ⟨rfl, rfl, rfl, by decide +kernel, rfl, by decide +kernel, by decide +kernel⟩
theorem ok__law_house (T : Txt K mg ea) (c__law_at : Cl P w K mg base 1 "_law_at" (spDraw K)) (c__law_text : Cl P w K mg base 2 "_law_text" (spWord3 K)) : Cl P w K mg base 3 "_law_house" (spHouse K) := by
  have nd := sc__law_house.nd
  refine cl_of T.d__law_house sc__law_house (fun vs H Q E h => ?_) (fun f cdv A outer s H vs Q E hr h => ?_)
  · obtain ⟨a, ns, k, rfl, _⟩ := h
    rfl
  · obtain ⟨a, ns, k, rfl, hS, hD, h0, h1, q⟩ := h
    refine ⟨_, (pss_cons (ps_set (i := 2) nd rfl (.inl rfl) (pe_ix (ixl (K := K)) (pe_lst (pa_cons pe_int (pa_cons pe_int (pa_cons pe_int (pa_cons pe_int pa_nil))))) (C8.pe_c c__law_at hr (by decide) (by rfl) (pa_cons (pv 0) (pa_cons (pv 1) (pa_cons pe_int pa_nil)))) (fun _ _ => rfl)))
      (pss_cons (ps_set (i := 3) nd rfl (.inl rfl) (pe_lst pa_nil))
      (pss_cons (ps_set (i := 4) nd rfl (.inl rfl) (pe_op op_sub (C8.pe_c c__law_at hr (by decide) (by rfl) (pa_cons (pv 0) (pa_cons (pe_op op_add (pv 1) pe_int) (pa_cons pe_int pa_nil)))) pe_int))
      (pss_cons (ps_for PassesOwn.never rfl (pi_range1 rfl T.b_range (pa_cons (C8.pe_c c__law_at hr (by decide) (by rfl) (pa_cons (pv 0) (pa_cons (pe_op op_add (pv 1) pe_int) (pa_cons pe_int pa_nil)))) pa_nil)) (pg_name (i := 5) nd rfl (.inl rfl))
        (pss_cons (ps_set (i := 4) nd rfl (.inl rfl) (pe_op op_add (pe_op op_add (pv 4) pe_int) (C8.pe_c c__law_at hr (by decide) (by rfl) (pa_cons (pv 0) (pa_cons (pe_op op_add (pe_op op_add (pv 1) pe_int) (pv 5)) (pa_cons pe_int pa_nil))))))
          (pss_cons (ps_set (i := 6) nd rfl (.inl rfl) (C8.pe_c c__law_text hr (by decide) (by rfl) (pa_cons (pv 0) (pa_cons (pe_op op_add (pe_op op_add (pv 1) pe_int) (pe_op op_mul pe_int (pv 5))) (pa_cons (pv 2) pa_nil)))))
          (C8.pss_cut (ps_if (PW.pt (pw_and (pt_cmpR (op_neDK (K := K) hr.units) (pv 3) (pe_lst pa_nil) (nomark _)) (pw_and1 (pt_cmpR op_eq (C8.pe_c c__law_at hr (by decide) (by rfl) (pa_cons (pv 0) (pa_cons (pe_op op_add (pe_op op_add (pv 1) pe_int) (pv 5)) (pa_cons pe_int pa_nil)))) pe_int (nomark _)))))
            (pss_one (ps_set (i := 6) nd rfl (.inl rfl) (pe_slice sl_str (pe_op op_add_str (pe_slice sl_str (pe_ix (ixt (K := K)) (pe_ix (ixl (K := K)) (pv 3) pe_int (fun _ _ => rfl)) pe_int (fun _ _ => rfl)) (po_some (C8.pe_c c__law_at hr (by decide) (by rfl) (pa_cons (pv 0) (pa_cons (pe_op op_add (pe_op op_add (pv 1) pe_int) (pv 5)) (pa_cons pe_int pa_nil))))) po_none) (pv 6)) po_none (po_some (pv 2)))))
            pss_nil)
          (pss_one (ps_expr (pe_bm PySem.F.plainAttrs_list PySem.F.slot_list_append PySem.F.type_list_append mt_append (pv 3) (pa_cons (pe_tup (pa_cons (pv 4) (pa_cons (pv 6) pa_nil))) pa_nil))))))))
      (pss_one (ps_ret (pv 3))))))), ?_⟩
    refine ⟨(by show 4 ≤ sizeLine; decide), fun l nl => ?_⟩
    have s1 : Same H (upd H l (.lst (([8, 8, 8, 14] : List Int).map V.int))) := same_new nl
    repeat (first | refine ⟨_, rfl, ?_⟩ | refine ⟨rfl, ?_⟩ | refine ⟨_, _, rfl, rfl, ?_⟩ | refine ⟨_, _, _, rfl, rfl, ?_⟩)
    refine ⟨a, ns, _, 4, rfl, s1.seq hS, hD, by omega, by omega, by omega, fun r r0 r1 => ?_⟩
    obtain ⟨m, hm, hmm⟩ := at_map V.int (xs := [8, 8, 8, 14]) (i := r) r0 (by show r < 4; exact r1)
    obtain ⟨most, rfl, hmost⟩ : ∃ n : Nat, m = n ∧ n ≤ 14 := by
      simp only [List.mem_cons, List.not_mem_nil, or_false] at hmm
      rcases hmm with e | e | e | e <;> rw [e] <;> first | exact ⟨8, rfl, by decide⟩ | exact ⟨14, rfl, by decide⟩
    refine ⟨l, _, _, _, rfl, rfl, .inl (.inl upd_same), hm, ?_⟩
    replace s1 : Same H (upd H l (.lst [.int 8, .int 8, .int 8, .int 14])) := s1
    generalize upd H l (.lst [.int 8, .int 8, .int 8, .int 14]) = H1 at s1 ⊢
    refine ⟨Nat.zero_le _, fun p hp => ?_⟩
    have s2 := s1.trans (same_new (o := .lst []) hp)
    have hp0 := s1.free hp
    have hpp : (upd H1 p (.lst [])) p = some (.lst []) := upd_same
    generalize upd H1 p (.lst []) = H2 at s2 hpp ⊢
    repeat (first | refine ⟨_, rfl, ?_⟩ | refine ⟨rfl, ?_⟩ | refine ⟨_, _, rfl, rfl, ?_⟩ | refine ⟨_, _, _, rfl, rfl, ?_⟩)
    refine ⟨a, ns, _, 9, rfl, s2.seq hS, hD, by omega, by omega, by omega, fun b b0 b1 => ?_⟩
    repeat (first | refine ⟨_, rfl, ?_⟩ | refine ⟨rfl, ?_⟩ | refine ⟨_, _, rfl, rfl, ?_⟩ | refine ⟨_, _, _, rfl, rfl, ?_⟩)
    refine ⟨a, ns, _, 5, rfl, s2.seq hS, hD, by omega, by omega, by omega, fun c c0 c1 => ?_⟩
    refine ⟨c, rfl, by omega, by omega, ?_⟩
    refine for_range (lo := 0) (n := c.toNat) (fun i σ H' => ∃ (L : PL) (num : Int) (y5 y6 : Option V), σ = [some (.ref a), some (.int k), some (.int most), some (.ref p), some (.int num), y5, y6] ∧ HsSo K H H' p i num L)
      ⟨[], b - 1, none, none, rfl, s2, hpp, (fun q hq => by cases hq), rfl, ⟨List.Pairwise.nil, (fun q hq => by cases hq), (fun q hq => by cases hq)⟩, (fun q hq => by cases hq), by omega, by omega⟩ (fun i σ H' hi hW => ?_) (fun σ H' hW => ?_)
    · obtain ⟨L, num, y5, y6, rfl, hA⟩ := hW
      have n0 := hA.n0
      have n1 := hA.n1
      repeat (first | refine ⟨_, rfl, ?_⟩ | refine ⟨rfl, ?_⟩ | refine ⟨_, _, rfl, rfl, ?_⟩ | refine ⟨_, _, _, rfl, rfl, ?_⟩)
      refine ⟨a, ns, _, 20, rfl, hA.sm.seq hS, hD, by omega, by omega, by omega, fun g g0 g1 => ?_⟩
      repeat (first | refine ⟨_, rfl, ?_⟩ | refine ⟨rfl, ?_⟩ | refine ⟨_, _, rfl, rfl, ?_⟩ | refine ⟨_, _, _, rfl, rfl, ?_⟩)
      refine ⟨.inl (by decide), ?_⟩
      repeat (first | refine ⟨_, rfl, ?_⟩ | refine ⟨rfl, ?_⟩ | refine ⟨_, _, rfl, rfl, ?_⟩ | refine ⟨_, _, _, rfl, rfl, ?_⟩)
      refine ⟨a, ns, _, most, rfl, hA.sm.seq hS, hD, by omega, by omega, by omega, fun z H3 sm3 hz hl => ?_⟩
      have hA2 := hA.same sm3
      refine ⟨fun σ H4 => Same H3 H4 ∧ ∃ x : Str, IsLet x ∧ x.length ≤ 14 ∧ σ = [some (.ref a), some (.int k), some (.int most), some (.ref p), some (.int (num + 1 + g)), some (.int (0 + (i : Int))), some (.str x)], ?_, ?_⟩
      · have hp3 := hA2.at_
        have lets := hA2.hs.letAll
        refine ⟨_, rfl, Nat.zero_le _, fun e1 ne1 => ?_⟩
        have f1 := same_new (o := .lst []) ne1
        have hE : HsAt K (upd H3 e1 (.lst [])) e1 [] := ⟨SqL.of upd_same, (fun q hq => nomatch hq)⟩
        generalize upd H3 e1 (.lst []) = H5 at f1 hE ⊢
        have hA5 := hA2.same f1
        have ok1 := okd_sh (okd_H lets)
        have ok0 := okd_sh (okd_H (h := []) (fun q hq => nomatch hq))
        refine ⟨dH (L.map (·.2)), dH [], dp_house ⟨SqL.of hA5.at_, hA5.ps⟩, dp_house hE, ok1.1, ok0.1, ?_⟩
        have keep : Same H3 H5 ∧ ∃ x : Str, IsLet x ∧ x.length ≤ 14 ∧ [some (V.ref a), some (.int k), some (.int most), some (.ref p), some (.int (num + 1 + g)), some (.int (0 + (i : Int))), some (.str z)] = [some (.ref a), some (.int k), some (.int most), some (.ref p), some (.int (num + 1 + g)), some (.int (0 + (i : Int))), some (.str x)] := ⟨f1, z, hz, by omega, rfl⟩
        by_cases cL : L = []
        · subst cL
          exact ⟨_, rfl, iteF keep⟩
        · obtain ⟨t0, L0, rfl⟩ : ∃ t L0, L = t :: L0 := by
            cases L with
            | nil => exact absurd rfl cL
            | cons t L0 => exact ⟨t, L0, rfl⟩
          refine ⟨_, rfl, iteT ?_⟩
          repeat (first | refine ⟨_, rfl, ?_⟩ | refine ⟨rfl, ?_⟩ | refine ⟨_, _, rfl, rfl, ?_⟩ | refine ⟨_, _, _, rfl, rfl, ?_⟩)
          refine ⟨a, ns, _, 3, rfl, hA5.sm.seq hS, hD, by omega, by omega, by omega, fun r5 _ _ => ?_⟩
          refine ⟨rfl, _, rfl, ite2 (fun e2 => ?_) (fun e2 => keep)⟩
          have htx := hA5.hs.txt t0.2 (List.mem_map_of_mem (List.mem_cons_self ..))
          refine ⟨_, rfl, p, _, _, _, rfl, rfl, SqL.of hA5.at_, atI_nat (j := 0) rfl, _, _, _, _, rfl, rfl, hA5.ps t0 (List.mem_cons_self ..), (show atI [V.int t0.2.1, V.str t0.2.2] 1 = some (.str t0.2.2) from rfl), ?_⟩
          repeat (first | refine ⟨_, rfl, ?_⟩ | refine ⟨rfl, ?_⟩ | refine ⟨_, _, rfl, rfl, ?_⟩ | refine ⟨_, _, _, rfl, rfl, ?_⟩)
          refine ⟨a, ns, _, 4, rfl, hA5.sm.seq hS, hD, by omega, by omega, by omega, fun r6 r60 _ => ?_⟩
          obtain ⟨r6, rfl⟩ : ∃ n : Nat, r6 = n := ⟨r6.toNat, by omega⟩
          have l6 : (cutS t0.2.2 (some (r6 : Int)) none).length ≤ 14 := by
            have := suf_len t0.2.2 r6
            have e : (suf t0.2.2 r6).length = (cutS t0.2.2 (some (r6 : Int)) none).length := rfl
            have := htx.2
            omega
          have l7 : (cutS t0.2.2 (some (r6 : Int)) none ++ z).length ≤ 28 := by rw [len_app]; omega
          refine ⟨r6, rfl, t0.2.2, rfl, Nat.le_trans htx.2 (by decide), _, rfl, _, _, rfl, rfl, Nat.le_trans (by rw [← len_app]; exact l7) (by decide), _, rfl, most, rfl, _, rfl, Nat.le_trans l7 (by decide), ?_⟩
          refine ⟨f1, _, cut_let (let_app (cut_let htx.1 _ _) hz) _ _, ?_, rfl⟩
          have := congrArg List.length (cuts_take (cutS t0.2.2 (some (r6 : Int)) none ++ z) most)
          rw [List.length_take] at this
          have e : (TL.tl (cutS (cutS t0.2.2 (some (r6 : Int)) none ++ z) none (some (most : Int)))).length = (cutS (cutS t0.2.2 (some (r6 : Int)) none ++ z) none (some (most : Int))).length := rfl
          omega
      rintro σ' H4 ⟨s4, x, xl, xn, rfl⟩
      have hA4 := hA2.same s4
      refine ⟨_, rfl, .inl ⟨rfl, _, SqL.of hA4.at_⟩, _, rfl, _, rfl, (by show 2 ≤ sizeLine; decide), fun t ht => ?_⟩
      have pt : p ≠ t := ne_of_none hA4.at_ ht
      have at2 : (upd H4 t (.tup [.int (num + 1 + g), .str x])) p = some (.lst (refs L)) := by rw [upd_ne pt]; exact hA4.at_
      refine ⟨p, _, _, rfl, rfl, at2, ?_, ?_⟩
      · show (L.map _).length < sizeLine
        rw [List.length_map, hA4.len]; exact Nat.lt_of_le_of_lt (by omega : i ≤ 1000) (by decide)
      have sm3 : Same H4 (upd H4 t (.tup [.int (num + 1 + g), .str x])) := same_new ht
      have smp : ∀ o, Same H (upd (upd H4 t (.tup [.int (num + 1 + g), .str x])) p o) := fun o => same_mut (hA4.sm.trans sm3) hp0
      have ltn : ∀ q ∈ L, q.2.1 < num + 1 + g := fun q hq => by
        have h := hA4.le q hq
        omega
      refine ⟨L ++ [(t, num + 1 + g, x)], num + 1 + g, _, _, rfl, smp _, ?_, ?_, ?_, ?_, ?_, by omega, by omega⟩
      · rw [upd_same]; show _ = some (HO.lst (List.map _ _)); rw [List.map_append]; rfl
      · refine pairs_put at2 fun q hq => ?_
        rcases List.mem_append.mp hq with m1 | m1
        · exact same_tup sm3 (hA4.ps q m1)
        · rw [List.mem_singleton.mp m1]; exact .inl (.inl upd_same)
      · rw [List.length_append, hA4.len]; rfl
      · rw [List.map_append]
        exact hs_snoc hA4.hs (fun q hq => by obtain ⟨y, hy, rfl⟩ := List.mem_map.mp hq; exact ltn y hy) (by omega) (by omega) xl xn
      · intro q hq
        rcases List.mem_append.mp hq with m1 | m1
        · have := ltn q m1; omega
        · rw [List.mem_singleton.mp m1]; exact Int.le_refl _
    · obtain ⟨L, num, y5, y6, rfl, hA⟩ := hW
      exact ⟨_, rfl, q p L _ hA.sm hp0 hA.at_ hA.ps (by have := hA.len; omega) hA.hs⟩
end

end SH
set_option Elab.async false
set_option linter.all false
set_option maxRecDepth 100000
set_option maxHeartbeats 4000000
namespace SH
open PySem PySem.Spec PyProof.Rows L2
section
variable {P : Program} {w : World} {K : PySem.W.Frag} {mg : Str → Option Value} {base : Heap} {ea : Ea}
/-- the words of a house, each with the numbers of the texts where it stands: a new dict of new lists -/
def spWords (K : PySem.W.Frag) : Sp := fun vs H Q _ => ∃ (a : Addr) (L : PL), vs = [.ref a] ∧ HsAt K H a L ∧ L.length ≤ 8 ∧ (∀ q ∈ L, q.2.2.length ≤ 40) ∧ ∀ (D : Addr) (T : WT) (H' : Hp), Wd H H' D T → WdOf T (occ (L.map (·.2))) → Q (.ref D) H'
theorem occA_len (z : Str) (n : Int) (a m : Nat) : (occA z n a m).length = m := by unfold occA; rw [List.length_map, List.length_range]
theorem occQ_len (q : Int × Str) : ∀ m : Nat, q.2.length ≤ 40 → (occQ q m).length ≤ m * 40
  | 0, _ => by simp [occQ]
  | m + 1, h => by
    have := occQ_len q m h
    rw [occQ_succ, List.length_append, occA_len]
    omega
theorem occ_len : ∀ h : List (Int × Str), (∀ q ∈ h, q.2.length ≤ 40) → (occ h).length ≤ h.length * 1600
  | [], _ => by simp [occ]
  | q :: r, h => by
    have h1 := occ_len r fun x m => h x (List.mem_cons_of_mem _ m)
    have h2 := h q (List.mem_cons_self ..)
    have h3 := occQ_len q q.2.length h2
    have e : occ (q :: r) = occQ q q.2.length ++ occ r := rfl
    rw [e, List.length_append, List.length_cons]
    have : q.2.length * 40 ≤ 1600 := by omega
    omega
theorem WdOf.len {H0 H : Hp} {D : Addr} {T : WT} {O : Occ} (h : Wd H0 H D T) (o : WdOf T O) : T.length ≤ O.length := by
  have := List.Nodup.length_le_of_subset h.kd (fun z hz => (o.mem z).mp hz)
  rw [List.length_map, List.length_map] at this
  exact this
theorem sc__law_words : FnScope ["house", "found", "number", "text", "start", "stop", "word"] ["house"] (defScope s__law_words) := ⟨rfl, rfl, rfl, by decide +kernel, rfl, by decide +kernel, by decide +kernel⟩
theorem ok__law_words (T : Txt K mg ea) : Cl P w K mg base 1 "_law_words" (spWords K) := by
  have nd := sc__law_words.nd
  refine cl_of T.d__law_words sc__law_words (fun vs H Q E h => ?_) (fun f cdv A outer s H vs Q E hr h => ?_)
  · obtain ⟨a, L, rfl, _⟩ := h
    rfl
  · obtain ⟨a, L, rfl, hA, hl, hz, q⟩ := h
    refine ⟨_, (pss_cons (ps_set (i := 1) nd rfl (.inl rfl) pe_dnewK)
      (pss_cons (ps_for PassesOwn.never rfl (pi_listK (K := K) (pv 0)) (pg_tup rfl (pgs_cons (pg_name (i := 2) nd rfl (.inl rfl)) (pgs_cons (pg_name (i := 3) nd rfl (.inl rfl)) pgs_nil)))
        (pss_one (ps_for PassesOwn.never rfl (pi_range1 rfl T.b_range (pa_cons (pe_callB call_len_str (by rfl) T.b_len PySem.boot_len (pa_cons (pv 3) pa_nil)) pa_nil)) (pg_name (i := 4) nd rfl (.inl rfl))
            (pss_one (ps_for PassesOwn.never rfl (pi_range2 rfl T.b_range (pa_cons (pe_op op_add (pv 4) pe_int) (pa_cons (pe_op op_add (pe_callB call_len_str (by rfl) T.b_len PySem.boot_len (pa_cons (pv 3) pa_nil)) pe_int) pa_nil))) (pg_name (i := 5) nd rfl (.inl rfl))
                (pss_cons (ps_set (i := 6) nd rfl (.inl rfl) (pe_slice sl_str (pv 3) (po_some (pv 4)) (po_some (pv 5))))
                  (C8.pss_cut (ps_if (pt_cmp (pc_dnotin (hu_of hr) (pv 6) (pv 1)))
                    (pss_one (ps_dput (hu_of hr) (pv 1) (pv 6) (pe_lst pa_nil) rfl))
                    pss_nil)
                  (pss_one (ps_expr (pe_bm PySem.F.plainAttrs_list PySem.F.slot_list_append PySem.F.type_list_append mt_append (pe_dget (hu_of hr) (pv 1) (pv 6) (fun _ _ => rfl)) (pa_cons (pv 2) pa_nil)))))))))))
      (pss_one (ps_ret (pv 1))))), ?_⟩
    have rl := refs_len L
    intro D nD
    have w0 : Wd H (upd H D (.dK (wkvs []))) D [] := ⟨upd_same, same_new nD, nD, List.nodup_nil, List.nodup_nil, (fun e m => nomatch m)⟩
    have o0 : WdOf [] (occ ((L.map (·.2)).take 0)) := ⟨fun z => Iff.rfl, (fun e m => nomatch m)⟩
    have ol : ∀ O : Occ, O.Sublist (occ (L.map (·.2))) → O.length ≤ 12800 := fun O s => by
      have h1 := occ_len (L.map (·.2)) fun q hq => by
        obtain ⟨y, hy, rfl⟩ := List.mem_map.mp hq
        exact hz y hy
      rw [List.length_map] at h1
      have := s.length_le
      omega
    refine ⟨_, rfl, a, rfl, ⟨_, w0.sm.seq hA.1⟩, ?_⟩
    refine for_it (walk_list (K := K) (a := a) (xs := refs L)) (fun i σ H' => ∃ T : WT, Wd H H' D T ∧ WdOf T (occ ((L.map (·.2)).take i)) ∧ ∃ y2 y3 y4 y5 y6 : Option V, σ = [some (.ref a), some (.ref D), y2, y3, y4, y5, y6])
      ⟨[], w0, o0, none, none, none, none, none, rfl⟩ (fun i σ H' _ hW => ?_) (fun i x σ H1 H2 hi hW y => ?_) (fun σ H1 hW => ?_)
    · obtain ⟨T, hT, _⟩ := hW
      exact hT.sm.seq hA.1
    · obtain ⟨T, hT, hO, y2, y3, y4, y5, y6, rfl⟩ := hW
      obtain ⟨rfl, hx⟩ := y
      obtain ⟨t, ht, tm, rfl⟩ := refs_get hx
      have tl := hz t tm
      have ht2 : (L.map (·.2))[i]? = some t.2 := by rw [List.getElem?_map, ht]; rfl
      have tk := take_snoc ht2
      have zs : t.2.2.length ≤ sizeLine := Nat.le_trans tl (by decide)
      have sub : (occ ((L.map (·.2)).take (i + 1))).Sublist (occ (L.map (·.2))) := by
        unfold occ
        have e := List.take_append_drop (i + 1) (L.map (·.2))
        conv => rhs; rw [← e, List.flatMap_append]
        exact List.sublist_append_left _ _
      rw [tk, occ_snoc] at sub
      refine ⟨_, _, rfl, same_tup hT.sm (hA.2 t tm), rfl, _, _, rfl, _, _, rfl, rfl, ?_⟩
      refine ⟨_, rfl, t.2.2, rfl, zs, _, rfl, by omega, by omega, ?_⟩
      refine for_range (lo := 0) (n := (t.2.2.length : Int).toNat) (fun s σ H' => ∃ T : WT, Wd H H' D T ∧ WdOf T (occ ((L.map (·.2)).take i) ++ occQ t.2 s) ∧ ∃ y4 y5 y6 : Option V, σ = [some (.ref a), some (.ref D), some (.int t.2.1), some (.str t.2.2), y4, y5, y6])
        ⟨T, hT, by rw [show occQ t.2 0 = [] from rfl, List.append_nil]; exact hO, _, _, _, rfl⟩ (fun s σ H3 hs hW => ?_) (fun σ H3 hW => ?_)
      · obtain ⟨T, hT, hO, y4, y5, y6, rfl⟩ := hW
        have ez : (0 : Int) + (s : Int) = (s : Int) := Int.zero_add _
        rw [ez]
        have en : ((t.2.2.length : Int) + 1 - ((s : Int) + 1)).toNat = t.2.2.length - s := by omega
        refine ⟨_, rfl, _, _, rfl, rfl, _, rfl, t.2.2, rfl, zs, _, _, rfl, rfl, _, _, rfl, ⟨by omega, by omega, by omega, by omega⟩, ?_⟩
        refine for_range (lo := (s : Int) + 1) (n := ((t.2.2.length : Int) + 1 - ((s : Int) + 1)).toNat) (fun j σ H' => ∃ T : WT, Wd H H' D T ∧ WdOf T (occ ((L.map (·.2)).take i) ++ occQ t.2 s ++ occA t.2.2 t.2.1 s j) ∧ ∃ y5 y6 : Option V, σ = [some (.ref a), some (.ref D), some (.int t.2.1), some (.str t.2.2), some (.int (s : Int)), y5, y6])
          ⟨T, hT, by rw [show occA t.2.2 t.2.1 s 0 = [] from rfl, List.append_nil]; exact hO, _, _, rfl⟩ (fun j σ H4 hj hW => ?_) (fun σ H4 hW => ?_)
        · obtain ⟨T, hT, hO, y5, y6, rfl⟩ := hW
          have ej : (s : Int) + 1 + (j : Int) = ((s + 1 + j : Nat) : Int) := by omega
          rw [ej]
          refine ⟨_, rfl, _, rfl, _, rfl, _, rfl, _, rfl, t.2.2, rfl, zs, ?_⟩
          have ew : cutS t.2.2 (some (s : Int)) (some ((s + 1 + j : Nat) : Int)) = cutN t.2.2 s (s + 1 + j) := rfl
          rw [ew]
          generalize ewd : cutN t.2.2 s (s + 1 + j) = wd
          have tlen : T.length ≤ 20000 := by
            have h1 := WdOf.len hT hO
            have h2 : (occ ((L.map (·.2)).take i) ++ occQ t.2 s ++ occA t.2.2 t.2.1 s j).length ≤ 12800 + 1600 + 40 := by
              rw [List.length_append, List.length_append, occA_len]
              have h3 := ol _ ((List.sublist_append_left _ _).trans sub)
              have h4 := occQ_len t.2 s tl
              omega
            omega
          refine ⟨fun σ H' => ∃ T1 : WT, Wd H H' D T1 ∧ (∀ y, y ∈ T1.map (·.1) ↔ y ∈ (occ ((L.map (·.2)).take i) ++ occQ t.2 s ++ occA t.2.2 t.2.1 s j).map (·.1) ∨ y = wd) ∧ (∀ e ∈ T1, e.2.2 = ((occ ((L.map (·.2)).take i) ++ occQ t.2 s ++ occA t.2.2 t.2.1 s j).filter fun o => decide (o.1 = e.1)).map (·.2)) ∧
            σ = [some (.ref a), some (.ref D), some (.int t.2.1), some (.str t.2.2), some (.int (s : Int)), some (.int ((s + 1 + j : Nat) : Int)), some (.str wd)], ?_, ?_⟩
          · by_cases c : wd ∈ T.map (·.1)
            · obtain ⟨e, he, ee⟩ := List.mem_map.mp c
              have dg := DGet.k (k := .inr e.1) hT.at_
              rw [hT.val_of he, ee] at dg
              refine ⟨_, rfl, _, rfl, D, _, rfl, dg, _, rfl, iteF ?_⟩
              exact ⟨T, hT, fun y => ⟨fun z => .inl ((hO.mem y).mp z), fun z => z.elim (hO.mem y).mpr fun z => z ▸ c⟩, hO.val, rfl⟩
            · have dg := DGet.k (k := .inr wd) hT.at_
              rw [wkvs_none c] at dg
              refine ⟨_, rfl, _, rfl, D, _, rfl, dg, _, rfl, iteT ?_⟩
              refine ⟨Nat.zero_le _, fun r nr => ?_⟩
              have hn := hT.new c nr
              have atD : (upd H4 r (.lst [])) D = some (.dK (wkvs T)) := same_new nr _ _ hT.at_
              have kl : (wkvs T).length < sizeLine := by
                unfold wkvs
                rw [List.length_map]
                exact Nat.lt_of_le_of_lt tlen (by decide)
              have dp := DPut.k (k := .inr wd) (v := .ref r) atD kl
              rw [wkvs_put c] at dp
              refine ⟨_, rfl, _, rfl, D, _, rfl, dp, ?_⟩
              have nn : wd ∉ (occ ((L.map (·.2)).take i) ++ occQ t.2 s ++ occA t.2.2 t.2.1 s j).map (·.1) := fun z => c ((hO.mem wd).mpr z)
              refine ⟨T ++ [(wd, r, [])], hn, fun y => ?_, fun e he => ?_, rfl⟩
              · rw [List.map_append, List.mem_append, hO.mem y]
                exact or_congr Iff.rfl List.mem_singleton
              · rcases List.mem_append.mp he with m | m
                · exact hO.val e m
                · rw [List.mem_singleton.mp m]
                  show [] = _
                  rw [List.filter_eq_nil_iff.mpr fun o ho hd => nn (by rw [← show o.1 = wd from of_decide_eq_true hd]; exact List.mem_map_of_mem (f := fun o : Str × Int => o.1) ho)]
                  rfl
          rintro σ' H5 ⟨T1, h1, hs1, hv1, rfl⟩
          obtain ⟨e, he, ee⟩ := List.mem_map.mp ((hs1 wd).mpr (.inr rfl))
          have dg := DGet.k (k := .inr e.1) h1.at_
          rw [h1.val_of he, ee] at dg
          have hr := (h1.row e he).1
          refine ⟨_, rfl, _, rfl, D, _, rfl, dg, .inl ⟨rfl, _, SqL.of hr⟩, _, rfl, e.2.1, _, _, rfl, rfl, hr, ?_, ?_⟩
          · have h2 : (occ ((L.map (·.2)).take i) ++ occQ t.2 s ++ occA t.2.2 t.2.1 s j).length ≤ 12800 + 1600 + 40 := by
              rw [List.length_append, List.length_append, occA_len]
              have h3 := ol _ ((List.sublist_append_left _ _).trans sub)
              have h4 := occQ_len t.2 s tl
              omega
            have h3 := congrArg List.length (hv1 e he)
            rw [List.length_map] at h3
            have h4 := List.length_filter_le (fun o : Str × Int => decide (o.1 = e.1)) (occ ((L.map (·.2)).take i) ++ occQ t.2 s ++ occA t.2.2 t.2.1 s j)
            rw [List.length_map]
            exact Nat.lt_of_le_of_lt (by omega : _ ≤ 20000) (by decide)
          · refine ⟨bump T1 e.1 t.2.1, h1.app he t.2.1, ?_, _, _, rfl⟩
            rw [occA_succ, ewd, ← List.append_assoc, ee]
            exact WdOf.bump hs1 hv1
        · obtain ⟨T, hT, hO, y5, y6, rfl⟩ := hW
          refine ⟨T, hT, ?_, _, _, _, rfl⟩
          rw [occQ_succ, ← List.append_assoc]
          rw [en] at hO
          exact hO
      · obtain ⟨T, hT, hO, y4, y5, y6, rfl⟩ := hW
        refine ⟨T, hT, ?_, _, _, _, _, _, rfl⟩
        rw [tk, occ_snoc]
        exact hO
    · obtain ⟨T, hT, hO, y2, y3, y4, y5, y6, rfl⟩ := hW
      rw [List.take_of_length_le (by rw [List.length_map, rl]; exact Nat.le_refl _)] at hO
      exact ⟨_, rfl, q D T _ hT hO⟩
end

section
variable {P : Program} {w : World} {K : PySem.W.Frag} {mg : Str → Option Value} {base : Heap} {ea : Ea}
/-- the stretches of a house, in order: a new list -/
def spStrs (K : PySem.W.Frag) : Sp := fun vs H Q _ => ∃ (a : Addr) (L : PL), vs = [.ref a] ∧ HsAt K H a L ∧ L.length ≤ 8 ∧ (∀ q ∈ L, q.2.2.length ≤ 20) ∧
  ∀ (p : Addr) (H' : Hp) (l : List Str), Same H H' → H p = none → H' p = some (.lst (l.map V.str)) → StrL ((occ (L.map (·.2))).map (·.1)) l → Q (.ref p) H'
theorem occS_len : ∀ h : List (Int × Str), (∀ q ∈ h, q.2.length ≤ 20) → (occ h).length ≤ h.length * 400
  | [], _ => by simp [occ]
  | q :: r, h => by
    have h1 := occS_len r fun x m => h x (List.mem_cons_of_mem _ m)
    have h2 := h q (List.mem_cons_self ..)
    have e : occ (q :: r) = occQ q q.2.length ++ occ r := rfl
    have h3 : ∀ m : Nat, (occQ q m).length ≤ m * 20 := by
      intro m
      induction m with
      | zero => simp [occQ]
      | succ m ih =>
        rw [occQ_succ, List.length_append]
        have : (occA q.2 q.1 m (q.2.length - m)).length = q.2.length - m := by unfold occA; rw [List.length_map, List.length_range]
        omega
    have h4 := h3 q.2.length
    rw [e, List.length_append, List.length_cons]
    have : q.2.length * 20 ≤ 400 := by omega
    omega
theorem occ_text {h : List (Int × Str)} {m : Nat} (hz : ∀ q ∈ h, q.2.length ≤ m) {z : Str} (hm : z ∈ (occ h).map (·.1)) : z.length ≤ m := by
  obtain ⟨o, ho, rfl⟩ := List.mem_map.mp hm
  obtain ⟨q, hq, ho⟩ := List.mem_flatMap.mp ho
  obtain ⟨s, hs, ho⟩ := List.mem_flatMap.mp ho
  obtain ⟨k, hk, rfl⟩ := List.mem_map.mp ho
  have := hz q hq
  have hs := List.mem_range.mp hs
  have hk := List.mem_range.mp hk
  show (cutN q.2 s (s + 1 + k)).length ≤ m
  have e := cutN_len (z := q.2) (a := s) (b := s + 1 + k) (by omega) (by omega)
  omega
theorem sc_stretches : FnScope ["house", "found", "_", "text", "start", "stop"] ["house"] (defScope s_stretches) := ⟨rfl, rfl, rfl, by decide +kernel, rfl, by decide +kernel, by decide +kernel⟩
theorem ok_stretches (T : Txt K mg ea) : Cl P w K mg base 1 "stretches" (spStrs K) := by
  have nd := sc_stretches.nd
  refine cl_of T.d_stretches sc_stretches (fun vs H Q E h => ?_) (fun f cdv A outer s H vs Q E hr h => ?_)
  · obtain ⟨a, L, rfl, _⟩ := h
    rfl
  · obtain ⟨a, L, rfl, hA, hl, hz, q⟩ := h
    refine ⟨_, (pss_cons (ps_setSc3 (i := 1) (w := w) (own := [("_", 2), ("text", 3), ("start", 4), ("stop", 5)]) (vs1 := [4, 5]) (vs2 := [5]) (g := (gTup K 2 (gCons (gName 2) (gCons (gName 3) gNil)))) (g1 := (gName 4)) (g2 := (gName 5)) rfl nd rfl rfl (sw_trueS rfl rfl rfl (by decide +kernel)) (pi_listK (K := K) (pv 0)) (blkOk_by (own := [("_", 2), ("text", 3), ("start", 4), ("stop", 5)]) (N := ["house", "found", "_", "text", "start", "stop"]) (sc := defScope s_stretches) (by decide +kernel)) (by decide) (fun _ _ _ _ _ => (pg_tup rfl (pgs_cons (pg_name (i := 2) nd rfl (.inl rfl)) (pgs_cons (pg_name (i := 3) nd rfl (.inl rfl)) pgs_nil)))) (fun _ _ _ _ _ => pts_nil) (fun _ _ _ _ _ => (pi_range1 rfl T.b_range (pa_cons (pe_callB call_len_str (by rfl) T.b_len PySem.boot_len (pa_cons (pv 3) pa_nil)) pa_nil))) (fun _ _ _ _ _ => (pg_name (i := 4) nd rfl (.inl rfl))) (fun _ _ _ _ _ => pts_nil) (fun _ _ _ _ _ => (pi_range2 rfl T.b_range (pa_cons (pe_op op_add (pv 4) pe_int) (pa_cons (pe_op op_add (pe_callB call_len_str (by rfl) T.b_len PySem.boot_len (pa_cons (pv 3) pa_nil)) pe_int) pa_nil)))) (fun _ _ _ _ _ => (pg_name (i := 5) nd rfl (.inl rfl))) (fun _ _ _ _ _ => pts_nil) (fun _ _ _ _ _ => (pe_slice sl_str (pv 3) (po_some (pv 4)) (po_some (pv 5)))))
      (pss_one (ps_ret (pe_sortLenK (K := K) hr.units (by rfl) T.b_sorted (by rfl) T.b_len (pa_cons (pe_callB (cr_sortMS rfl hr.units) (by rfl) T.b_sorted (by decide +kernel) (pa_cons (pv 1) pa_nil)) pa_nil))))), ?_⟩
    have rl := refs_len L
    have ol : ∀ O : Occ, O.Sublist (occ (L.map (·.2))) → O.length ≤ 3200 := fun O s => by
      have h1 := occS_len (L.map (·.2)) fun q hq => by
        obtain ⟨y, hy, rfl⟩ := List.mem_map.mp hq
        exact hz y hy
      rw [List.length_map] at h1
      have := s.length_le
      omega
    refine ⟨_, rfl, a, rfl, ⟨_, hA.1⟩, fun D nD => ?_⟩
    refine turns_w (walk_list (K := K) (a := a) (xs := refs L)) (fun i H' => SetS w H H' D ((occ ((L.map (·.2)).take i)).map (·.1))) (SetS.nil nD) (fun i H' _ h => by obtain ⟨_, _, _, _, _, sm⟩ := h; exact sm.seq hA.1) (fun i x H1 H2 hi hW y => ?_) (fun H1 hW => ?_)
    · obtain ⟨rfl, hx⟩ := y
      obtain ⟨t, ht, tm, rfl⟩ := refs_get hx
      have tl := hz t tm
      have ht2 : (L.map (·.2))[i]? = some t.2 := by rw [List.getElem?_map, ht]; rfl
      have tk := take_snoc ht2
      have zs : t.2.2.length ≤ sizeLine := Nat.le_trans tl (by decide)
      have sub : (occ ((L.map (·.2)).take (i + 1))).Sublist (occ (L.map (·.2))) := by
        unfold occ
        have e := List.take_append_drop (i + 1) (L.map (·.2))
        conv => rhs; rw [← e, List.flatMap_append]
        exact List.sublist_append_left _ _
      rw [tk, occ_snoc] at sub
      have sm : Same H H2 := by obtain ⟨_, _, _, _, _, sm⟩ := hW; exact sm
      refine ⟨_, _, rfl, same_tup sm (hA.2 t tm), rfl, _, _, rfl, _, _, rfl, rfl, rfl, ?_⟩
      refine ⟨_, rfl, t.2.2, rfl, zs, _, rfl, by omega, by omega, ?_⟩
      refine turns_w (walk_range (lo := 0) (n := (t.2.2.length : Int).toNat)) (fun s H' => SetS w H H' D ((occ ((L.map (·.2)).take i) ++ occQ t.2 s).map (·.1))) (by rw [show occQ t.2 0 = [] from rfl, List.append_nil]; exact hW) (fun _ _ _ _ => trivial) (fun s x H3 H4 hs hW y => ?_) (fun H3 hW => ?_)
      · obtain ⟨rfl, rfl⟩ := y
        have ez : (0 : Int) + (s : Int) = (s : Int) := Int.zero_add _
        simp only [ez]
        have en : ((t.2.2.length : Int) + 1 - ((s : Int) + 1)).toNat = t.2.2.length - s := by omega
        refine ⟨rfl, ?_⟩
        refine ⟨_, rfl, _, _, rfl, rfl, _, rfl, t.2.2, rfl, zs, _, _, rfl, rfl, _, _, rfl, ⟨by omega, by omega, by omega, by omega⟩, ?_⟩
        refine turns_w (walk_range (lo := (s : Int) + 1) (n := ((t.2.2.length : Int) + 1 - ((s : Int) + 1)).toNat)) (fun j H' => SetS w H H' D ((occ ((L.map (·.2)).take i) ++ occQ t.2 s ++ occA t.2.2 t.2.1 s j).map (·.1))) (by rw [show occA t.2.2 t.2.1 s 0 = [] from rfl, List.append_nil]; exact hW) (fun _ _ _ _ => trivial) (fun j x H4 H5 hj hW y => ?_) (fun H4 hW => ?_)
        · obtain ⟨rfl, rfl⟩ := y
          have ej : (s : Int) + 1 + (j : Int) = ((s + 1 + j : Nat) : Int) := by omega
          simp only [ej]
          refine ⟨rfl, ?_⟩
          refine ⟨_, rfl, _, rfl, _, rfl, _, rfl, _, rfl, t.2.2, rfl, zs, ?_⟩
          have ew : cutS t.2.2 (some (s : Int)) (some ((s + 1 + j : Nat) : Int)) = cutN t.2.2 s (s + 1 + j) := rfl
          rw [ew]
          refine SetS.put (Q := fun H1 => SetS w H H1 D ((occ ((L.map (·.2)).take i) ++ occQ t.2 s ++ occA t.2.2 t.2.1 s (j + 1)).map (·.1))) nD hW _ ?_ fun H' h' => ?_
          · have h3 := ol _ ((List.sublist_append_left _ _).trans sub)
            have h4 := occQ_len t.2 s (Nat.le_trans tl (by decide))
            rw [List.length_map, List.length_append, List.length_append, occA_len]
            omega
          · rw [occA_succ, ← List.append_assoc, List.map_append]
            exact h'
        · rw [en] at hW
          rw [occQ_succ, ← List.append_assoc]
          exact hW
      · rw [tk, occ_snoc]
        exact hW
    · rw [List.take_of_length_le (by rw [List.length_map, rl]; exact Nat.le_refl _)] at hW
      obtain ⟨S, n, hD, hS, hn, sm⟩ := hW
      refine ⟨_, rfl, D, S, n, rfl, hD, fun k hk => by obtain ⟨z, e, _⟩ := (hS k).mp hk; exact ⟨z, e⟩, fun l p1 nl pw hm ln np => ?_⟩
      have s1 := same_new (o := .lst (l.map V.str)) np
      have mem : ∀ z, z ∈ l ↔ z ∈ (occ (L.map (·.2))).map (·.1) := fun z => (hm z).trans ((hS (.inr z)).trans ⟨fun ⟨y, e, m⟩ => Sum.inr.inj e ▸ m, fun m => ⟨z, rfl, m⟩⟩)
      refine ⟨p1, l, rfl, SqL.of upd_same, fun z hz2 => ?_, fun p2 np2 => ?_⟩
      · have := occ_text (m := 20) (fun q hq => by obtain ⟨y, hy, rfl⟩ := List.mem_map.mp hq; exact hz y hy) ((mem z).mp hz2)
        exact Nat.le_trans this (by decide)
      · exact q p2 _ _ (sm.trans (s1.trans (same_new np2))) ((sm.trans s1).free np2) upd_same ((lenSort nl pw).cong mem)
end

end SH
set_option Elab.async false
set_option linter.all false
set_option maxRecDepth 100000
set_option maxHeartbeats 4000000
namespace SH
open PySem PySem.Spec PyProof.Rows L2
section
variable {P : Program} {w : World} {K : PySem.W.Frag} {mg : Str → Option Value} {base : Heap} {ea : Ea}
/-- whether a word consists of some letters -/
def spCons : Sp := fun vs H Q _ => ∃ (z al : Str), vs = [.str z, .str al] ∧ z.length ≤ 1000 ∧ ∀ H', Same H H' → Q (.bl (decide (okA al z))) H'
theorem sc__consists_of : FnScope ["word", "alphabet", "letter"] ["word", "alphabet"] (defScope s__consists_of) := ⟨rfl, rfl, rfl, by decide +kernel, rfl, by decide +kernel, by decide +kernel⟩
theorem ok__consists_of (T : Txt K mg ea) : Cl P w K mg base 1 "_consists_of" spCons := by
  have nd := sc__consists_of.nd
  refine cl_of T.d__consists_of sc__consists_of (fun vs H Q E h => ?_) (fun f cdv A outer s H vs Q E hr h => ?_)
  · obtain ⟨z, al, rfl, _⟩ := h
    rfl
  · obtain ⟨z, al, rfl, hz, q⟩ := h
    refine ⟨_, (pss_one (ps_ret (pe_callB (cr_all rfl) (by rfl) T.b_all (by decide +kernel) (pa_cons (pe_lc (own := [("letter", 2)]) (g := (gName 2)) rfl nd (pi_str (pv 0)) (blkOk_by (own := [("letter", 2)]) (N := ["word", "alphabet", "letter"]) (sc := defScope s__consists_of) (by decide +kernel)) (fun _ _ _ _ _ => (pg_name (i := 2) nd rfl (.inl rfl))) (fun _ _ _ _ _ => pts_nil) (fun _ _ _ _ _ => (pe_cmpR op_in_sign (pv 2) (pv 1) rfl))) pa_nil)))), ?_⟩
    have zl : (TL.tl z).length = z.length := rfl
    refine ⟨_, rfl, z, rfl, fun D nD => ?_⟩
    refine lc_w (walk_str (z := z)) nD (by show z.cps.size ≤ 100000; exact Nat.le_trans hz (by decide)) (fun _ _ => trivial) (fun i acc _ => acc = ((TL.tl z).take i).map fun c => V.bl (decide (c ∈ TL.tl al))) (fun _ _ => rfl) (fun _ _ _ _ _ _ _ r => r) (fun i H x H' y => by rw [y.1]; exact Same.refl _) (fun i x acc Ha Hb Qn Qf hi sm y r at_ kn kf => ?_) (fun acc H1 s1 at1 _ r => ?_)
    · obtain ⟨rfl, c, hc, rfl⟩ := y
      refine ⟨rfl, _, rfl, _, rfl, c, al, rfl, rfl, kn _ _ (Same.refl _) ?_⟩
      rw [r, take_snoc (show (TL.tl z)[i]? = some c by rw [← hc]; exact Array.getElem?_toList ..), List.map_append]
      rfl
    · subst r
      rw [List.take_of_length_le (by show z.cps.toList.length ≤ z.cps.size; exact Nat.le_of_eq (Array.length_toList ..))] at at1
      refine ⟨D, (TL.tl z).map fun c => decide (c ∈ TL.tl al), rfl, SqL.of (by rw [List.map_map]; exact at1), ?_⟩
      have e : ((TL.tl z).map fun c => decide (c ∈ TL.tl al)).all id = decide (okA al z) := by
        rw [List.all_map]
        by_cases c : okA al z
        · rw [decide_eq_true c]
          exact List.all_eq_true.mpr fun x hx => decide_eq_true (c x hx)
        · rw [decide_eq_false c]
          refine Bool.eq_false_iff.mpr fun h => c fun x hx => ?_
          exact of_decide_eq_true (List.all_eq_true.mp h x hx)
      rw [e]
      exact q _ s1
end

section
variable {P : Program} {w : World} {K : PySem.W.Frag} {mg : Str → Option Value} {base : Heap} {ea : Ea}
/-- the last letters by what is ahead of them: a new dict of new lists -/
def behO (W : List Str) : VOcc := W.map fun x => (dl x, V.str (sg (lastC x)))
def spBehind (K : PySem.W.Frag) : Sp := fun vs H Q _ => ∃ (a : Addr) (W : List Str), vs = [.ref a] ∧ SqL K H a (W.map V.str) ∧ W.length ≤ 10000 ∧ (∀ z ∈ W, 0 < z.length ∧ z.length ≤ 1000) ∧
  ∀ (D : Addr) (T : VT) (H' : Hp), Vd H H' D T → VdOf T (behO W) → Q (.ref D) H'
theorem sc__letters_behind : FnScope ["words", "found", "word"] ["words"] (defScope s__letters_behind) := ⟨rfl, rfl, rfl, by decide +kernel, rfl, by decide +kernel, by decide +kernel⟩
theorem ok__letters_behind (T : Txt K mg ea) : Cl P w K mg base 1 "_letters_behind" (spBehind K) := by
  have nd := sc__letters_behind.nd
  refine cl_of T.d__letters_behind sc__letters_behind (fun vs H Q E h => ?_) (fun f cdv A outer s H vs Q E hr h => ?_)
  · obtain ⟨a, W, rfl, _⟩ := h
    rfl
  · obtain ⟨a, W, rfl, hA, hl, hz, q⟩ := h
    refine ⟨_, (pss_cons (ps_set (i := 1) nd rfl (.inl rfl) pe_dnewK)
      (pss_cons (ps_for PassesOwn.never rfl (pi_listK (K := K) (pv 0)) (pg_name (i := 2) nd rfl (.inl rfl))
        (pss_one (ps_expr (pe_bm PySem.F.plainAttrs_list PySem.F.slot_list_append PySem.F.type_list_append mt_append (pe_dsetd (pv 1) (pe_slice sl_str (pv 2) po_none (po_some (pe_un un_neg pe_int))) (pe_lst pa_nil) (by constructor <;> rfl)) (pa_cons (pe_ix ix_str (pv 2) (pe_un un_neg pe_int) (fun _ _ => rfl)) pa_nil)))))
      (pss_one (ps_ret (pv 1))))), ?_⟩
    intro D nD
    have w0 : Vd H (upd H D (.dK (vkvs []))) D [] := ⟨upd_same, same_new nD, nD, List.nodup_nil, List.nodup_nil, (fun e m => nomatch m)⟩
    have o0 : VdOf [] (behO (W.take 0)) := ⟨fun z => Iff.rfl, (fun e m => nomatch m)⟩
    refine ⟨_, rfl, a, rfl, ⟨_, w0.sm.seq hA⟩, ?_⟩
    refine for_it (walk_list (K := K) (a := a) (xs := W.map V.str)) (fun i σ H' => ∃ T : VT, Vd H H' D T ∧ VdOf T (behO (W.take i)) ∧ ∃ y2 : Option V, σ = [some (.ref a), some (.ref D), y2])
      ⟨[], w0, o0, none, rfl⟩ (fun i σ H' _ hW => ?_) (fun i x σ H1 H2 hi hW y => ?_) (fun σ H1 hW => ?_)
    · obtain ⟨T, hT, _⟩ := hW
      exact hT.sm.seq hA
    · obtain ⟨T, hT, hO, y2, rfl⟩ := hW
      obtain ⟨rfl, hx⟩ := y
      rw [List.getElem?_map] at hx
      obtain ⟨x, hw, rfl⟩ : ∃ wd, W[i]? = some wd ∧ x = .str wd := by
        cases e : W[i]? with
        | none => rw [e] at hx; cases hx
        | some wd => rw [e] at hx; exact ⟨wd, rfl, (Option.some.inj hx).symm⟩
      obtain ⟨x0, xl⟩ := hz x (List.mem_of_getElem? hw)
      have xs : x.length ≤ sizeLine := Nat.le_trans xl (by decide)
      have tk : behO (W.take (i + 1)) = behO (W.take i) ++ [(dl x, V.str (sg (lastC x)))] := by
        unfold behO
        rw [take_snoc hw, List.map_append]
        rfl
      have tlen : T.length ≤ 10000 := by
        have h1 := List.Nodup.length_le_of_subset hT.kd (fun z hz => (hO.mem z).mp hz)
        rw [List.length_map, List.length_map] at h1
        unfold behO at h1
        rw [List.length_map, List.length_take] at h1
        omega
      refine ⟨_, rfl, D, rfl, .inl ⟨_, .inl hT.at_⟩, _, rfl, _, rfl, _, rfl, x, rfl, xs, Nat.zero_le _, fun l nl => ?_⟩
      have ew : cutS x none (some (-1)) = dl x := rfl
      rw [ew]
      have h2 := hT.same (same_new (o := .lst []) nl)
      have at2 : (upd H2 l (.lst [])) l = some (.lst []) := upd_same
      have nl0 := hT.sm.free nl
      have lD : l ≠ D := fun e => by rw [e, hT.at_] at nl; cases nl
      generalize eH : upd H2 l (.lst []) = H3 at h2 at2 ⊢
      refine ⟨vkvs T, .inr (dl x), h2.at_, rfl, ?_, fun v hv => ?_, fun hv => ?_⟩
      · unfold vkvs
        rw [List.length_map]
        exact Nat.lt_of_le_of_lt tlen (by decide)
      · by_cases c : dl x ∈ T.map (·.1)
        · obtain ⟨e, he, ee⟩ := List.mem_map.mp c
          rw [← ee, h2.val_of he] at hv
          obtain rfl := Option.some.inj hv
          have hr := (h2.row e he).1
          refine ⟨.inl ⟨rfl, _, SqL.of hr⟩, _, rfl, _, rfl, x, _, _, rfl, rfl, xs, lastC_at x0, e.2.1, _, _, rfl, rfl, hr, ?_, ?_⟩
          · have h3 := congrArg List.length (hO.val e he)
            rw [List.length_map] at h3
            have h4 := List.length_filter_le (fun o : Str × V => decide (o.1 = e.1)) (behO (W.take i))
            have h5 : (behO (W.take i)).length ≤ W.length := by unfold behO; rw [List.length_map, List.length_take]; omega
            exact Nat.lt_of_le_of_lt (by omega : _ ≤ 20000) (by decide)
          · refine ⟨vbump T e.1 (V.str (sg (lastC x))), h2.app he _, ?_, _, rfl⟩
            rw [tk, ee]
            exact VdOf.vbump (fun y => (hO.mem y).trans ⟨.inl, fun z => z.elim id fun e2 => by rw [e2]; exact (hO.mem _).mp c⟩) hO.val
        · rw [vkvs_none c] at hv
          cases hv
      · have c : dl x ∉ T.map (·.1) := fun c => by
          obtain ⟨e, he, ee⟩ := List.mem_map.mp c
          rw [← ee, h2.val_of he] at hv
          cases hv
        rw [vkvs_put c]
        have nn : dl x ∉ (behO (W.take i)).map (·.1) := fun z => c ((hO.mem _).mpr z)
        have hn : Vd H (upd H3 D (.dK (vkvs (T ++ [(dl x, l, [])])))) D (T ++ [(dl x, l, [])]) := by
          rw [← eH]
          exact hT.new c nl
        have he : (dl x, l, ([] : List V)) ∈ T ++ [(dl x, l, [])] := List.mem_append_right _ (List.mem_singleton.mpr rfl)
        have hr := (hn.row _ he).1
        generalize upd H3 D (.dK (vkvs (T ++ [(dl x, l, [])]))) = H4 at hn hr ⊢
        refine ⟨.inl ⟨rfl, _, SqL.of hr⟩, _, rfl, _, rfl, x, _, _, rfl, rfl, xs, lastC_at x0, l, _, _, rfl, rfl, hr, Nat.lt_of_lt_of_le Nat.zero_lt_one (by decide), ?_⟩
        refine ⟨vbump (T ++ [(dl x, l, [])]) (dl x) (V.str (sg (lastC x))), hn.app he _, ?_, _, rfl⟩
        rw [tk]
        refine VdOf.vbump (fun y => ?_) (fun e he => ?_)
        · rw [List.map_append, List.mem_append, hO.mem y]
          exact or_congr Iff.rfl List.mem_singleton
        · rcases List.mem_append.mp he with m | m
          · exact hO.val e m
          · rw [List.mem_singleton.mp m]
            show [] = _
            rw [List.filter_eq_nil_iff.mpr fun o ho hd => nn (by rw [← show o.1 = dl x from of_decide_eq_true hd]; exact List.mem_map_of_mem (f := fun o : Str × V => o.1) ho)]
            rfl
    · obtain ⟨T, hT, hO, y2, rfl⟩ := hW
      rw [List.take_of_length_le (by rw [List.length_map]; exact Nat.le_refl _)] at hO
      exact ⟨_, rfl, q D T _ hT hO⟩
end

end SH
set_option Elab.async false
set_option linter.all false
set_option maxRecDepth 100000
set_option maxHeartbeats 4000000
namespace SH
open PySem PySem.Spec PyProof.Rows L2
section
variable {P : Program} {w : World} {K : PySem.W.Frag} {mg : Str → Option Value} {base : Heap} {ea : Ea}
/-- the least absent words: a new list, or that the letters are none or not different -/
def spAbs (K : PySem.W.Frag) (ea : Ea) : Sp := fun vs H Q E => ∃ (a : Addr) (L : PL) (al : Str), vs = [.ref a, .str al] ∧ HsAt K H a L ∧ L.length ≤ 8 ∧ (∀ q ∈ L, q.2.2.length ≤ 20) ∧ al.length ≤ 100 ∧
  ((al = Str.empty ∨ ¬ (TL.tl al).Nodup) → Errs E H ea.c_OutOfRange 0) ∧
  (al ≠ Str.empty → (TL.tl al).Nodup → ∀ (p : Addr) (H' : Hp) (l : List Str), Same H H' → H p = none → H' p = some (.lst (l.map V.str)) → AbsL ((occ (L.map (·.2))).map (·.1)) al l → (∀ z ∈ l, z.length ≤ 100) → Q (.ref p) H')
theorem sig_nd (al : Str) : (signs al).reverse.Nodup ↔ (TL.tl al).Nodup := by
  unfold signs
  rw [List.Nodup, List.pairwise_reverse, List.pairwise_map]
  constructor
  · exact fun h => h.imp fun n e => n (by rw [e])
  · exact fun h => h.imp fun n e => n (by have := congrArg TL.tl (Sum.inr.inj e); cases this; rfl)
theorem sc_absent_words : FnScope ["house", "alphabet", "words", "known", "behind", "found", "word", "letter"] ["house", "alphabet"] (defScope s_absent_words) := ⟨rfl, rfl, rfl, by decide +kernel, rfl, by decide +kernel, by decide +kernel⟩
theorem ok_absent_words (T : Txt K mg ea) (c_stretches : Cl P w K mg base 1 "stretches" (spStrs K)) (c__consists_of : Cl P w K mg base 1 "_consists_of" spCons) (c__letters_behind : Cl P w K mg base 1 "_letters_behind" (spBehind K)) : ClX P w K mg base 3 "absent_words" (spAbs K ea) := by
  have nd := sc_absent_words.nd
  refine clx_of T.d_absent_words sc_absent_words (fun vs H Q E h => ?_) (fun f cdv A outer s H vs Q E hr h => ?_)
  · obtain ⟨a, L, al, rfl, _⟩ := h
    rfl
  · obtain ⟨a, L, al, rfl, hA, hl, hz, hal, e1, q⟩ := h
    refine ⟨_, (pss_cons (ps_if (PW.pt (pw_or (pt_cmpR op_eq (pv 1) pe_str (nomark _)) (pw_or1 (pt_cmpR op_ne (pe_callB (call_lenSetK (P := P) (w := w)) (by rfl) T.b_len PySem.boot_len (pa_cons (pe_callTy (call_setTxtK (P := P) (w := w) rfl) (by rfl) T.b_set (by decide +kernel) (pa_cons (pv 1) pa_nil)) pa_nil)) (pe_callB call_len_str (by rfl) T.b_len PySem.boot_len (pa_cons (pv 1) pa_nil)) (nomark _)))))
        (pss_one (ps_raise rfl (takes_of rfl rfl rfl rfl) (pmk_at T.x_OutOfRange (ok_init T) hr (by decide) (by rfl) (pa_cons pe_int pa_nil))))
        pss_nil)
      (pss_cons (ps_setLc (i := 2) (own := [("word", 6)]) (g := (gName 6)) rfl nd rfl rfl (sw_true rfl rfl rfl (by decide +kernel)) (pi_listK (K := K) (C8.pe_c c_stretches hr (by decide) (by rfl) (pa_cons (pv 0) pa_nil))) (blkOk_by (own := [("word", 6)]) (N := ["house", "alphabet", "words", "known", "behind", "found", "word", "letter"]) (sc := defScope s_absent_words) (by decide +kernel)) (fun _ _ _ _ _ => (pg_name (i := 6) nd rfl (.inl rfl))) (fun _ _ _ _ _ => pts_one (pt_val (C8.pe_c c__consists_of hr (by decide) (by rfl) (pa_cons (pv 6) (pa_cons (pv 1) pa_nil))))) (fun _ _ _ _ _ => (pv 6)))
      (pss_cons (ps_set (i := 3) nd rfl (.inr rfl) (pe_dc (own := [("word", 6)]) (g := (gName 6)) rfl nd (pi_listK (K := K) (pv 2)) (blkOk_by (own := [("word", 6)]) (N := ["house", "alphabet", "words", "known", "behind", "found", "word", "letter"]) (sc := defScope s_absent_words) (by decide +kernel)) (fun _ _ _ _ _ => (pg_name (i := 6) nd rfl (.inl rfl))) (fun _ _ _ _ _ => pts_nil) (fun _ _ _ _ _ => (pv 6)) (fun _ _ _ _ _ => pe_bl)))
      (pss_cons (ps_set (i := 4) nd rfl (.inl rfl) (C8.pe_c c__letters_behind hr (by decide) (by rfl) (pa_cons (pv 2) pa_nil)))
      (pss_cons (ps_setLc (i := 5) (own := [("letter", 7)]) (g := (gName 7)) rfl nd rfl rfl (sw_true rfl rfl rfl (by decide +kernel)) (pi_str (pv 1)) (blkOk_by (own := [("letter", 7)]) (N := ["house", "alphabet", "words", "known", "behind", "found", "word", "letter"]) (sc := defScope s_absent_words) (by decide +kernel)) (fun _ _ _ _ _ => (pg_name (i := 7) nd rfl (.inl rfl))) (fun _ _ _ _ _ => pts_one (pt_cmp (pc_dnotin (hu_of hr) (pv 7) (pv 3)))) (fun _ _ _ _ _ => (pv 7)))
      (pss_cons (ps_for (passes_of rfl) rfl (pi_listK (K := K) (pv 2)) (pg_name (i := 6) nd rfl (.inl rfl))
        (pss_one (ps_for (passes_of rfl) rfl (pi_listK (K := K) (pe_dget2 (hu_of hr) (pv 4) (pe_slice sl_str (pv 6) (po_some pe_int) po_none) (pe_lst pa_nil) (by constructor <;> rfl))) (pg_name (i := 7) nd rfl (.inl rfl))
            (pss_one (ps_if (pt_cmp (pc_dnotin (hu_of hr) (pe_op op_add_str (pv 6) (pv 7)) (pv 3)))
                (pss_one (ps_expr (pe_bm PySem.F.plainAttrs_list PySem.F.slot_list_append PySem.F.type_list_append mt_append (pv 5) (pa_cons (pe_op op_add_str (pv 6) (pv 7)) pa_nil))))
                pss_nil)))))
      (pss_one (ps_ret (pe_sortLenK (K := K) hr.units (by rfl) T.b_sorted (by rfl) T.b_len (pa_cons (pe_callB (cr_sortDK (K := K) hr.units) (by rfl) T.b_sorted (by decide +kernel) (pa_cons (pv 5) pa_nil)) pa_nil)))))))))), ?_⟩
    have small : Small 0 := small_of (by decide) (by decide)
    refine ⟨_, rfl, rfl, _, rfl, ?_⟩
    by_cases c0 : al = Str.empty
    · have e0 : V.str al = V.str (("" : Str)) := by rw [c0]; rfl
      rw [decide_eq_true e0]
      exact iteT (mk_at T.x_OutOfRange.o T.x_OutOfRange.no small (e1 (.inl c0)))
    have e0 : ¬ V.str al = V.str (("" : Str)) := fun e => c0 (V.str.inj e)
    rw [decide_eq_false e0]
    refine iteF ⟨_, rfl, al, rfl, by omega, fun p S1 np hS => ?_⟩
    have s0 := same_new (o := SetK P w p S1 (nDist (signs al).reverse)) np
    refine ⟨p, S1, _, rfl, .inl upd_same, _, rfl, al, rfl, Nat.le_trans hal (by decide), rfl, _, rfl, ?_⟩
    have sl : (signs al).reverse.length = al.length := by
      rw [List.length_reverse]
      unfold signs
      rw [List.length_map]
      rfl
    by_cases c1 : (TL.tl al).Nodup
    case neg =>
      have n1 : nDist (signs al).reverse ≠ al.length := fun e => c1 ((sig_nd al).mp ((nDist_full _).mp (by rw [sl]; exact e)))
      have e2 : ¬ V.int (nDist (signs al).reverse : Int) = V.int (al.length : Int) := fun e => n1 (by have := V.int.inj e; omega)
      rw [decide_eq_false e2]
      exact iteT (mk_at T.x_OutOfRange.o T.x_OutOfRange.no small (Errs.same s0 (e1 (.inr c1))))
    have n1 : nDist (signs al).reverse = al.length := by rw [← sl]; exact (nDist_full _).mpr ((sig_nd al).mpr c1)
    rw [n1, decide_eq_true rfl]
    refine iteF ?_
    have q := q c0 c1
    rw [n1] at s0
    generalize upd H p (SetK P w p S1 al.length) = H1 at s0 ⊢
    -- the words of these letters
    refine ⟨_, rfl, a, L, rfl, hA.same s0, hl, hz, fun pl H2 l s2 npl at2 hS2 => ?_⟩
    have Oe : ∀ z, z ∈ l ↔ z ∈ (occ (L.map (·.2))).map (·.1) := hS2.mem
    have zl : ∀ z ∈ l, z.length ≤ 20 := fun z hm => occ_text (fun q hq => by obtain ⟨y, hy, rfl⟩ := List.mem_map.mp hq; exact hz y hy) ((Oe z).mp hm)
    have zp : ∀ z ∈ l, 0 < z.length := fun z hm => occ_pos ((Oe z).mp hm)
    have ll : l.length ≤ 3200 := by
      have h1 := List.Nodup.length_le_of_subset hS2.nd (fun z hz => (Oe z).mp hz)
      have h2 := occS_len (L.map (·.2)) fun q hq => by obtain ⟨y, hy, rfl⟩ := List.mem_map.mp hq; exact hz y hy
      rw [List.length_map] at h1 h2
      omega
    refine ⟨pl, rfl, ⟨_, SqL.of at2⟩, fun dw ndw => ?_⟩
    have get : ∀ {W : List Str} {i : Nat} {x : V}, (W.map V.str)[i]? = some x → ∃ z, W[i]? = some z ∧ z ∈ W ∧ x = .str z := fun {W i x} hx => by
      rw [List.getElem?_map] at hx
      cases e : W[i]? with
      | none => rw [e] at hx; cases hx
      | some z => rw [e] at hx; exact ⟨z, rfl, List.mem_of_getElem? e, (Option.some.inj hx).symm⟩
    refine lc_w (walk_list (xs := l.map V.str)) ndw (by rw [List.length_map]; omega) (fun H' e => SqL.of (e _ _ at2)) (fun i acc _ => acc = ((l.take i).filter fun z => decide (okA al z)).map V.str) (fun _ _ => rfl) (fun _ _ _ _ _ _ _ r => r) (fun i H x H' y => by rw [y.1]; exact Same.refl _) (fun i x acc Ha Hb Qn Qf hi sm y r at_ kn kf => ?_) (fun acc H3 s3 at3 _ r => ?_)
    · obtain ⟨rfl, hx⟩ := y
      obtain ⟨z, hz2, zm, rfl⟩ := get hx
      refine ⟨rfl, _, rfl, _, rfl, z, al, rfl, Nat.le_trans (zl z zm) (by decide), fun H' sH => ⟨_, rfl, ?_⟩⟩
      by_cases c : okA al z
      · rw [decide_eq_true c]
        refine iteT ⟨_, rfl, kn _ _ sH ?_⟩
        rw [r, take_snoc hz2, List.filter_append, List.filter_cons_of_pos (p := fun z : Str => decide (okA al z)) (decide_eq_true c), List.filter_nil, List.map_append]
        rfl
      · rw [decide_eq_false c]
        refine iteF (kf _ sH ?_)
        rw [r, take_snoc hz2, List.filter_append, List.filter_cons_of_neg (p := fun z : Str => decide (okA al z)) (by rw [decide_eq_false c]; decide), List.filter_nil, List.append_nil]
    rw [List.take_of_length_le (by rw [List.length_map]; exact Nat.le_refl _)] at r
    subst r
    have wnd : (l.filter fun z => decide (okA al z)).Nodup := hS2.nd.filter _
    have wm : ∀ z, z ∈ (l.filter fun z => decide (okA al z)) ↔ z ∈ l ∧ okA al z := fun z => by rw [List.mem_filter, decide_eq_true_iff]
    have wlen : (l.filter fun z => decide (okA al z)).length ≤ 3200 := Nat.le_trans (List.length_filter_le _ _) ll
    generalize (l.filter fun z => decide (okA al z)) = W at at3 wnd wm wlen
    have wz : ∀ z ∈ W, 0 < z.length ∧ z.length ≤ 20 := fun z m => ⟨zp z ((wm z).mp m).1, zl z ((wm z).mp m).1⟩
    obtain ⟨fnd, fm⟩ := absF_is (O := l) (W := W) (al := al) c1 wnd wm zp
    -- the table of them
    refine ⟨_, rfl, dw, rfl, ⟨_, SqL.of at3⟩, fun dk ndk => ?_⟩
    refine wkx (walk_list (K := K) (a := dw) (xs := W.map V.str)) (fun i H' => Same H3 H' ∧ ∃ kvs, H' dk = some (.dK kvs) ∧ Kn kvs (W.take i) ∧ kvs.length ≤ i) ⟨same_new ndk, [], upd_same, Kn.nil, Nat.le_refl _⟩ (fun i H' _ h => SqL.of (h.1 _ _ at3)) (fun i x Ha Hb hi hW y => ?_) (fun H4 hW => ?_)
    · obtain ⟨sm, kvs, atk, kn, kl⟩ := hW
      obtain ⟨rfl, hx⟩ := y
      obtain ⟨z, hz2, zm, rfl⟩ := get hx
      rw [List.length_map] at hi
      refine ⟨rfl, _, rfl, kvs, .inr z, rfl, atk, Nat.lt_of_le_of_lt (by omega : kvs.length ≤ 3200) (by decide), same_mut sm ndk, _, upd_same, ?_, ?_⟩
      · rw [take_snoc hz2]
        exact kn.put z
      · have := length_putK kvs (.inr z) (.bl true)
        omega
    obtain ⟨s4, kvs, at4k, kn, _⟩ := hW
    rw [List.take_of_length_le (by rw [List.length_map]; exact Nat.le_refl _)] at kn
    have at4w := s4 _ _ at3
    -- the letters behind them
    refine ⟨_, rfl, dw, W, rfl, SqL.of at4w, by omega, fun z m => ⟨(wz z m).1, by have := (wz z m).2; omega⟩, fun dB TB H5 hB oB => ?_⟩
    have at5w := hB.sm _ _ at4w
    have at5k := hB.sm _ _ at4k
    have get5 := vd_get hB oB
    have at5B := hB.at_
    -- the letters that are missing
    refine ⟨_, rfl, al, rfl, fun fl nfl => ?_⟩
    refine lc_w (walk_str (z := al)) nfl (by show al.cps.size ≤ 100000; exact Nat.le_trans hal (by decide)) (fun _ _ => trivial) (fun i acc _ => acc = ((((TL.tl al).take i).filter fun c => !decide (sg c ∈ W)).map sg).map V.str) (fun _ _ => rfl) (fun _ _ _ _ _ _ _ r => r) (fun i H x H' y => by rw [y.1]; exact Same.refl _) (fun i x acc Ha Hb Qn Qf hi sm y r at_ kn2 kf => ?_) (fun acc H6 s6 at6 _ r => ?_)
    · obtain ⟨rfl, c, hc, rfl⟩ := y
      have hc2 : (TL.tl al)[i]? = some c := by rw [← hc]; exact Array.getElem?_toList ..
      have dg := DGet.k (k := .inr (sg c)) (sm _ _ at5k)
      rw [kn] at dg
      by_cases c2 : sg c ∈ W
      · rw [if_pos c2] at dg
        refine ⟨rfl, _, rfl, _, rfl, dk, _, rfl, dg, _, rfl, iteF (kf _ (Same.refl _) ?_)⟩
        rw [r, take_snoc hc2, List.filter_append, List.filter_cons_of_neg (p := fun c : Nat => !decide (sg c ∈ W)) (by rw [decide_eq_true c2]; decide), List.filter_nil, List.append_nil]
      · rw [if_neg c2] at dg
        refine ⟨rfl, _, rfl, _, rfl, dk, _, rfl, dg, _, rfl, iteT ⟨_, rfl, kn2 _ _ (Same.refl _) ?_⟩⟩
        rw [r, take_snoc hc2, List.filter_append, List.filter_cons_of_pos (p := fun c : Nat => !decide (sg c ∈ W)) (by rw [decide_eq_false c2]; rfl), List.filter_nil, List.map_append, List.map_append]
        rfl
    rw [List.take_of_length_le (by show al.cps.toList.length ≤ al.cps.size; exact Nat.le_of_eq (Array.length_toList ..))] at r
    subst r
    -- the words that are missing
    have fl_len : ∀ i, (((((TL.tl al).filter fun c => !decide (sg c ∈ W)).map sg)) ++ (W.take i).flatMap fun w => (mkW w (behL W (rst w))).filter fun z => !decide (z ∈ W)).length ≤ 100 + 3200 * 3200 := fun i => by
      have h1 := List.length_filter_le (fun c => !decide (sg c ∈ W)) (TL.tl al)
      have h2 := flat_len (m := 3200) (l := W.take i) (f := fun w => (mkW w (behL W (rst w))).filter fun z => !decide (z ∈ W)) fun w _ => by
        refine Nat.le_trans (List.length_filter_le _ _) ?_
        unfold mkW
        rw [List.length_map]
        exact Nat.le_trans (behL_len _ _) wlen
      have h3 : (TL.tl al).length = al.length := rfl
      have h4 : (W.take i).length ≤ 3200 := by rw [List.length_take]; omega
      have h5 := Nat.mul_le_mul_right 3200 h4
      rw [List.length_append, List.length_map]
      omega
    refine ⟨_, rfl, dw, rfl, ⟨_, SqL.of (s6 _ _ at5w)⟩, ?_⟩
    refine for_it (walk_list (K := K) (a := dw) (xs := W.map V.str)) (fun i σ H' => Same H5 H' ∧ H' fl = some (.lst (((((TL.tl al).filter fun c => !decide (sg c ∈ W)).map sg) ++ (W.take i).flatMap fun w => (mkW w (behL W (rst w))).filter fun z => !decide (z ∈ W)).map V.str)) ∧
        ∃ y6 y7 : Option V, σ = [some (.ref a), some (.str al), some (.ref dw), some (.ref dk), some (.ref dB), some (.ref fl), y6, y7])
      ⟨s6, by simpa using at6, none, none, rfl⟩ (fun i σ H' _ hW => SqL.of (hW.1 _ _ at5w)) (fun i x σ Ha Hb hi hW y => ?_) (fun σ H7 hW => ?_)
    · obtain ⟨sm, atf, y6, y7, rfl⟩ := hW
      obtain ⟨rfl, hx⟩ := y
      obtain ⟨wd, hw, wmem, rfl⟩ := get hx
      have wl := (wz wd wmem).2
      have ws : wd.length ≤ sizeLine := Nat.le_trans wl (by decide)
      have tk : (W.take (i + 1)).flatMap (fun w => (mkW w (behL W (rst w))).filter fun z => !decide (z ∈ W)) = (W.take i).flatMap (fun w => (mkW w (behL W (rst w))).filter fun z => !decide (z ∈ W)) ++ (mkW wd (behL W (rst wd))).filter fun z => !decide (z ∈ W) := by
        rw [take_snoc hw, List.flatMap_append]
        simp
      have bound := fl_len (i + 1)
      rw [tk, ← List.append_assoc] at bound ⊢
      generalize ((((TL.tl al).filter fun c => !decide (sg c ∈ W)).map sg)) ++ (W.take i).flatMap (fun w => (mkW w (behL W (rst w))).filter fun z => !decide (z ∈ W)) = F at atf bound ⊢
      have getB : ∀ (l0 : Addr), Hb l0 = none → ∃ (o : Option V) (r : Addr), DGet (upd Hb l0 (.lst [])) dB (.str (rst wd)) o ∧ o.getD (.ref l0) = .ref r ∧ (upd Hb l0 (.lst [])) r = some (.lst ((behL W (rst wd)).map fun c => V.str (sg c))) ∧ r ≠ fl := fun l0 nl0 => by
        have sl := same_new (o := .lst []) nl0
        have dg := DGet.k (k := .inr (rst wd)) (sl _ _ (sm _ _ at5B))
        rcases get5 (rst wd) with ⟨r, hv, hr⟩ | ⟨hv, e⟩
        · rw [hv] at dg
          exact ⟨_, r, dg, rfl, sl _ _ (sm _ _ hr), fun e => by rw [e, nfl] at hr; cases hr⟩
        · rw [hv] at dg
          exact ⟨_, l0, dg, rfl, by rw [e]; exact upd_same, fun e2 => by rw [e2, atf] at nl0; cases nl0⟩
      refine ⟨_, rfl, dB, rfl, .inl ⟨_, .inl (sm _ _ at5B)⟩, _, rfl, _, rfl, wd, rfl, ws, Nat.zero_le _, fun l0 nl0 => ?_⟩
      obtain ⟨o, r, dg, eo, hr, rf⟩ := getB l0 nl0
      refine ⟨o, dg, ?_⟩
      rw [eo]
      have smL := same_new (o := .lst []) nl0
      have sm2 := sm.trans smL
      have atf2 := smL _ _ atf
      have nr0 : ∀ {H' : Hp}, Same H5 H' → True := fun _ => trivial
      generalize upd Hb l0 (.lst []) = Hc at dg hr smL sm2 atf2 ⊢
      refine ⟨r, rfl, ⟨_, SqL.of hr⟩, ?_⟩
      refine for_it (walk_list (K := K) (a := r) (xs := (behL W (rst wd)).map fun c => V.str (sg c))) (fun j σ H' => Same H5 H' ∧ H' r = some (.lst ((behL W (rst wd)).map fun c => V.str (sg c))) ∧ H' fl = some (.lst ((F ++ (mkW wd ((behL W (rst wd)).take j)).filter fun z => !decide (z ∈ W)).map V.str)) ∧
          ∃ y7 : Option V, σ = [some (.ref a), some (.str al), some (.ref dw), some (.ref dk), some (.ref dB), some (.ref fl), some (.str wd), y7])
        ⟨sm2, hr, by simpa [mkW] using atf2, _, rfl⟩ (fun j σ H' _ hW => SqL.of hW.2.1) (fun j x σ Hd He hj hW y => ?_) (fun σ H8 hW => ?_)
      · obtain ⟨sm, hr, atf, y7, rfl⟩ := hW
        obtain ⟨rfl, hx⟩ := y
        rw [List.getElem?_map] at hx
        obtain ⟨c, hc, rfl⟩ : ∃ c, (behL W (rst wd))[j]? = some c ∧ x = .str (sg c) := by
          cases e : (behL W (rst wd))[j]? with
          | none => rw [e] at hx; cases hx
          | some c => rw [e] at hx; exact ⟨c, rfl, (Option.some.inj hx).symm⟩
        have tk2 : mkW wd ((behL W (rst wd)).take (j + 1)) = mkW wd ((behL W (rst wd)).take j) ++ [wd ++ sg c] := by
          unfold mkW
          rw [take_snoc hc, List.map_append]
          rfl
        have dg := DGet.k (k := .inr (wd ++ sg c)) (sm _ _ at5k)
        rw [kn] at dg
        have al1 : wd.length + (sg c).length ≤ sizeLine := Nat.le_trans (by show wd.length + 1 ≤ 100; omega) (by decide)
        by_cases c2 : wd ++ sg c ∈ W
        · rw [if_pos c2] at dg
          refine ⟨_, rfl, _, rfl, _, _, rfl, rfl, al1, _, rfl, dk, _, rfl, dg, _, rfl, iteF ⟨sm, hr, ?_, _, rfl⟩⟩
          rw [tk2, List.filter_append, List.filter_cons_of_neg (p := fun z : Str => !decide (z ∈ W)) (by rw [decide_eq_true c2]; decide), List.filter_nil, List.append_nil]
          exact atf
        · rw [if_neg c2] at dg
          refine ⟨_, rfl, _, rfl, _, _, rfl, rfl, al1, _, rfl, dk, _, rfl, dg, _, rfl, iteT ?_⟩
          refine ⟨_, rfl, .inl ⟨rfl, _, SqL.of atf⟩, _, rfl, _, rfl, _, _, rfl, rfl, al1, fl, _, _, rfl, rfl, atf, ?_, ?_⟩
          · rw [List.length_map, List.length_append]
            have h1 : ((mkW wd ((behL W (rst wd)).take j)).filter fun z => !decide (z ∈ W)).length ≤ 3200 := by
              refine Nat.le_trans (List.length_filter_le _ _) ?_
              unfold mkW
              rw [List.length_map, List.length_take]
              have := behL_len W (rst wd)
              omega
            have h2 : F.length ≤ 100 + 3200 * 3200 := by
              rw [List.length_append] at bound
              omega
            exact Nat.lt_of_le_of_lt (by omega : _ ≤ 100 + 3200 * 3200 + 3200) (by decide)
          · refine ⟨same_mut sm nfl, by rw [upd_ne rf]; exact hr, ?_, _, rfl⟩
            rw [upd_same, tk2, List.filter_append, List.filter_cons_of_pos (p := fun z : Str => !decide (z ∈ W)) (by rw [decide_eq_false c2]; rfl), List.filter_nil, ← List.append_assoc, List.map_append (l₂ := [wd ++ sg c])]
            rfl
      · obtain ⟨sm, hr, atf, y7, rfl⟩ := hW
        rw [List.take_of_length_le (by rw [List.length_map]; exact Nat.le_refl _)] at atf
        exact ⟨sm, atf, _, _, rfl⟩
    · obtain ⟨s7, atf, y6, y7, rfl⟩ := hW
      rw [List.take_of_length_le (by rw [List.length_map]; exact Nat.le_refl _)] at atf
      have atf : H7 fl = some (.lst ((absF al W).map V.str)) := atf
      refine ⟨_, rfl, Str, PyData.str, fl, (absF al W).map fun z => (V.str z, z), rfl, SqL.of (by rw [List.map_map]; exact atf), fun z hz => ?_, PySem.W.AllAlike.of fun b b' => by simp [PySem.W.alike], PySem.W.Sortable.others fun b => ⟨by simp, fun xs => by simp⟩, fun z hz => by show 0 ≤ 60; decide, fun p1 np1 => ?_⟩
      · obtain ⟨y, _, rfl⟩ := List.mem_map.mp hz
        exact .str y
      rw [sortZ]
      have st := sorted2 fnd
      have s8 := same_new (o := .lst (((absF al W).mergeSort (PySem.W.dataLe false PyData.str)).map V.str)) np1
      have len : ∀ z ∈ absF al W, z.length ≤ 100 := fun z hz => by
        obtain ⟨_, _, h⟩ := (fm z).mp hz
        rcases h with h | ⟨h, hd, _⟩
        · omega
        · have := zl _ hd
          rw [dl_len] at this
          omega
      refine ⟨p1, _, rfl, SqL.of upd_same, fun z hz => ?_, fun p2 np2 => ?_⟩
      · exact Nat.le_trans (len z ((List.mergeSort_perm _ _).mem_iff.mp hz)) (by decide)
      have sT : Same H (upd H7 p1 (.lst (((absF al W).mergeSort (PySem.W.dataLe false PyData.str)).map V.str))) := s0.trans (s2.trans (s3.trans (s4.trans (hB.sm.trans (s7.trans s8)))))
      refine q p2 _ _ (sT.trans (same_new np2)) (sT.free np2) upd_same (st.absL fun z => (fm z).trans (MinA.cong Oe)) fun z hz => len z ((st.mem z).mp hz)
end

end SH
set_option Elab.async false
set_option linter.all false
set_option maxRecDepth 100000
set_option maxHeartbeats 4000000
namespace SH
open PySem PySem.Spec PyProof.Rows L2
section
variable {P : Program} {w : World} {K : PySem.W.Frag} {mg : Str → Option Value} {base : Heap} {ea : Ea}
/-- letters that are none or not different are refused -/
def spRef (K : PySem.W.Frag) : Sp := fun vs H Q _ => ∃ (a : Addr) (L : PL) (al : Str), vs = [.ref a, .str al] ∧ HsAt K H a L ∧ L.length ≤ 8 ∧ (∀ q ∈ L, q.2.2.length ≤ 20) ∧ al.length ≤ 100 ∧ (al = Str.empty ∨ ¬ (TL.tl al).Nodup) ∧ ∀ H', Same H H' → Q (.bl true) H'
theorem sc__law_refused : FnScope ["house", "alphabet", "e"] ["house", "alphabet"] (defScope s__law_refused) := ⟨rfl, rfl, rfl, by decide +kernel, rfl, by decide +kernel, by decide +kernel⟩
theorem ok__law_refused (T : Txt K mg ea) (c_absent_words : ClX P w K mg base 3 "absent_words" (spAbs K ea)) : Cl P w K mg base 4 "_law_refused" (spRef K) := by
  have nd := sc__law_refused.nd
  refine cl_of T.d__law_refused sc__law_refused (fun vs H Q E h => ?_) (fun f cdv A outer s H vs Q E hr h => ?_)
  · obtain ⟨a, L, al, rfl, _⟩ := h
    rfl
  · obtain ⟨a, L, al, rfl, hA, hl, hz, hal, bad, q⟩ := h
    refine ⟨_, (pss_cons (ps_try_hds rfl rfl takes0 (fun W pn xe tk _ => (pss_one (ps_expr (pe_cx c_absent_words hr (by decide) (fun σ => passAt tk σ) (by rfl) (pa_cons (pv 0) (pa_cons (pv 1) pa_nil))))))
        (HdsN.named ⟨rfl, by decide, Or.inl T.x_OutOfRange.g⟩ nd (i := 2) rfl rfl (fun a o c d l hz hf => (pss_one (ps_ret (pe_cmpR op_eq (pe_xf T.x_OutOfRange.f T.x_OutOfRange.no hz hf (pv 2)) pe_int (nomark _)))))
        HdsN.nil))
      (pss_one (ps_ret pe_bl))), ?_⟩
    refine ⟨_, rfl, _, rfl, a, L, al, rfl, hA, hl, hz, hal, fun _ d H2 s2 nd2 e3 => ?_, fun n0 n1 => (bad.elim n0 fun b => b n1).elim⟩
    refine wHds_take T.e_OutOfRange_OutOfRange fun a0 na => ?_
    refine ⟨_, rfl, rfl, rfl, d, _, _, rfl, e3, rfl, ?_⟩
    refine ⟨rfl, ?_⟩
    rw [decide_eq_true rfl]
    exact q _ s2
end

end SH
set_option Elab.async false
set_option linter.all false
set_option maxRecDepth 100000
set_option maxHeartbeats 4000000
namespace SH
open PySem PySem.Spec PyProof.Rows L2
section
variable {P : Program} {w : World} {K : PySem.W.Frag} {mg : Str → Option Value} {base : Heap} {ea : Ea}
/-- up to five different letters -/
def spAlpha (K : PySem.W.Frag) : Sp := fun vs H Q _ => ∃ (a : Addr) (ns : List Int) (k : Int), vs = [.ref a, .int k] ∧ SqL K H a (ns.map V.int) ∧ Dr ns ∧ 0 ≤ k ∧ k < 10000 ∧
  ∀ (z : Str), IsLet z → (TL.tl z).Nodup → z ≠ ((("" : Str))) → z.length ≤ 5 → Q (.str z) H
theorem sc__law_alphabet : FnScope ["draws", "k", "letters", "out", "j", "letter"] ["draws", "k"] (defScope s__law_alphabet) := ⟨rfl, rfl, rfl, by decide +kernel, rfl, by decide +kernel, by decide +kernel⟩
theorem ok__law_alphabet (T : Txt K mg ea) (c__law_at : Cl P w K mg base 1 "_law_at" (spDraw K)) : Cl P w K mg base 2 "_law_alphabet" (spAlpha K) := by
  have nd := sc__law_alphabet.nd
  refine cl_of T.d__law_alphabet sc__law_alphabet (fun vs H Q E h => ?_) (fun f cdv A outer s H vs Q E hr h => ?_)
  · obtain ⟨a, ns, k, rfl, _⟩ := h
    rfl
  · obtain ⟨a, ns, k, rfl, hS, hD, k0, k1, q⟩ := h
    refine ⟨_, (pss_cons (ps_set (i := 2) nd rfl (.inl rfl) pe_str)
      (pss_cons (ps_set (i := 3) nd rfl (.inl rfl) pe_str)
      (pss_cons (ps_for PassesOwn.never rfl (pi_range1 rfl T.b_range (pa_cons (pe_op op_add pe_int (C8.pe_c c__law_at hr (by decide) (by rfl) (pa_cons (pv 0) (pa_cons (pv 1) (pa_cons pe_int pa_nil))))) pa_nil)) (pg_name (i := 4) nd rfl (.inl rfl))
        (pss_cons (ps_set (i := 5) nd rfl (.inl rfl) (pe_ix ix_str (pv 2) (C8.pe_c c__law_at hr (by decide) (by rfl) (pa_cons (pv 0) (pa_cons (pe_op op_add (pe_op op_add (pv 1) pe_int) (pv 4)) (pa_cons pe_int pa_nil)))) (fun _ _ => rfl)))
          (pss_one (ps_if (pt_cmpR op_notIn_sign (pv 5) (pv 3) rfl)
            (pss_one (ps_set (i := 3) nd rfl (.inl rfl) (pe_op op_add_str (pv 3) (pv 5))))
            pss_nil))))
      (pss_one (ps_ret (pv 3)))))), ?_⟩
    repeat (first | refine ⟨_, rfl, ?_⟩ | refine ⟨rfl, ?_⟩ | refine ⟨_, _, rfl, rfl, ?_⟩ | refine ⟨_, _, _, rfl, rfl, ?_⟩)
    refine ⟨a, ns, k, 5, rfl, hS, hD, by omega, by omega, by omega, fun r r0 r1 => ?_⟩
    refine ⟨_, _, rfl, rfl, _, rfl, by omega, by omega, ?_⟩
    refine for_range (lo := 0) (n := (1 + r).toNat) (fun i σ H' => H' = H ∧ ∃ (z : Str) (y4 y5 : Option V), IsLet z ∧ (TL.tl z).Nodup ∧ z.length ≤ i ∧ (0 < i → 0 < z.length) ∧ σ = [some (.ref a), some (.int k), some (.str ((("ab ~Xcz" : Str)))), some (.str z), y4, y5])
      ⟨rfl, (("" : Str)), none, none, by decide, List.nodup_nil, Nat.le_refl _, fun h => absurd h (Nat.lt_irrefl _), rfl⟩ (fun i σ H' hi hW => ?_) (fun σ H' hW => ?_)
    · obtain ⟨rfl, z, y4, y5, hz, nz, zl, zp, rfl⟩ := hW
      repeat (first | refine ⟨_, rfl, ?_⟩ | refine ⟨rfl, ?_⟩ | refine ⟨_, _, rfl, rfl, ?_⟩ | refine ⟨_, _, _, rfl, rfl, ?_⟩)
      refine ⟨a, ns, _, 7, rfl, hS, hD, by omega, by omega, by omega, fun g g0 g1 => ?_⟩
      refine ixs_let (z := (("ab ~Xcz" : Str))) (by decide +kernel) (by decide +kernel) g0 (by show g < 7; exact g1) fun c hc => ?_
      refine ⟨_, rfl, _, rfl, c, z, rfl, rfl, _, rfl, ?_⟩
      have zn : (z ++ sg c).length = z.length + 1 := sg_len z c
      by_cases m : c ∈ z.cps.toList
      · rw [decide_eq_true m]
        refine iteF ⟨rfl, z, _, _, hz, nz, by omega, fun _ => ?_, rfl⟩
        show 0 < z.cps.size
        rw [← Array.length_toList]
        exact List.length_pos_of_mem m
      · rw [decide_eq_false m]
        refine iteT ⟨_, rfl, _, rfl, _, _, rfl, rfl, ?_, rfl, z ++ sg c, _, _, let_app hz (let_one hc), ?_, by omega, fun _ => by omega, rfl⟩
        · exact Nat.le_trans (by show z.length + 1 ≤ 100; omega) (by decide)
        · rw [app_tl, sg_tl, List.nodup_append]
          exact ⟨nz, by simp, fun x hx y hy e => m (by rw [List.mem_singleton.mp hy] at e; rw [← e]; exact hx)⟩
    · obtain ⟨rfl, z, y4, y5, hz, nz, zl, zp, rfl⟩ := hW
      have := zp (by omega)
      exact ⟨_, rfl, q z hz nz (fun e => by rw [e] at this; exact absurd this (by decide)) (by omega)⟩
end

end SH
set_option Elab.async false
set_option linter.all false
set_option maxRecDepth 100000
set_option maxHeartbeats 4000000
namespace SH
open PySem PySem.Spec PyProof.Rows L2
section
variable {P : Program} {w : World} {K : PySem.W.Frag} {mg : Str → Option Value} {base : Heap} {ea : Ea}
/-- the least absent words, gone through: a new list -/
def spDueA (K : PySem.W.Frag) : Sp := fun vs H Q _ => ∃ (D : Addr) (W : WT) (H0 : Hp) (h : List (Int × Str)) (al : Str), vs = [.ref D, .str al] ∧ Wd H0 H D W ∧ WdOf W (occ h) ∧ LetAll h ∧ IsLet al ∧ (TL.tl al).Nodup ∧ al.length ≤ 100 ∧ W.length ≤ 20000 ∧ (∀ z ∈ (occ h).map (·.1), z.length ≤ 100) ∧
  ∀ (p : Addr) (H' : Hp) (l : List Str), Same H H' → H p = none → H' p = some (.lst (l.map V.str)) → AbsL ((occ h).map (·.1)) al l → Q (.ref p) H'
theorem wkeys (W : WT) : ((wkvs W).map fun kv => kV kv.1) = (W.map (·.1)).map V.str := by
  unfold wkvs
  rw [List.map_map, List.map_map]
  rfl
theorem occ_let {h : List (Int × Str)} (lets : LetAll h) {z : Str} (hm : z ∈ (occ h).map (·.1)) : IsLet z := by
  obtain ⟨o, ho, rfl⟩ := List.mem_map.mp hm
  obtain ⟨q, hq, ho⟩ := List.mem_flatMap.mp ho
  obtain ⟨s, hs, ho⟩ := List.mem_flatMap.mp ho
  obtain ⟨k, hk, rfl⟩ := List.mem_map.mp ho
  exact cut_let (lets q hq) _ _
theorem sc__law_due : FnScope ["found", "alphabet", "out", "word", "letter", "new", "strange", "one", "size"] ["found", "alphabet"] (defScope s__law_due) := ⟨rfl, rfl, rfl, by decide +kernel, rfl, by decide +kernel, by decide +kernel⟩
theorem ok__law_due (T : Txt K mg ea) : Cl P w K mg base 1 "_law_due" (spDueA K) := by
  have nd := sc__law_due.nd
  refine cl_of T.d__law_due sc__law_due (fun vs H Q E h => ?_) (fun f cdv A outer s H vs Q E hr h => ?_)
  · obtain ⟨D, W, H0, h, al, rfl, _⟩ := h
    rfl
  · obtain ⟨D, W, H0, hh, al, rfl, hW, hO, lets, hal, aln, all, wl, oz, q⟩ := h
    refine ⟨_, (pss_cons (ps_set (i := 2) nd rfl (.inl rfl) (pe_lst pa_nil))
      (pss_cons (ps_for PassesOwn.never rfl (pi_listK (K := K) (pe_op op_cat (pe_lst (pa_cons pe_str pa_nil)) (pe_callB (cr_sortDK (K := K) hr.units) (by rfl) T.b_sorted (by decide +kernel) (pa_cons (pe_callTy (call_list_dK rfl) (by rfl) T.b_list (by decide +kernel) (pa_cons (pv 0) pa_nil)) pa_nil)))) (pg_name (i := 3) nd rfl (.inl rfl))
        (pss_one (ps_for PassesOwn.never rfl (pi_str (pv 1)) (pg_name (i := 4) nd rfl (.inl rfl))
            (pss_cons (ps_set (i := 5) nd rfl (.inl rfl) (pe_op op_add_str (pv 3) (pv 4)))
              (pss_cons (ps_setLc (i := 6) (own := [("one", 7)]) (g := (gName 7)) rfl nd rfl rfl (sw_true rfl rfl rfl (by decide +kernel)) (pi_str (pv 3)) (blkOk_by (own := [("one", 7)]) (N := ["found", "alphabet", "out", "word", "letter", "new", "strange", "one", "size"]) (sc := defScope s__law_due) (by decide +kernel)) (fun _ _ _ _ _ => (pg_name (i := 7) nd rfl (.inl rfl))) (fun _ _ _ _ _ => pts_one (pt_cmpR op_notIn_sign (pv 7) (pv 1) rfl)) (fun _ _ _ _ _ => (pv 7)))
              (pss_one (ps_if (PW.pt (pw_and (pt_cmpR (op_eqDK (K := K) hr.units) (pv 6) (pe_lst pa_nil) (nomark _)) (pw_and (pt_cmp (pc_dnotin (hu_of hr) (pv 5) (pv 0))) (pw_and1 (PW.pt (pw_or (pt_cmpR op_eq (pv 3) pe_str (nomark _)) (pw_or1 (pt_cmp (pc_din (hu_of hr) (pe_slice sl_str (pv 5) (po_some pe_int) po_none) (pv 0))))))))))
                (pss_one (ps_expr (pe_bm PySem.F.plainAttrs_list PySem.F.slot_list_append PySem.F.type_list_append mt_append (pv 2) (pa_cons (pe_tup (pa_cons (pe_callB call_len_str (by rfl) T.b_len PySem.boot_len (pa_cons (pv 5) pa_nil)) (pa_cons (pv 5) pa_nil))) pa_nil))))
                pss_nil)))))))
      (pss_one (ps_ret (pe_lc (own := [("size", 8), ("word", 3)]) (g := (gTup K 2 (gCons (gName 8) (gCons (gName 3) gNil)))) rfl nd (pi_listK (K := K) (pe_callB (cr_sortDK (K := K) hr.units) (by rfl) T.b_sorted (by decide +kernel) (pa_cons (pv 2) pa_nil))) (blkOk_by (own := [("size", 8), ("word", 3)]) (N := ["found", "alphabet", "out", "word", "letter", "new", "strange", "one", "size"]) (sc := defScope s__law_due) (by decide +kernel)) (fun _ _ _ _ _ => (pg_tup rfl (pgs_cons (pg_name (i := 8) nd rfl (.inl rfl)) (pgs_cons (pg_name (i := 3) nd rfl (.inl rfl)) pgs_nil)))) (fun _ _ _ _ _ => pts_nil) (fun _ _ _ _ _ => (pv 3))))))), ?_⟩
    have sz2 : 2 ≤ sizeLine := by decide
    have wat := hW.at_
    have wm := hO.mem
    have wnd := hW.kd
    -- out
    refine ⟨Nat.zero_le _, fun ol nol => ?_⟩
    have s0 := same_new (o := .lst []) nol
    have at0 : (upd H ol (.lst [])) ol = some (.lst []) := upd_same
    generalize upd H ol (.lst []) = H1 at s0 at0 ⊢
    -- the words
    refine ⟨by decide, fun l1 nl1 => ?_⟩
    have s1 := same_new (o := .lst [V.str ((("" : Str)))]) nl1
    have at1 : (upd H1 l1 (.lst [V.str ((("" : Str)))])) l1 = some (.lst [V.str ((("" : Str)))]) := upd_same
    generalize upd H1 l1 (.lst [V.str ((("" : Str)))]) = H2 at s1 at1 ⊢
    refine ⟨_, rfl, D, _, rfl, s1 _ _ (s0 _ _ wat), fun l2 nl2 => ?_⟩
    rw [wkeys]
    have get2 : ∀ u : Str, valV (wkvs W) (.inr u) = none ↔ u ∉ (occ hh).map (·.1) := fun u => by
      constructor
      · intro hv m
        obtain ⟨e, he, ee⟩ := List.mem_map.mp ((wm u).mpr m)
        rw [← ee, hW.val_of he] at hv
        cases hv
      · exact fun n => wkvs_none fun m => n ((wm u).mp m)
    have s2 := same_new (o := .lst ((W.map (·.1)).map V.str)) nl2
    have at2 : (upd H2 l2 (.lst ((W.map (·.1)).map V.str))) l2 = some (.lst ((W.map (·.1)).map V.str)) := upd_same
    generalize upd H2 l2 (.lst ((W.map (·.1)).map V.str)) = H3 at s2 at2 ⊢
    generalize eKS : W.map (·.1) = KS at at2 wm wnd
    have kl : KS.length ≤ 20000 := by rw [← eKS, List.length_map]; exact wl
    refine ⟨Str, PyData.str, l2, KS.map fun z => (V.str z, z), rfl, SqL.of (by rw [List.map_map]; exact at2), fun z hz => ?_, PySem.W.AllAlike.of fun b b' => by simp [PySem.W.alike], PySem.W.Sortable.others fun b => ⟨by simp, fun xs => by simp⟩, fun z hz => by show 0 ≤ 60; decide, fun l3 nl3 => ?_⟩
    · obtain ⟨y, _, rfl⟩ := List.mem_map.mp hz
      exact .str y
    rw [sortZ]
    have pm := List.mergeSort_perm KS (PySem.W.dataLe false PyData.str)
    have knd := pm.nodup_iff.mpr wnd
    have km : ∀ z, z ∈ KS.mergeSort (PySem.W.dataLe false PyData.str) ↔ z ∈ (occ hh).map (·.1) := fun z => pm.mem_iff.trans (wm z)
    have kl2 : (KS.mergeSort (PySem.W.dataLe false PyData.str)).length ≤ 20000 := by rw [pm.length_eq]; exact kl
    generalize KS.mergeSort (PySem.W.dataLe false PyData.str) = KT at knd km kl2 ⊢
    have s3 := same_new (o := .lst (KT.map V.str)) nl3
    refine ⟨l1, l3, _, _, rfl, rfl, s3 _ _ (s2 _ _ at1), upd_same, ?_, fun p np => ?_⟩
    · rw [List.length_map]
      exact Nat.le_trans (by show 1 + KT.length ≤ 30000; omega) (by decide)
    have s4 := same_new (o := .lst ([V.str ((("" : Str)))] ++ KT.map V.str)) np
    have s14 := s1.trans (s2.trans (s3.trans s4))
    have at0' := s14 _ _ at0
    have nWs : (Str.empty :: KT).Nodup := List.nodup_cons.mpr ⟨fun m => absurd (occ_pos ((km _).mp m)) (by decide), knd⟩
    have mWs : ∀ z, z ∈ (Str.empty :: KT) ↔ z = Str.empty ∨ z ∈ (occ hh).map (·.1) := fun z => by rw [List.mem_cons, km z]
    have at4 : (upd (upd H3 l3 (.lst (KT.map V.str))) p (.lst ([V.str ((("" : Str)))] ++ KT.map V.str))) p = some (.lst ((Str.empty :: KT).map V.str)) := upd_same
    have hz4 : ∀ z ∈ (Str.empty :: KT), z.length ≤ 100 ∧ IsLet z := fun z m => by
      rcases (mWs z).mp m with e | m
      · rw [e]
        exact ⟨by decide, by decide⟩
      · exact ⟨oz z m, occ_let lets m⟩
    have lWs : (Str.empty :: KT).length ≤ 20001 := by rw [List.length_cons]; omega
    obtain ⟨dnd, dm⟩ := dueF_is (O := (occ hh).map (·.1)) (Ws := Str.empty :: KT) (al := al) aln nWs mWs fun z m => occ_pos m
    generalize upd (upd H3 l3 (.lst (KT.map V.str))) p (.lst ([V.str ((("" : Str)))] ++ KT.map V.str)) = H5 at s14 at0' at4 ⊢
    have s05 := s0.trans s14
    have pne : p ≠ ol := fun e => by
      rw [e, at0'] at at4
      have := HO.lst.inj (Option.some.inj at4)
      cases this
    generalize (Str.empty :: KT) = Ws at nWs mWs at4 hz4 lWs dnd dm
    have get : ∀ {i : Nat} {x : V}, (Ws.map V.str)[i]? = some x → ∃ z, Ws[i]? = some z ∧ z ∈ Ws ∧ x = .str z := fun {i x} hx => by
      rw [List.getElem?_map] at hx
      cases e : Ws[i]? with
      | none => rw [e] at hx; cases hx
      | some z => rw [e] at hx; exact ⟨z, rfl, List.mem_of_getElem? e, (Option.some.inj hx).symm⟩
    refine ⟨p, rfl, ⟨_, SqL.of at4⟩, ?_⟩
    have dlen : ∀ i, (dueF al ((occ hh).map (·.1)) (Ws.take i)).length ≤ 20001 * 100 := fun i => by
      have h2 := flat_len (m := 100) (l := Ws.take i) (f := fun w => (mkW w (TL.tl al)).filter fun z => decide (okA al w ∧ z ∉ (occ hh).map (·.1) ∧ (w = Str.empty ∨ rst z ∈ (occ hh).map (·.1)))) fun w _ => by
        refine Nat.le_trans (List.length_filter_le _ _) ?_
        unfold mkW
        rw [List.length_map]
        exact all
      have h4 : (Ws.take i).length ≤ 20001 := by rw [List.length_take]; omega
      exact Nat.le_trans h2 (Nat.mul_le_mul_right 100 h4)
    refine for_it (walk_list (K := K) (a := p) (xs := Ws.map V.str)) (fun i σ H' => ∃ R : PL, Same H H' ∧ H' p = some (.lst (Ws.map V.str)) ∧ H' ol = some (.lst (refs R)) ∧ PairsAt K H' R ∧ R.map (·.2) = (dueF al ((occ hh).map (·.1)) (Ws.take i)).map (fun z => ((z.length : Int), z)) ∧
        ∃ y3 y4 y5 y6 y7 y8 : Option V, σ = [some (.ref D), some (.str al), some (.ref ol), y3, y4, y5, y6, y7, y8])
      ⟨[], s05, at4, at0', (fun z m => nomatch m), rfl, none, none, none, none, none, none, rfl⟩ (fun i σ H' _ hW => by obtain ⟨R, _, h, _⟩ := hW; exact SqL.of h) (fun i x σ Ha Hb hi hX y => ?_) (fun σ H7 hX => ?_)
    · obtain ⟨R, sm, atp, ato, ps, re, y3, y4, y5, y6, y7, y8, rfl⟩ := hX
      obtain ⟨rfl, hx⟩ := y
      obtain ⟨wd, hw, wmem, rfl⟩ := get hx
      obtain ⟨wlen, wlet⟩ := hz4 wd wmem
      have tk : dueF al ((occ hh).map (·.1)) (Ws.take (i + 1)) = dueF al ((occ hh).map (·.1)) (Ws.take i) ++ (mkW wd (TL.tl al)).filter fun z => decide (okA al wd ∧ z ∉ (occ hh).map (·.1) ∧ (wd = Str.empty ∨ rst z ∈ (occ hh).map (·.1))) := by
        unfold dueF
        rw [take_snoc hw, List.flatMap_append]
        simp
      have bound := dlen i
      rw [tk]
      generalize dueF al ((occ hh).map (·.1)) (Ws.take i) = F at re bound ⊢
      refine ⟨_, rfl, al, rfl, ?_⟩
      refine for_it (walk_str (z := al)) (fun j σ H' => ∃ R : PL, Same H H' ∧ H' p = some (.lst (Ws.map V.str)) ∧ H' ol = some (.lst (refs R)) ∧ PairsAt K H' R ∧ R.map (·.2) = (F ++ (mkW wd ((TL.tl al).take j)).filter fun z => decide (okA al wd ∧ z ∉ (occ hh).map (·.1) ∧ (wd = Str.empty ∨ rst z ∈ (occ hh).map (·.1)))).map (fun z => ((z.length : Int), z)) ∧
          ∃ y4 y5 y6 y7 y8 : Option V, σ = [some (.ref D), some (.str al), some (.ref ol), some (.str wd), y4, y5, y6, y7, y8])
        ⟨R, sm, atp, ato, ps, by simpa [mkW] using re, _, _, _, _, _, rfl⟩ (fun j σ H' _ hW => trivial) (fun j x σ Hc Hd hj hX y => ?_) (fun σ H8 hX => ?_)
      · obtain ⟨R, sm, atp, ato, ps, re, y4, y5, y6, y7, y8, rfl⟩ := hX
        obtain ⟨rfl, c, hc, rfl⟩ := y
        have hc2 : (TL.tl al)[j]? = some c := by rw [← hc]; exact Array.getElem?_toList ..
        have cm : c ∈ TL.tl al := List.mem_of_getElem? hc2
        have al1 : wd.length + (sg c).length ≤ sizeLine := Nat.le_trans (by show wd.length + 1 ≤ 200; omega) (by decide)
        have tk2 : mkW wd ((TL.tl al).take (j + 1)) = mkW wd ((TL.tl al).take j) ++ [wd ++ sg c] := by
          unfold mkW
          rw [take_snoc hc2, List.map_append]
          rfl
        have nlen := sg_len wd c
        rw [tk2, List.filter_append]
        -- the new word, its strange letters
        refine ⟨_, rfl, _, rfl, _, _, rfl, rfl, al1, ?_⟩
        refine ⟨_, rfl, wd, rfl, fun st nst => ?_⟩
        refine lc_w (walk_str (z := wd)) nst (by show wd.cps.size ≤ 100000; exact Nat.le_trans wlen (by decide)) (fun _ _ => trivial) (fun i acc _ => acc = ((((TL.tl wd).take i).filter fun c => !decide (c ∈ TL.tl al)).map sg).map V.str) (fun _ _ => rfl) (fun _ _ _ _ _ _ _ r => r) (fun i H x H' y => by rw [y.1]; exact Same.refl _) (fun i x acc Ha Hb Qn Qf hi sm y r at_ kn2 kf => ?_) (fun acc H6 s6 at6 _ r => ?_)
        · obtain ⟨rfl, d, hd, rfl⟩ := y
          have hd2 : (TL.tl wd)[i]? = some d := by rw [← hd]; exact Array.getElem?_toList ..
          refine ⟨rfl, _, rfl, _, rfl, d, al, rfl, rfl, _, rfl, ?_⟩
          by_cases m : d ∈ al.cps.toList
          · rw [decide_eq_true m]
            refine iteF (kf _ (Same.refl _) ?_)
            rw [r, take_snoc hd2, List.filter_append, List.filter_cons_of_neg (p := fun c : Nat => !decide (c ∈ TL.tl al)) (by rw [decide_eq_true (show d ∈ TL.tl al from m)]; decide), List.filter_nil, List.append_nil]
          · rw [decide_eq_false m]
            refine iteT ⟨_, rfl, kn2 _ _ (Same.refl _) ?_⟩
            rw [r, take_snoc hd2, List.filter_append, List.filter_cons_of_pos (p := fun c : Nat => !decide (c ∈ TL.tl al)) (by rw [decide_eq_false (show ¬ d ∈ TL.tl al from m)]; rfl), List.filter_nil, List.map_append, List.map_append]
            rfl
        rw [List.take_of_length_le (by show wd.cps.toList.length ≤ wd.cps.size; exact Nat.le_of_eq (Array.length_toList ..))] at r
        subst r
        have strange : ((((TL.tl wd).filter fun c => !decide (c ∈ TL.tl al)).map sg) = []) ↔ okA al wd := by
          rw [List.map_eq_nil_iff, List.filter_eq_nil_iff]
          constructor
          · intro h x hx
            have := h x hx
            by_cases m : x ∈ TL.tl al
            · exact m
            · rw [decide_eq_false m] at this
              exact absurd rfl this
          · intro h x hx
            rw [decide_eq_true (h x hx)]
            decide
        have okS : Okd (dTx (((TL.tl wd).filter fun c => !decide (c ∈ TL.tl al)).map sg)) := okd_Tx fun z hz => by
          obtain ⟨d, hd, rfl⟩ := List.mem_map.mp hz
          exact let_at wlet (List.mem_filter.mp hd).1
        have ok0 := okd_sh (okd_Tx (l := []) fun z m => nomatch m)
        have okS' := okd_sh okS
        have sm6 := sm.trans s6
        have atp6 := s6 _ _ atp
        have ato6 := s6 _ _ ato
        have ps6 := ps.same s6
        generalize (((TL.tl wd).filter fun c => !decide (c ∈ TL.tl al)).map sg) = SS at at6 strange okS' 
        refine ⟨_, rfl, Nat.zero_le _, fun l5 nl5 => ?_⟩
        have s7 := same_new (o := .lst []) nl5
        have at7 := s7 _ _ at6
        have n7 : (upd H6 l5 (.lst [])) l5 = some (.lst []) := upd_same
        have sm7 := sm6.trans s7
        have atp7 := s7 _ _ atp6
        have ato7 := s7 _ _ ato6
        have ps7 := ps6.same s7
        generalize upd H6 l5 (.lst []) = H7 at at7 n7 sm7 atp7 ato7 ps7 ⊢
        refine ⟨_, _, dp_tx (l := SS) (SqL.of at7), dp_tx (l := []) (SqL.of n7), okS'.1, ok0.1, ?_⟩
        rw [eqv_nilTx]
        have fin : ∀ {H' : Hp}, ¬ (okA al wd ∧ (wd ++ sg c) ∉ (occ hh).map (·.1) ∧ (wd = Str.empty ∨ rst (wd ++ sg c) ∈ (occ hh).map (·.1))) → H' = H7 → ∀ (st : V) (u7 u8 : Option V), ∃ R : PL, Same H H' ∧ H' p = some (.lst (Ws.map V.str)) ∧ H' ol = some (.lst (refs R)) ∧ PairsAt K H' R ∧
            R.map (·.2) = (F ++ ((mkW wd ((TL.tl al).take j)).filter (fun z => decide (okA al wd ∧ z ∉ (occ hh).map (·.1) ∧ (wd = Str.empty ∨ rst z ∈ (occ hh).map (·.1)))) ++ [wd ++ sg c].filter (fun z => decide (okA al wd ∧ z ∉ (occ hh).map (·.1) ∧ (wd = Str.empty ∨ rst z ∈ (occ hh).map (·.1)))))).map (fun z => ((z.length : Int), z)) ∧
            ∃ y4 y5 y6 y7 y8 : Option V, [some (.ref D), some (.str al), some (.ref ol), some (.str wd), some (.str (sg c)), some (.str (wd ++ sg c)), some st, u7, u8] = [some (.ref D), some (.str al), some (.ref ol), some (.str wd), y4, y5, y6, y7, y8] := fun {H'} n e st u7 u8 => by
          subst e
          refine ⟨R, sm7, atp7, ato7, ps7, ?_, _, _, _, _, _, rfl⟩
          rw [List.filter_cons_of_neg (by rw [decide_eq_false n]; decide), List.filter_nil, List.append_nil]
          exact re
        have dg := DGet.k (k := .inr (wd ++ sg c)) (sm7 _ _ wat)
        have dg2 := DGet.k (k := .inr (rst (wd ++ sg c))) (sm7 _ _ wat)
        have put : (okA al wd ∧ (wd ++ sg c) ∉ (occ hh).map (·.1) ∧ (wd = Str.empty ∨ rst (wd ++ sg c) ∈ (occ hh).map (·.1))) → ∀ (t : Addr) (H9 : Hp), H7 t = none → H9 = upd (upd H7 t (.tup [.int ((wd ++ sg c).length : Int), .str (wd ++ sg c)])) ol (.lst (refs R ++ [.ref t])) → ∀ (st : V) (u7 u8 : Option V), ∃ R : PL, Same H H9 ∧ H9 p = some (.lst (Ws.map V.str)) ∧ H9 ol = some (.lst (refs R)) ∧ PairsAt K H9 R ∧
            R.map (·.2) = (F ++ ((mkW wd ((TL.tl al).take j)).filter (fun z => decide (okA al wd ∧ z ∉ (occ hh).map (·.1) ∧ (wd = Str.empty ∨ rst z ∈ (occ hh).map (·.1)))) ++ [wd ++ sg c].filter (fun z => decide (okA al wd ∧ z ∉ (occ hh).map (·.1) ∧ (wd = Str.empty ∨ rst z ∈ (occ hh).map (·.1)))))).map (fun z => ((z.length : Int), z)) ∧
            ∃ y4 y5 y6 y7 y8 : Option V, [some (.ref D), some (.str al), some (.ref ol), some (.str wd), some (.str (sg c)), some (.str (wd ++ sg c)), some st, u7, u8] = [some (.ref D), some (.str al), some (.ref ol), some (.str wd), y4, y5, y6, y7, y8] := fun yes t H9 nt e st u7 u8 => by
          subst e
          have st' := same_new (o := .tup [.int ((wd ++ sg c).length : Int), .str (wd ++ sg c)]) nt
          have at2 := st' _ _ ato7
          refine ⟨R ++ [(t, ((wd ++ sg c).length : Int), wd ++ sg c)], same_mut (sm7.trans st') nol, ?_, ?_, fun q hq => ?_, ?_, _, _, _, _, _, rfl⟩
          · rw [upd_ne pne]
            exact st' _ _ atp7
          · rw [upd_same]
            show _ = some (HO.lst (List.map _ _))
            rw [List.map_append]
            rfl
          · refine but_tup at2 but_upd ?_
            rcases List.mem_append.mp hq with m | m
            · exact same_tup st' (ps7 q m)
            · rw [List.mem_singleton.mp m]
              exact .inl (.inl upd_same)
          · rw [List.filter_cons_of_pos (p := fun z => decide (okA al wd ∧ z ∉ (occ hh).map (·.1) ∧ (wd = Str.empty ∨ rst z ∈ (occ hh).map (·.1)))) (decide_eq_true yes), List.filter_nil, List.map_append, re, ← List.append_assoc, List.map_append (l₂ := [wd ++ sg c])]
            rfl
        have alen : ∀ t : Addr, H7 t = none → (refs R).length < sizeLine := fun t _ => by
          rw [refs_len]
          have h1 := congrArg List.length re
          rw [List.length_map, List.length_map, List.length_append] at h1
          have h2 : ((mkW wd ((TL.tl al).take j)).filter fun z => decide (okA al wd ∧ z ∉ (occ hh).map (·.1) ∧ (wd = Str.empty ∨ rst z ∈ (occ hh).map (·.1)))).length ≤ 100 := by
            refine Nat.le_trans (List.length_filter_le _ _) ?_
            unfold mkW
            rw [List.length_map, List.length_take]
            have : (TL.tl al).length = al.length := rfl
            omega
          exact Nat.lt_of_le_of_lt (by omega : _ ≤ 20001 * 100 + 100) (by decide)
        have nbound : (wd ++ sg c).length ≤ sizeLine := Nat.le_trans (by omega : _ ≤ 200) (by decide)
        refine ⟨_, rfl, ?_⟩
        by_cases c1 : okA al wd
        case neg =>
          rw [decide_eq_false fun e => c1 (strange.mp e)]
          exact iteF (iteF (fin (fun z => c1 z.1) rfl _ _ _))
        rw [decide_eq_true (strange.mpr c1)]
        refine iteT ?_
        by_cases c2 : (wd ++ sg c) ∈ (occ hh).map (·.1)
        case pos =>
          cases hv : valV (wkvs W) (.inr (wd ++ sg c)) with
          | none => exact absurd c2 ((get2 _).mp hv)
          | some v =>
            rw [hv] at dg
            exact ⟨_, rfl, _, rfl, D, _, rfl, dg, _, rfl, iteF (iteF (fin (fun z => z.2.1 c2) rfl _ _ _))⟩
        rw [(get2 _).mpr c2] at dg
        refine ⟨_, rfl, _, rfl, D, _, rfl, dg, _, rfl, iteT ?_⟩
        refine ⟨_, rfl, rfl, _, rfl, ?_⟩
        by_cases c3 : wd = Str.empty
        · have e3 : V.str wd = V.str ((("" : Str))) := by rw [c3]; rfl
          rw [decide_eq_true e3]
          refine iteT (iteT ⟨_, rfl, .inl ⟨rfl, _, SqL.of ato7⟩, _, rfl, _, rfl, nbound, _, rfl, sz2, fun t nt => ?_⟩)
          exact ⟨ol, _, _, rfl, rfl, same_new nt _ _ ato7, alen t nt, put ⟨c1, c2, .inl c3⟩ t _ nt rfl _ _ _⟩
        · have e3 : ¬ V.str wd = V.str ((("" : Str))) := fun e => c3 (V.str.inj e)
          rw [decide_eq_false e3]
          refine iteF ?_
          by_cases c4 : rst (wd ++ sg c) ∈ (occ hh).map (·.1)
          · cases hv : valV (wkvs W) (.inr (rst (wd ++ sg c))) with
            | none => exact absurd c4 ((get2 _).mp hv)
            | some v =>
              rw [hv] at dg2
              refine ⟨_, rfl, _, rfl, _, rfl, nbound, _, rfl, D, _, rfl, dg2, _, rfl, iteT ⟨_, rfl, .inl ⟨rfl, _, SqL.of ato7⟩, _, rfl, _, rfl, nbound, _, rfl, sz2, fun t nt => ?_⟩⟩
              exact ⟨ol, _, _, rfl, rfl, same_new nt _ _ ato7, alen t nt, put ⟨c1, c2, .inr c4⟩ t _ nt rfl _ _ _⟩
          · rw [(get2 _).mpr c4] at dg2
            exact ⟨_, rfl, _, rfl, _, rfl, nbound, _, rfl, D, _, rfl, dg2, _, rfl, iteF (fin (fun z => z.2.2.elim c3 c4) rfl _ _ _)⟩
      · obtain ⟨R, sm, atp, ato, ps, re, y4, y5, y6, y7, y8, rfl⟩ := hX
        rw [List.take_of_length_le (by show al.cps.toList.length ≤ al.cps.size; exact Nat.le_of_eq (Array.length_toList ..))] at re
        exact ⟨R, sm, atp, ato, ps, re, _, _, _, _, _, _, rfl⟩
    · obtain ⟨R, s7, atp, ato, ps, re, y3, y4, y5, y6, y7, y8, rfl⟩ := hX
      rw [List.take_of_length_le (by rw [List.length_map]; exact Nat.le_refl _)] at re
      have hq : ∀ q ∈ R, q.2.1 = (q.2.2.length : Int) := fun q m => by
        have := List.mem_map_of_mem (f := fun q : Addr × Int × Str => q.2) m
        rw [re] at this
        obtain ⟨z, _, e⟩ := List.mem_map.mp this
        rw [← e]
      have re2 : R.map (fun q => q.2.2) = dueF al ((occ hh).map (·.1)) Ws := by
        have := congrArg (List.map fun q : Int × Str => q.2) re
        rw [List.map_map, List.map_map] at this
        exact this.trans (List.map_id _)
      have rlen : R.length ≤ 20001 * 100 := by
        have h1 := dlen Ws.length
        rw [List.take_of_length_le (Nat.le_refl _), ← re2, List.length_map] at h1
        exact h1
      refine ⟨_, rfl, Str, eLen, ol, R.map fun q => (V.ref q.1, q.2.2), rfl, SqL.of (by rw [List.map_map]; exact ato), fun z hz => ?_, PySem.W.AllAlike.of fun b b' => by simp [eLen, PySem.W.alike, PySem.W.alikeAll], PySem.W.Sortable.tuples fun b => ⟨_, _, rfl⟩, fun z hz => by show max 0 (max 0 0) + 1 ≤ 60; decide, fun p1 np1 => ?_⟩
      · obtain ⟨q, m, rfl⟩ := List.mem_map.mp hz
        have := ps q m
        rw [hq q m] at this
        exact .tup this (.cons (.int _) (.cons (.str _) .nil))
      have e2 : ((R.map fun q => (V.ref q.1, q.2.2)).mergeSort (PySem.W.dataLe false fun z => eLen z.2)).map (·.2) = (dueF al ((occ hh).map (·.1)) Ws).mergeSort (PySem.W.dataLe false eLen) := by
        rw [← re2, List.map_mergeSort (r := PySem.W.dataLe false fun z : V × Str => eLen z.2) (s := PySem.W.dataLe false eLen) (f := fun z : V × Str => z.2) (fun a _ b _ => rfl), List.map_map]
        rfl
      have pm2 := List.mergeSort_perm (R.map fun q => (V.ref q.1, q.2.2)) (PySem.W.dataLe false fun z => eLen z.2)
      have s8 := same_new (o := .lst (((R.map fun q => (V.ref q.1, q.2.2)).mergeSort (PySem.W.dataLe false fun z => eLen z.2)).map (·.1))) np1
      have at8 : (upd H7 p1 (.lst (((R.map fun q => (V.ref q.1, q.2.2)).mergeSort (PySem.W.dataLe false fun z => eLen z.2)).map (·.1)))) p1 = some (.lst (((R.map fun q => (V.ref q.1, q.2.2)).mergeSort (PySem.W.dataLe false fun z => eLen z.2)).map (·.1))) := upd_same
      have ps8 := ps.same s8
      generalize upd H7 p1 (.lst (((R.map fun q => (V.ref q.1, q.2.2)).mergeSort (PySem.W.dataLe false fun z => eLen z.2)).map (·.1))) = H8 at s8 at8 ps8 ⊢
      have mem2 : ∀ z ∈ ((R.map fun q => (V.ref q.1, q.2.2)).mergeSort (PySem.W.dataLe false fun z => eLen z.2)), ∃ t : Addr, z.1 = .ref t ∧ SqT K H8 t [.int (z.2.length : Int), .str z.2] := fun z hz => by
        obtain ⟨q, m, rfl⟩ := List.mem_map.mp (pm2.mem_iff.mp hz)
        have := ps8 q m
        rw [hq q m] at this
        exact ⟨q.1, rfl, this⟩
      have zlen : ((R.map fun q => (V.ref q.1, q.2.2)).mergeSort (PySem.W.dataLe false fun z => eLen z.2)).length ≤ 20001 * 100 := by
        rw [pm2.length_eq, List.length_map]
        exact rlen
      generalize ((R.map fun q => (V.ref q.1, q.2.2)).mergeSort (PySem.W.dataLe false fun z => eLen z.2)) = Zs at at8 e2 mem2 zlen
      refine ⟨p1, rfl, ⟨_, SqL.of at8⟩, fun Df nDf => ?_⟩
      refine wkx (walk_list (K := K) (a := p1) (xs := Zs.map (·.1))) (fun i H' => Same H8 H' ∧ H' Df = some (.lst (((Zs.take i).map (·.2)).map V.str))) ⟨same_new nDf, upd_same⟩ (fun i H' _ h => SqL.of (h.1 _ _ at8)) (fun i x Ha Hb hi hX y => ?_) (fun H9 hX => ?_)
      · obtain ⟨sm, atD⟩ := hX
        obtain ⟨rfl, hx⟩ := y
        rw [List.getElem?_map] at hx
        obtain ⟨z, hz, rfl⟩ : ∃ z, Zs[i]? = some z ∧ z.1 = x := by
          cases e : Zs[i]? with
          | none => rw [e] at hx; cases hx
          | some z => rw [e] at hx; exact ⟨z, rfl, Option.some.inj hx⟩
        obtain ⟨t, et, tt⟩ := mem2 z (List.mem_of_getElem? hz)
        rw [et]
        refine ⟨_, _, rfl, same_tup sm tt, rfl, _, _, rfl, _, _, rfl, rfl, rfl, _, rfl, _, atD, ?_, same_mut sm nDf, ?_⟩
        · rw [List.length_map, List.length_map, List.length_take]
          exact Nat.lt_of_le_of_lt (by omega : _ ≤ 20001 * 100) (by decide)
        · rw [upd_same, take_snoc hz, List.map_append, List.map_append]
          rfl
      · obtain ⟨s9, atD⟩ := hX
        rw [List.take_of_length_le (by rw [List.length_map]; exact Nat.le_refl _), e2] at atD
        have sT := s7.trans s8
        refine q Df _ _ (sT.trans s9) (sT.free nDf) atD ((sorted1 dnd).absL dm)
end

end SH
set_option Elab.async false
set_option linter.all false
set_option maxRecDepth 100000
set_option maxHeartbeats 4000000
namespace SH
open PySem PySem.Spec PyProof.Rows L2
section
variable {P : Program} {w : World} {K : PySem.W.Frag} {mg : Str → Option Value} {base : Heap} {ea : Ea}
def spLaw (K : PySem.W.Frag) : Sp := fun vs H Q _ => ∃ (a : Addr) (ns : List Int), vs = [.ref a] ∧ SqL K H a (ns.map V.int) ∧ ns.length ≤ 63 ∧ ∀ H', Q (.bl true) H'
theorem sc_law : FnScope ["script", "draws", "house", "kept", "found", "alphabet", "due", "told", "one", "two", "three", "word", "strange", "letter", "small"] ["script"] (defScope s_law) := ⟨rfl, rfl, rfl, by decide +kernel, rfl, by decide +kernel, by decide +kernel⟩
theorem ok_law (T : Txt K mg ea) {f : Addr} {fd : FuncData} (F0 : Fun K "law" "law" s_law f fd) (c__law_draws : Cl P w K mg base 1 "_law_draws" (spDraws K)) (c__law_house : Cl P w K mg base 3 "_law_house" (spHouse K)) (c__law_words : Cl P w K mg base 1 "_law_words" (spWords K))
    (c__law_alphabet : Cl P w K mg base 2 "_law_alphabet" (spAlpha K)) (c__law_due : Cl P w K mg base 1 "_law_due" (spDueA K)) (c_absent_words : ClX P w K mg base 3 "absent_words" (spAbs K ea)) (c__law_refused : Cl P w K mg base 4 "_law_refused" (spRef K)) :
    FnOk P w K mg base CX0 8 f fd ["script"] (spLaw K) := by
  have nd := sc_law.nd
  refine F0.ok sc_law (fun vs H Q E h => ?_) (fun cdv A outer s H vs Q E hr h => ?_)
  · obtain ⟨a, ns, rfl, _⟩ := h
    rfl
  · obtain ⟨a, ns, rfl, hS, hl, q⟩ := h
    refine ⟨_, (pss_cons (ps_set (i := 1) nd rfl (.inl rfl) (C8.pe_c c__law_draws hr (by decide) (by rfl) (pa_cons (pv 0) pa_nil)))
      (pss_cons (ps_set (i := 2) nd rfl (.inl rfl) (C8.pe_c c__law_house hr (by decide) (by rfl) (pa_cons (pv 1) (pa_cons pe_int pa_nil))))
      (pss_cons (ps_set (i := 3) nd rfl (.inl rfl) (pe_callTy call_list_of (by rfl) T.b_list (by decide +kernel) (pa_cons (pv 2) pa_nil)))
      (pss_cons (ps_set (i := 4) nd rfl (.inl rfl) (C8.pe_c c__law_words hr (by decide) (by rfl) (pa_cons (pv 2) pa_nil)))
      (pss_cons (ps_set (i := 5) nd rfl (.inr rfl) (C8.pe_c c__law_alphabet hr (by decide) (by rfl) (pa_cons (pv 1) (pa_cons pe_int pa_nil))))
      (pss_cons (ps_set (i := 6) nd rfl (.inl rfl) (C8.pe_c c__law_due hr (by decide) (by rfl) (pa_cons (pv 4) (pa_cons (pv 5) pa_nil))))
      (pss_cons (ps_set (i := 7) nd rfl (.inl rfl) (pe_cx c_absent_words hr (by decide) (fun σ => passAt takes0 σ) (by rfl) (pa_cons (pv 2) (pa_cons (pv 5) pa_nil))))
      (pss_cons (ps_if (PW.pt (pw_or (pt_not (pt_val (pe_callB call_isi (by rfl) T.b_isinstance (by decide +kernel) (pa_cons (pv 7) (pa_cons (pe_bltn (v := .ty "list") (by rfl) T.b_list (by decide +kernel) rfl) pa_nil))))) (pw_or (pt_cmpR (op_neDK (K := K) hr.units) (pv 7) (pv 6) (nomark _)) (pw_or1 (pt_cmpR (op_neDK (K := K) hr.units) (pv 2) (pv 3) (nomark _))))))
        (pss_one (ps_ret pe_bl))
        pss_nil)
      (pss_cons (ps_expr (pe_bm PySem.F.plainAttrs_list PySem.F.slot_list_append PySem.F.type_list_append mt_append (pv 7) (pa_cons pe_str pa_nil)))
      (pss_cons (ps_if (pt_cmpR (op_neDK (K := K) hr.units) (pe_cx c_absent_words hr (by decide) (fun σ => passAt takes0 σ) (by rfl) (pa_cons (pv 2) (pa_cons (pe_revS (pv 5)) pa_nil))) (pv 6) (nomark _))
        (pss_one (ps_ret pe_bl))
        pss_nil)
      (pss_cons (ps_for PassesOwn.never rfl (pi_str (pv 5)) (pg_name (i := 8) nd rfl (.inl rfl))
        (pss_one (ps_for PassesOwn.never rfl (pi_str (pe_op op_add_str (pv 5) pe_str)) (pg_name (i := 9) nd rfl (.inl rfl))
            (pss_one (ps_for PassesOwn.never rfl (pi_str (pv 5)) (pg_name (i := 10) nd rfl (.inl rfl))
                (pss_cons (ps_set (i := 11) nd rfl (.inr rfl) (pe_slice sl_str (pe_op op_add_str (pe_op op_add_str (pv 8) (pv 9)) (pv 10)) po_none (po_some (pe_op op_add pe_int (pe_callTy call_int1 (by rfl) T.b_int (by decide +kernel) (pa_cons (pe_cmpR op_in_sign (pv 9) (pv 5) rfl) pa_nil))))))
                  (pss_cons (ps_setLc (i := 12) (own := [("letter", 13)]) (g := (gName 13)) rfl nd rfl rfl (sw_true rfl rfl rfl (by decide +kernel)) (pi_str (pv 11)) (blkOk_by (own := [("letter", 13)]) (N := ["script", "draws", "house", "kept", "found", "alphabet", "due", "told", "one", "two", "three", "word", "strange", "letter", "small"]) (sc := defScope s_law) (by decide +kernel)) (fun _ _ _ _ _ => (pg_name (i := 13) nd rfl (.inl rfl))) (fun _ _ _ _ _ => pts_one (pt_cmpR op_notIn_sign (pv 13) (pv 5) rfl)) (fun _ _ _ _ _ => (pv 13)))
                  (pss_one (ps_if (PW.pt (pw_and (pt_cmp (pc_dnotin (hu_of hr) (pv 11) (pv 4))) (pw_and (pt_cmpR (op_eqDK (K := K) hr.units) (pv 12) (pe_lst pa_nil) (nomark _)) (pw_and1 (pt_cmpR (op_eqDK (K := K) hr.units) (pe_lc (own := [("small", 14)]) (g := (gName 14)) rfl nd (pi_listK (K := K) (pv 6)) (blkOk_by (own := [("small", 14)]) (N := ["script", "draws", "house", "kept", "found", "alphabet", "due", "told", "one", "two", "three", "word", "strange", "letter", "small"]) (sc := defScope s_law) (by decide +kernel)) (fun _ _ _ _ _ => (pg_name (i := 14) nd rfl (.inl rfl))) (fun _ _ _ _ _ => pts_one (pt_cmpR op_in_str (pv 14) (pv 11) (by rfl))) (fun _ _ _ _ _ => (pv 14))) (pe_lst pa_nil) (nomark _))))))
                    (pss_one (ps_ret pe_bl))
                    pss_nil)))))))))
      (pss_one (ps_ret (pe_and (C8.pe_c c__law_refused hr (by decide) (by rfl) (pa_cons (pv 2) (pa_cons pe_str pa_nil))) (pe_one (C8.pe_c c__law_refused hr (by decide) (by rfl) (pa_cons (pv 2) (pa_cons (pe_op op_add_str (pv 5) (pe_ix ix_str (pv 5) pe_int (fun _ _ => rfl))) pa_nil)))))))))))))))))), ?_⟩
    refine ⟨_, rfl, a, ns, rfl, hS, hl, fun dr ds H1 s1 nd1 at1 hD => ?_⟩
    refine ⟨_, rfl, dr, ds, 0, rfl, SqL.of at1, hD, by omega, by omega, fun hp L H2 s2 nh at2 hpr hlen hh => ?_⟩
    have lets := hh.letAll
    have tx : ∀ q ∈ L, q.2.2.length ≤ 14 := fun q hq => (hh.txt q.2 (List.mem_map_of_mem hq)).2
    have tx20 : ∀ q ∈ L, q.2.2.length ≤ 20 := fun q hq => Nat.le_trans (tx q hq) (by decide)
    have hA2 : HsAt K H2 hp L := ⟨SqL.of at2, hpr⟩
    refine ⟨_, rfl, hp, _, rfl, .inl hA2.1, fun kp nkp => ?_⟩
    have s3 := same_new (o := .lst (refs L)) nkp
    have hK3 : HsAt K (upd H2 kp (.lst (refs L))) kp L := ⟨SqL.of upd_same, (hA2.same s3).2⟩
    generalize upd H2 kp (.lst (refs L)) = H3 at s3 hK3 ⊢
    have hA3 := hA2.same s3
    refine ⟨_, rfl, hp, L, rfl, hA3, by omega, fun q hq => Nat.le_trans (tx q hq) (by decide), fun D W H4 hW hO => ?_⟩
    have hA4 := hA3.same hW.sm
    have hK4 := hK3.same hW.sm
    have wl : W.length ≤ 12800 := by
      have h1 := WdOf.len hW hO
      have h2 := occ_len (L.map (·.2)) fun q hq => by
        obtain ⟨y, hy, rfl⟩ := List.mem_map.mp hq
        exact Nat.le_trans (tx y hy) (by decide)
      rw [List.length_map] at h2
      omega
    have oz : ∀ z ∈ (occ (L.map (·.2))).map (·.1), z.length ≤ 14 := fun z hz => occ_text (m := 14) (fun q hq => by obtain ⟨y, hy, rfl⟩ := List.mem_map.mp hq; exact tx y hy) hz
    have wm := hO.mem
    have get2 : ∀ u : Str, valV (wkvs W) (.inr u) = none ↔ u ∉ (occ (L.map (·.2))).map (·.1) := fun u => by
      constructor
      · intro hv m
        obtain ⟨e, he, ee⟩ := List.mem_map.mp ((wm u).mpr m)
        rw [← ee, hW.val_of he] at hv
        cases hv
      · exact fun n => wkvs_none fun m => n ((wm u).mp m)
    -- the letters
    have dr4 : SqL K H4 dr (ds.map V.int) := (s2.trans (s3.trans hW.sm)).seq (SqL.of at1)
    refine ⟨_, rfl, dr, ds, 55, rfl, dr4, hD, by omega, by omega, fun al alet aln al0 all => ?_⟩
    have al0' : al ≠ Str.empty := al0
    have all100 : al.length ≤ 100 := by omega
    refine ⟨_, rfl, _, rfl, D, W, H3, L.map (·.2), al, rfl, hW, hO, lets, alet, aln, all100, by omega, fun z hz => Nat.le_trans (oz z hz) (by decide), fun dp H5 dl s5 ndp at5 ab5 => ?_⟩
    have hA5 := hA4.same s5
    have hK5 := hK4.same s5
    have bad : (al = Str.empty ∨ ¬ (TL.tl al).Nodup) → False := fun b => b.elim al0' fun n => n aln
    refine ⟨_, rfl, _, rfl, hp, L, al, rfl, hA5, by omega, tx20, all100, fun b => (bad b).elim, fun _ _ ct H6 tl s6 nct at6 ab6 _ => ?_⟩
    obtain rfl := ab6.uniq ab5 fun _ => Iff.rfl
    have okl := okd_sh (okd_Tx (l := tl) fun z hz => let_of alet ((ab6.mem z).mp hz).1)
    have okh := okd_sh (okd_H lets)
    have at5' := s6 _ _ at5
    refine ⟨_, rfl, _, _, _, _, true, rfl, .ty "list", .base (.lst at6), kit_ty (by decide +kernel), _, rfl, iteF ?_⟩
    refine ⟨_, rfl, _, rfl, _, _, dp_tx (SqL.of at6), dp_tx (SqL.of at5'), okl.1, okl.1, ?_⟩
    rw [okl.2]
    refine ⟨_, rfl, iteF ?_⟩
    have hA6 := hA5.same s6
    have hK6 := hK5.same s6
    refine ⟨_, rfl, _, rfl, _, _, dp_house hA6, dp_house hK6, okh.1, okh.1, ?_⟩
    rw [okh.2]
    refine ⟨_, rfl, iteF ?_⟩
    -- told is written to
    have tll : tl.length ≤ 100000 := by
      have h1 := List.Nodup.length_le_of_subset (l₂ := dueF al ((occ (L.map (·.2))).map (·.1)) (Str.empty :: W.map (·.1))) ab6.nd fun z hz => by
        refine ((dueF_is (O := (occ (L.map (·.2))).map (·.1)) (al := al) (Ws := Str.empty :: W.map (·.1)) aln (List.nodup_cons.mpr ⟨fun m => absurd (occ_pos ((wm _).mp m)) (by decide), hW.kd⟩) (fun z => by rw [List.mem_cons, wm z]) fun z m => occ_pos m).2 z).mpr ((ab6.mem z).mp hz)
      have h2 := flat_len (m := 5) (l := Str.empty :: W.map (·.1)) (f := fun w => (mkW w (TL.tl al)).filter fun z => decide (okA al w ∧ z ∉ (occ (L.map (·.2))).map (·.1) ∧ (w = Str.empty ∨ rst z ∈ (occ (L.map (·.2))).map (·.1)))) fun w _ => by
        refine Nat.le_trans (List.length_filter_le _ _) ?_
        unfold mkW
        rw [List.length_map]
        exact all
      rw [List.length_cons, List.length_map] at h2
      have h3 : (dueF al ((occ (L.map (·.2))).map (·.1)) (Str.empty :: W.map (·.1))).length ≤ (W.length + 1) * 5 := h2
      omega
    refine ⟨_, rfl, .inl ⟨rfl, _, SqL.of at6⟩, ct, _, _, rfl, rfl, at6, ?_, ?_⟩
    · rw [List.length_map]
      exact Nat.lt_of_le_of_lt tll (by decide)
    have s7 : Same H5 (upd H6 ct (.lst (tl.map V.str ++ [.str ((("a" : Str)))]))) := same_mut s6 nct
    generalize upd H6 ct (.lst (tl.map V.str ++ [.str ((("a" : Str)))])) = H7 at s7 ⊢
    have hA7 := hA5.same s7
    have hK7 := hK5.same s7
    have at7 := s7 _ _ at5
    have wat7 := s7 _ _ (s5 _ _ hW.at_)
    -- the letters the other way round
    have rm : ∀ c, c ∈ TL.tl (revS al) ↔ c ∈ TL.tl al := fun c => by rw [revS_tl, List.mem_reverse]
    have rn : (TL.tl (revS al)).Nodup := by rw [revS_tl, List.Nodup, List.pairwise_reverse]; exact aln.imp fun n e => n e.symm
    have rl : (revS al).length = al.length := by
      have := congrArg List.length (revS_tl al)
      rw [List.length_reverse] at this
      exact this
    have r0 : revS al ≠ Str.empty := fun e => by
      rw [e] at rl
      have : al.length = 0 := rl.symm
      exact al0' (tl_inj (List.eq_nil_of_length_eq_zero this))
    refine ⟨_, rfl, _, rfl, al, rfl, Nat.le_trans all100 (by decide), hp, L, revS al, rfl, hA7, by omega, tx20, by omega, fun b => (b.elim r0 fun n => n rn).elim, fun _ _ ct2 H8 tl2 s8 nct2 at8 ab8 _ => ?_⟩
    obtain rfl := ab8.uniq ab6 rm
    have at8' := s8 _ _ at7
    refine ⟨_, rfl, _, _, dp_tx (SqL.of at8), dp_tx (SqL.of at8'), okl.1, okl.1, ?_⟩
    rw [okl.2]
    refine ⟨_, rfl, iteF ?_⟩
    have wat8 := s8 _ _ wat7
    have hA8 := hA7.same s8
    have ok0 := okd_sh (okd_Tx (l := []) fun z m => nomatch m)
    have sg1 : ∀ {z : Str} {i c : Nat}, z.cps[i]? = some c → c ∈ TL.tl z := fun {z i c} h => List.mem_of_getElem? (i := i) (by rw [← h]; exact Array.getElem?_toList ..)
    have slet : ∀ {c : Nat}, c ∈ TL.tl al → IsLet (sg c) := fun m => let_at alet m
    have blet : IsLet (al ++ ((" " : Str))) := let_app alet (by decide +kernel)
    refine ⟨_, rfl, al, rfl, ?_⟩
    refine for_it (walk_str (z := al)) (fun i σ H' => Same H8 H' ∧ ∃ y8 y9 y10 y11 y12 y13 y14 : Option V, σ = [some (.ref a), some (.ref dr), some (.ref hp), some (.ref kp), some (.ref D), some (.str al), some (.ref dp), some (.ref ct), y8, y9, y10, y11, y12, y13, y14])
      ⟨Same.refl _, none, none, none, none, none, none, none, rfl⟩ (fun _ _ _ _ _ => trivial) (fun i x σ Ha Hb hi hX y => ?_) (fun σ H9 hX => ?_)
    · obtain ⟨sm, y8, y9, y10, y11, y12, y13, y14, rfl⟩ := hX
      obtain ⟨rfl, c1, hc1, rfl⟩ := y
      have m1 := sg1 hc1
      refine ⟨_, rfl, _, _, rfl, rfl, Nat.le_trans (by show al.length + 1 ≤ 200; omega) (by decide), al ++ ((" " : Str)), rfl, ?_⟩
      refine for_it (walk_str (z := al ++ ((" " : Str)))) (fun i σ H' => Same H8 H' ∧ ∃ y9 y10 y11 y12 y13 y14 : Option V, σ = [some (.ref a), some (.ref dr), some (.ref hp), some (.ref kp), some (.ref D), some (.str al), some (.ref dp), some (.ref ct), some (.str (sg c1)), y9, y10, y11, y12, y13, y14])
        ⟨sm, _, _, _, _, _, _, rfl⟩ (fun _ _ _ _ _ => trivial) (fun i x σ Ha Hb hi hX y => ?_) (fun σ H9 hX => ?_)
      · obtain ⟨sm, y9, y10, y11, y12, y13, y14, rfl⟩ := hX
        obtain ⟨rfl, c2, hc2, rfl⟩ := y
        have m2 := sg1 hc2
        have l2 : IsLet (sg c2) := let_at blet m2
        refine ⟨_, rfl, al, rfl, ?_⟩
        refine for_it (walk_str (z := al)) (fun i σ H' => Same H8 H' ∧ ∃ y10 y11 y12 y13 y14 : Option V, σ = [some (.ref a), some (.ref dr), some (.ref hp), some (.ref kp), some (.ref D), some (.str al), some (.ref dp), some (.ref ct), some (.str (sg c1)), some (.str (sg c2)), y10, y11, y12, y13, y14])
          ⟨sm, _, _, _, _, _, rfl⟩ (fun _ _ _ _ _ => trivial) (fun i x σ Ha Hb hi hX y => ?_) (fun σ H9 hX => ?_)
        · obtain ⟨sm, y10, y11, y12, y13, y14, rfl⟩ := hX
          obtain ⟨rfl, c3, hc3, rfl⟩ := y
          have m3 := sg1 hc3
          have b1 : (sg c1).length + (sg c2).length ≤ sizeLine := by show 1 + 1 ≤ sizeLine; decide
          have b2 : (sg c1 ++ sg c2).length + (sg c3).length ≤ sizeLine := by rw [sg_len]; show 1 + 1 + 1 ≤ sizeLine; decide
          have b3 : (sg c1 ++ sg c2 ++ sg c3).length ≤ sizeLine := by rw [sg_len, sg_len]; show 1 + 1 + 1 ≤ sizeLine; decide
          refine ⟨_, rfl, _, rfl, _, _, rfl, rfl, b1, _, rfl, _, _, rfl, rfl, b2, ?_⟩
          refine ⟨_, rfl, _, rfl, c2, al, rfl, rfl, .inr ⟨_, rfl, ?_⟩⟩
          obtain ⟨m, em, hm⟩ : ∃ m : Nat, (2 : Int) + (if decide (c2 ∈ al.cps.toList) = true then 1 else 0) = (m : Int) ∧ 2 ≤ m := by
            by_cases c : c2 ∈ al.cps.toList
            · rw [decide_eq_true c]
              exact ⟨3, rfl, by decide⟩
            · rw [decide_eq_false c]
              exact ⟨2, rfl, by decide⟩
          refine ⟨_, _, rfl, rfl, _, rfl, sg c1 ++ sg c2 ++ sg c3, rfl, b3, ?_⟩
          dsimp only
          rw [em]
          have wtl := cuts_take (sg c1 ++ sg c2 ++ sg c3) m
          have wlet : IsLet (cutS (sg c1 ++ sg c2 ++ sg c3) none (some (m : Int))) := cut_let (let_app (let_app (slet m1) l2) (slet m3)) _ _
          have wpos : 0 < (cutS (sg c1 ++ sg c2 ++ sg c3) none (some (m : Int))).length ∧ (cutS (sg c1 ++ sg c2 ++ sg c3) none (some (m : Int))).length ≤ 3 := by
            have h1 := congrArg List.length wtl
            have h2 : (TL.tl (cutS (sg c1 ++ sg c2 ++ sg c3) none (some (m : Int)))).length = (cutS (sg c1 ++ sg c2 ++ sg c3) none (some (m : Int))).length := rfl
            have h3 : (TL.tl (sg c1 ++ sg c2 ++ sg c3)).length = 3 := by rw [app_tl, app_tl]; rfl
            rw [List.length_take, h3] at h1
            omega
          generalize cutS (sg c1 ++ sg c2 ++ sg c3) none (some (m : Int)) = wd at wlet wpos ⊢
          -- its strange letters
          refine ⟨_, rfl, wd, rfl, fun st nst => ?_⟩
          refine lc_w (walk_str (z := wd)) nst (by show wd.cps.size ≤ 100000; exact Nat.le_trans wpos.2 (by decide)) (fun _ _ => trivial) (fun i acc _ => acc = ((((TL.tl wd).take i).filter fun c => !decide (c ∈ TL.tl al)).map sg).map V.str) (fun _ _ => rfl) (fun _ _ _ _ _ _ _ r => r) (fun i H x H' y => by rw [y.1]; exact Same.refl _) (fun i x acc Ha Hb Qn Qf hi sm y r at_ kn2 kf => ?_) (fun acc H10 s10 at10 _ r => ?_)
          · obtain ⟨rfl, d, hd, rfl⟩ := y
            have hd2 : (TL.tl wd)[i]? = some d := by rw [← hd]; exact Array.getElem?_toList ..
            refine ⟨rfl, _, rfl, _, rfl, d, al, rfl, rfl, _, rfl, ?_⟩
            by_cases m : d ∈ al.cps.toList
            · rw [decide_eq_true m]
              refine iteF (kf _ (Same.refl _) ?_)
              rw [r, take_snoc hd2, List.filter_append, List.filter_cons_of_neg (p := fun c : Nat => !decide (c ∈ TL.tl al)) (by rw [decide_eq_true (show d ∈ TL.tl al from m)]; decide), List.filter_nil, List.append_nil]
            · rw [decide_eq_false m]
              refine iteT ⟨_, rfl, kn2 _ _ (Same.refl _) ?_⟩
              rw [r, take_snoc hd2, List.filter_append, List.filter_cons_of_pos (p := fun c : Nat => !decide (c ∈ TL.tl al)) (by rw [decide_eq_false (show ¬ d ∈ TL.tl al from m)]; rfl), List.filter_nil, List.map_append, List.map_append]
              rfl
          rw [List.take_of_length_le (by show wd.cps.toList.length ≤ wd.cps.size; exact Nat.le_of_eq (Array.length_toList ..))] at r
          subst r
          have strange : ((((TL.tl wd).filter fun c => !decide (c ∈ TL.tl al)).map sg) = []) ↔ okA al wd := by
            rw [List.map_eq_nil_iff, List.filter_eq_nil_iff]
            constructor
            · intro h x hx
              have := h x hx
              by_cases m : x ∈ TL.tl al
              · exact m
              · rw [decide_eq_false m] at this
                exact absurd rfl this
            · intro h x hx
              rw [decide_eq_true (h x hx)]
              decide
          have okS := okd_sh (okd_Tx (l := ((TL.tl wd).filter fun c => !decide (c ∈ TL.tl al)).map sg) fun z hz => by
            obtain ⟨d, hd, rfl⟩ := List.mem_map.mp hz
            exact let_at wlet (List.mem_filter.mp hd).1)
          have sm10 := sm.trans s10
          generalize (((TL.tl wd).filter fun c => !decide (c ∈ TL.tl al)).map sg) = SS at at10 strange okS
          have dg := DGet.k (k := .inr wd) (sm10 _ _ wat8)
          by_cases k1 : wd ∈ (occ (L.map (·.2))).map (·.1)
          case pos =>
            cases hv : valV (wkvs W) (.inr wd) with
            | none => exact absurd k1 ((get2 _).mp hv)
            | some v =>
              rw [hv] at dg
              exact ⟨_, rfl, _, rfl, D, _, rfl, dg, _, rfl, iteF (iteF ⟨sm10, _, _, _, _, _, rfl⟩)⟩
          rw [(get2 _).mpr k1] at dg
          refine ⟨_, rfl, _, rfl, D, _, rfl, dg, _, rfl, iteT ?_⟩
          refine ⟨_, rfl, Nat.zero_le _, fun l5 nl5 => ?_⟩
          have s11 := same_new (o := .lst []) nl5
          have at11 := s11 _ _ at10
          have n11 : (upd H10 l5 (.lst [])) l5 = some (.lst []) := upd_same
          have sm11 := sm10.trans s11
          generalize upd H10 l5 (.lst []) = H11 at at11 n11 sm11 ⊢
          refine ⟨_, _, dp_tx (l := SS) (SqL.of at11), dp_tx (l := []) (SqL.of n11), okS.1, ok0.1, ?_⟩
          rw [eqv_nilTx]
          refine ⟨_, rfl, ?_⟩
          by_cases k2 : okA al wd
          case neg =>
            rw [decide_eq_false fun e => k2 (strange.mp e)]
            exact iteF (iteF ⟨sm11, _, _, _, _, _, rfl⟩)
          rw [decide_eq_true (strange.mpr k2)]
          refine iteT ?_
          obtain ⟨d, hd, wd'⟩ := minA_in (O := (occ (L.map (·.2))).map (·.1)) (al := al) wd.length wd (Nat.le_refl _) wpos.1 k2 k1
          have dmem := (ab6.mem d).mpr hd
          refine ⟨_, rfl, dp, rfl, ⟨_, SqL.of (sm11 _ _ at8')⟩, fun Df nDf => ?_⟩
          refine lc_w (walk_list (xs := tl2.map V.str)) nDf (by rw [List.length_map]; exact tll) (fun H' e => SqL.of (e _ _ (sm11 _ _ at8'))) (fun i acc _ => acc = ((tl2.take i).filter fun z => !(Builtin.Str.occurrences wd z 0 wd.length 1).isEmpty).map V.str) (fun _ _ => rfl) (fun _ _ _ _ _ _ _ r => r) (fun i H x H' y => by rw [y.1]; exact Same.refl _) (fun i x acc Ha Hb Qn Qf hi sm y r at_ kn2 kf => ?_) (fun acc H12 s12 at12 _ r => ?_)
          · obtain ⟨rfl, hx⟩ := y
            rw [List.getElem?_map] at hx
            obtain ⟨z, hz, rfl⟩ : ∃ z, tl2[i]? = some z ∧ x = .str z := by
              cases e : tl2[i]? with
              | none => rw [e] at hx; cases hx
              | some z => rw [e] at hx; exact ⟨z, rfl, (Option.some.inj hx).symm⟩
            refine ⟨rfl, _, rfl, _, rfl, z, wd, rfl, rfl, _, rfl, ?_⟩
            cases c : (!(Builtin.Str.occurrences wd z 0 wd.length 1).isEmpty) with
            | true =>
              refine iteT ⟨_, rfl, kn2 _ _ (Same.refl _) ?_⟩
              rw [r, take_snoc hz, List.filter_append, List.filter_cons_of_pos (p := fun z : Str => !(Builtin.Str.occurrences wd z 0 wd.length 1).isEmpty) c, List.filter_nil, List.map_append]
              rfl
            | false =>
              refine iteF (kf _ (Same.refl _) ?_)
              rw [r, take_snoc hz, List.filter_append, List.filter_cons_of_neg (p := fun z : Str => !(Builtin.Str.occurrences wd z 0 wd.length 1).isEmpty) (by rw [c]; decide), List.filter_nil, List.append_nil]
          rw [List.take_of_length_le (by rw [List.length_map]; exact Nat.le_refl _)] at r
          subst r
          have ne : (tl2.filter fun z => !(Builtin.Str.occurrences wd z 0 wd.length 1).isEmpty) ≠ [] := fun e => by
            have : d ∈ (tl2.filter fun z => !(Builtin.Str.occurrences wd z 0 wd.length 1).isEmpty) := List.mem_filter.mpr ⟨dmem, within_in wd'⟩
            rw [e] at this
            cases this
          have okF := okd_sh (okd_Tx (l := tl2.filter fun z => !(Builtin.Str.occurrences wd z 0 wd.length 1).isEmpty) fun z hz => let_of alet ((ab6.mem z).mp (List.mem_filter.mp hz).1).1)
          generalize (tl2.filter fun z => !(Builtin.Str.occurrences wd z 0 wd.length 1).isEmpty) = FF at at12 ne okF
          refine ⟨Nat.zero_le _, fun l6 nl6 => ?_⟩
          have s13 := same_new (o := .lst []) nl6
          refine ⟨_, _, dp_tx (l := FF) (SqL.of (s13 _ _ at12)), dp_tx (l := []) (SqL.of upd_same), okF.1, ok0.1, ?_⟩
          rw [eqv_nilTx, decide_eq_false ne]
          exact ⟨_, rfl, iteF ⟨sm11.trans (s12.trans s13), _, _, _, _, _, rfl⟩⟩
        · obtain ⟨sm, y10, y11, y12, y13, y14, rfl⟩ := hX
          exact ⟨sm, _, _, _, _, _, _, rfl⟩
      · obtain ⟨sm, y9, y10, y11, y12, y13, y14, rfl⟩ := hX
        exact ⟨sm, _, _, _, _, _, _, _, rfl⟩
    · obtain ⟨sm, y8, y9, y10, y11, y12, y13, y14, rfl⟩ := hX
      have hA9 := hA8.same sm
      refine ⟨_, rfl, hp, L, ((("" : Str))), rfl, hA9, by omega, tx20, by decide, .inl rfl, fun H10 s10 => ⟨_, rfl, iteT ?_⟩⟩
      obtain ⟨c0, hc0⟩ : ∃ c0, (TL.tl al)[0]? = some c0 := ⟨(TL.tl al)[0]'(by
        refine Nat.pos_of_ne_zero fun e => al0' (tl_inj (List.eq_nil_of_length_eq_zero e))), List.getElem?_eq_getElem _⟩
      refine ⟨_, rfl, _, rfl, _, rfl, al, 0, c0, rfl, rfl, Nat.le_trans all100 (by decide), atI_nat (j := 0) hc0, _, _, rfl, rfl, Nat.le_trans (by show al.length + 1 ≤ 200; omega) (by decide), ?_⟩
      refine ⟨hp, L, al ++ sg c0, rfl, hA9.same s10, by omega, tx20, by rw [sg_len]; omega, .inr fun n => ?_, fun H11 s11 => q _⟩
      rw [app_tl, sg_tl, List.nodup_append] at n
      exact n.2.2 c0 (List.mem_of_getElem? hc0) c0 (List.mem_singleton.mpr rfl) rfl
end

end SH
set_option Elab.async false
set_option linter.all false
set_option maxRecDepth 100000
set_option maxHeartbeats 4000000
namespace SH
open PySem PySem.Spec PyProof.Rows L2
theorem law_all {P : Program} {w : World} {K : PySem.W.Frag} {mg : Str → Option Value} {base : Heap} {ea : Ea} {f : Addr} {fd : FuncData} (T : Txt K mg ea) (F : Fun K "law" "law" s_law f fd) : FnOk P w K mg base CX0 8 f fd ["script"] (spLaw K) :=
  have at_ := ok__law_at (P := P) (w := w) (base := base) T
  have ab := ok_absent_words T (ok_stretches (P := P) (w := w) (base := base) T) (ok__consists_of T) (ok__letters_behind T)
  ok_law T F (ok__law_draws T) (ok__law_house T at_ (ok__law_text T at_)) (ok__law_words T) (ok__law_alphabet T at_) (ok__law_due T) ab (ok__law_refused T ab)
theorem all_mk {P : Program} {w : World} {K : PySem.W.Frag} {h : Heap} {mg : Str → Option Value} {fa : Addr} (X : K.In h) (G : h.Ns mainGlobals mg) (hfa : mg "law" = some (.ref fa))
    {f_stretches f_absent_words f__consists_of f__letters_behind f__law_draws f__law_at f__law_text f__law_house f__law_words f__law_alphabet f__law_due f__law_refused f_law : Addr}
    {od_stretches an_stretches od_absent_words an_absent_words od__consists_of an__consists_of od__letters_behind an__letters_behind od__law_draws an__law_draws od__law_at an__law_at od__law_text an__law_text od__law_house an__law_house od__law_words an__law_words od__law_alphabet an__law_alphabet od__law_due an__law_due od__law_refused an__law_refused od_law an_law : Option Addr}
    {sl_stretches sl_absent_words sl__consists_of sl__letters_behind sl__law_draws sl__law_at sl__law_text sl__law_house sl__law_words sl__law_alphabet sl__law_due sl__law_refused sl_law : Array (Option Value)}
    {oc_stretches kV_stretches dc_stretches pm_stretches cd_stretches ct_stretches oc_absent_words kV_absent_words dc_absent_words pm_absent_words cd_absent_words ct_absent_words oc__consists_of kV__consists_of dc__consists_of pm__consists_of cd__consists_of ct__consists_of oc__letters_behind kV__letters_behind dc__letters_behind pm__letters_behind cd__letters_behind ct__letters_behind oc__law_draws kV__law_draws dc__law_draws pm__law_draws cd__law_draws ct__law_draws oc__law_at kV__law_at dc__law_at pm__law_at cd__law_at ct__law_at oc__law_text kV__law_text dc__law_text pm__law_text cd__law_text ct__law_text oc__law_house kV__law_house dc__law_house pm__law_house cd__law_house ct__law_house oc__law_words kV__law_words dc__law_words pm__law_words cd__law_words ct__law_words oc__law_alphabet kV__law_alphabet dc__law_alphabet pm__law_alphabet cd__law_alphabet ct__law_alphabet oc__law_due kV__law_due dc__law_due pm__law_due cd__law_due ct__law_due oc__law_refused kV__law_refused dc__law_refused pm__law_refused cd__law_refused ct__law_refused oc_law kV_law dc_law pm_law cd_law ct_law : Value}
    {fI : Addr} {odI anI : Option Addr} {slI : Array (Option Value)} {ocI kVI dcI pmI cdI ctI : Value}
    {C_HouseError N_HouseError C_OutOfRange N_OutOfRange : Addr}
    {nm_HouseError q_HouseError : Str} {bs_HouseError : List Value} {sn_HouseError : List Str} {sub_HouseError : List Value} {ab_HouseError : Bool} {col_HouseError : Option Bool} {dd_HouseError : Option Addr} {m0_HouseError m1_HouseError m2_HouseError m3_HouseError m5_HouseError : Option Value}
    {nm_OutOfRange q_OutOfRange : Str} {bs_OutOfRange : List Value} {sn_OutOfRange : List Str} {sub_OutOfRange : List Value} {ab_OutOfRange : Bool} {col_OutOfRange : Option Bool} {dd_OutOfRange : Option Addr} {m0_OutOfRange m1_OutOfRange m2_OutOfRange m3_OutOfRange m5_OutOfRange : Option Value}
    (z_abs : PySem.W.nsIn K mainGlobals "abs" = some none)
    (z_all : PySem.W.nsIn K mainGlobals "all" = some none)
    (z_bool : PySem.W.nsIn K mainGlobals "bool" = some none)
    (z_int : PySem.W.nsIn K mainGlobals "int" = some none)
    (z_isinstance : PySem.W.nsIn K mainGlobals "isinstance" = some none)
    (z_len : PySem.W.nsIn K mainGlobals "len" = some none)
    (z_list : PySem.W.nsIn K mainGlobals "list" = some none)
    (z_min : PySem.W.nsIn K mainGlobals "min" = some none)
    (z_range : PySem.W.nsIn K mainGlobals "range" = some none)
    (z_set : PySem.W.nsIn K mainGlobals "set" = some none)
    (z_sorted : PySem.W.nsIn K mainGlobals "sorted" = some none)
    (a_stretches : PySem.W.nsIn K mainGlobals "stretches" = some (some (.ref f_stretches)))
    (l_stretches : K.lookup f_stretches = some ⟨oc_stretches, od_stretches, .func (PySem.W.fnOf "stretches" "stretches" (defArgs s_stretches) (defBody s_stretches) (defScope s_stretches) .none kV_stretches dc_stretches pm_stretches an_stretches cd_stretches ct_stretches), sl_stretches⟩)
    (c_stretches : PySem.W.codeIn K cd_stretches "stretches" = true)
    (k_stretches : PySem.W.keepIn K (.ref f_stretches) = true)
    (a_absent_words : PySem.W.nsIn K mainGlobals "absent_words" = some (some (.ref f_absent_words)))
    (l_absent_words : K.lookup f_absent_words = some ⟨oc_absent_words, od_absent_words, .func (PySem.W.fnOf "absent_words" "absent_words" (defArgs s_absent_words) (defBody s_absent_words) (defScope s_absent_words) .none kV_absent_words dc_absent_words pm_absent_words an_absent_words cd_absent_words ct_absent_words), sl_absent_words⟩)
    (c_absent_words : PySem.W.codeIn K cd_absent_words "absent_words" = true)
    (k_absent_words : PySem.W.keepIn K (.ref f_absent_words) = true)
    (a__consists_of : PySem.W.nsIn K mainGlobals "_consists_of" = some (some (.ref f__consists_of)))
    (l__consists_of : K.lookup f__consists_of = some ⟨oc__consists_of, od__consists_of, .func (PySem.W.fnOf "_consists_of" "_consists_of" (defArgs s__consists_of) (defBody s__consists_of) (defScope s__consists_of) .none kV__consists_of dc__consists_of pm__consists_of an__consists_of cd__consists_of ct__consists_of), sl__consists_of⟩)
    (c__consists_of : PySem.W.codeIn K cd__consists_of "_consists_of" = true)
    (k__consists_of : PySem.W.keepIn K (.ref f__consists_of) = true)
    (a__letters_behind : PySem.W.nsIn K mainGlobals "_letters_behind" = some (some (.ref f__letters_behind)))
    (l__letters_behind : K.lookup f__letters_behind = some ⟨oc__letters_behind, od__letters_behind, .func (PySem.W.fnOf "_letters_behind" "_letters_behind" (defArgs s__letters_behind) (defBody s__letters_behind) (defScope s__letters_behind) .none kV__letters_behind dc__letters_behind pm__letters_behind an__letters_behind cd__letters_behind ct__letters_behind), sl__letters_behind⟩)
    (c__letters_behind : PySem.W.codeIn K cd__letters_behind "_letters_behind" = true)
    (k__letters_behind : PySem.W.keepIn K (.ref f__letters_behind) = true)
    (a__law_draws : PySem.W.nsIn K mainGlobals "_law_draws" = some (some (.ref f__law_draws)))
    (l__law_draws : K.lookup f__law_draws = some ⟨oc__law_draws, od__law_draws, .func (PySem.W.fnOf "_law_draws" "_law_draws" (defArgs s__law_draws) (defBody s__law_draws) (defScope s__law_draws) .none kV__law_draws dc__law_draws pm__law_draws an__law_draws cd__law_draws ct__law_draws), sl__law_draws⟩)
    (c__law_draws : PySem.W.codeIn K cd__law_draws "_law_draws" = true)
    (k__law_draws : PySem.W.keepIn K (.ref f__law_draws) = true)
    (a__law_at : PySem.W.nsIn K mainGlobals "_law_at" = some (some (.ref f__law_at)))
    (l__law_at : K.lookup f__law_at = some ⟨oc__law_at, od__law_at, .func (PySem.W.fnOf "_law_at" "_law_at" (defArgs s__law_at) (defBody s__law_at) (defScope s__law_at) .none kV__law_at dc__law_at pm__law_at an__law_at cd__law_at ct__law_at), sl__law_at⟩)
    (c__law_at : PySem.W.codeIn K cd__law_at "_law_at" = true)
    (k__law_at : PySem.W.keepIn K (.ref f__law_at) = true)
    (a__law_text : PySem.W.nsIn K mainGlobals "_law_text" = some (some (.ref f__law_text)))
    (l__law_text : K.lookup f__law_text = some ⟨oc__law_text, od__law_text, .func (PySem.W.fnOf "_law_text" "_law_text" (defArgs s__law_text) (defBody s__law_text) (defScope s__law_text) .none kV__law_text dc__law_text pm__law_text an__law_text cd__law_text ct__law_text), sl__law_text⟩)
    (c__law_text : PySem.W.codeIn K cd__law_text "_law_text" = true)
    (k__law_text : PySem.W.keepIn K (.ref f__law_text) = true)
    (a__law_house : PySem.W.nsIn K mainGlobals "_law_house" = some (some (.ref f__law_house)))
    (l__law_house : K.lookup f__law_house = some ⟨oc__law_house, od__law_house, .func (PySem.W.fnOf "_law_house" "_law_house" (defArgs s__law_house) (defBody s__law_house) (defScope s__law_house) .none kV__law_house dc__law_house pm__law_house an__law_house cd__law_house ct__law_house), sl__law_house⟩)
    (c__law_house : PySem.W.codeIn K cd__law_house "_law_house" = true)
    (k__law_house : PySem.W.keepIn K (.ref f__law_house) = true)
    (a__law_words : PySem.W.nsIn K mainGlobals "_law_words" = some (some (.ref f__law_words)))
    (l__law_words : K.lookup f__law_words = some ⟨oc__law_words, od__law_words, .func (PySem.W.fnOf "_law_words" "_law_words" (defArgs s__law_words) (defBody s__law_words) (defScope s__law_words) .none kV__law_words dc__law_words pm__law_words an__law_words cd__law_words ct__law_words), sl__law_words⟩)
    (c__law_words : PySem.W.codeIn K cd__law_words "_law_words" = true)
    (k__law_words : PySem.W.keepIn K (.ref f__law_words) = true)
    (a__law_alphabet : PySem.W.nsIn K mainGlobals "_law_alphabet" = some (some (.ref f__law_alphabet)))
    (l__law_alphabet : K.lookup f__law_alphabet = some ⟨oc__law_alphabet, od__law_alphabet, .func (PySem.W.fnOf "_law_alphabet" "_law_alphabet" (defArgs s__law_alphabet) (defBody s__law_alphabet) (defScope s__law_alphabet) .none kV__law_alphabet dc__law_alphabet pm__law_alphabet an__law_alphabet cd__law_alphabet ct__law_alphabet), sl__law_alphabet⟩)
    (c__law_alphabet : PySem.W.codeIn K cd__law_alphabet "_law_alphabet" = true)
    (k__law_alphabet : PySem.W.keepIn K (.ref f__law_alphabet) = true)
    (a__law_due : PySem.W.nsIn K mainGlobals "_law_due" = some (some (.ref f__law_due)))
    (l__law_due : K.lookup f__law_due = some ⟨oc__law_due, od__law_due, .func (PySem.W.fnOf "_law_due" "_law_due" (defArgs s__law_due) (defBody s__law_due) (defScope s__law_due) .none kV__law_due dc__law_due pm__law_due an__law_due cd__law_due ct__law_due), sl__law_due⟩)
    (c__law_due : PySem.W.codeIn K cd__law_due "_law_due" = true)
    (k__law_due : PySem.W.keepIn K (.ref f__law_due) = true)
    (a__law_refused : PySem.W.nsIn K mainGlobals "_law_refused" = some (some (.ref f__law_refused)))
    (l__law_refused : K.lookup f__law_refused = some ⟨oc__law_refused, od__law_refused, .func (PySem.W.fnOf "_law_refused" "_law_refused" (defArgs s__law_refused) (defBody s__law_refused) (defScope s__law_refused) .none kV__law_refused dc__law_refused pm__law_refused an__law_refused cd__law_refused ct__law_refused), sl__law_refused⟩)
    (c__law_refused : PySem.W.codeIn K cd__law_refused "_law_refused" = true)
    (k__law_refused : PySem.W.keepIn K (.ref f__law_refused) = true)
    (a_law : PySem.W.nsIn K mainGlobals "law" = some (some (.ref f_law)))
    (l_law : K.lookup f_law = some ⟨oc_law, od_law, .func (PySem.W.fnOf "law" "law" (defArgs s_law) (defBody s_law) (defScope s_law) .none kV_law dc_law pm_law an_law cd_law ct_law), sl_law⟩)
    (c_law : PySem.W.codeIn K cd_law "law" = true)
    (k_law : PySem.W.keepIn K (.ref f_law) = true)
    (xg_HouseError : PySem.W.nsIn K mainGlobals "HouseError" = some (some (.ref C_HouseError)))
    (xx_HouseError : K.lookup C_HouseError = some (excClassObj nm_HouseError q_HouseError C_HouseError N_HouseError bs_HouseError [.type "ValueError", .type "Exception", .type "BaseException", .type "object"] true sn_HouseError sub_HouseError ab_HouseError col_HouseError dd_HouseError m0_HouseError m1_HouseError m2_HouseError m3_HouseError m5_HouseError "ValueError.__new__"))
    (xs_HouseError : PySem.W.findIn K (.ref C_HouseError) "__setattr__" = some (some (.builtin "object.__setattr__")))
    (xga_HouseError : PySem.W.findIn K (.ref C_HouseError) "__getattribute__" = some (some (.builtin "BaseException.__getattribute__")))
    (xgg_HouseError : PySem.W.findIn K (.ref C_HouseError) "__getattr__" = some none)
    (xat_HouseError : PySem.W.findIn K (.ref C_HouseError) "at" = some none)
    (xi_HouseError : PySem.W.findIn K (.ref C_HouseError) "__init__" = some (some (.ref fI)))
    (xb_HouseError : PySem.W.subIn K (.ref C_HouseError) (.type "BaseException") = some true)
    (xt_HouseError : PySem.W.typeIn K (.ref C_HouseError) = some (.type "type"))
    (xh_HouseError : PySem.W.hasDictIn K C_HouseError = true)
    (xk_HouseError : PySem.W.keepIn K (.ref C_HouseError) = true)
    (xis_HouseError : PySem.W.isClsIn K C_HouseError = true)
    (xg_OutOfRange : PySem.W.nsIn K mainGlobals "OutOfRange" = some (some (.ref C_OutOfRange)))
    (xx_OutOfRange : K.lookup C_OutOfRange = some (excClassObj nm_OutOfRange q_OutOfRange C_OutOfRange N_OutOfRange bs_OutOfRange (.ref C_HouseError :: [.type "ValueError", .type "Exception", .type "BaseException", .type "object"]) true sn_OutOfRange sub_OutOfRange ab_OutOfRange col_OutOfRange dd_OutOfRange m0_OutOfRange m1_OutOfRange m2_OutOfRange m3_OutOfRange m5_OutOfRange "ValueError.__new__"))
    (xs_OutOfRange : PySem.W.findIn K (.ref C_OutOfRange) "__setattr__" = some (some (.builtin "object.__setattr__")))
    (xga_OutOfRange : PySem.W.findIn K (.ref C_OutOfRange) "__getattribute__" = some (some (.builtin "BaseException.__getattribute__")))
    (xgg_OutOfRange : PySem.W.findIn K (.ref C_OutOfRange) "__getattr__" = some none)
    (xat_OutOfRange : PySem.W.findIn K (.ref C_OutOfRange) "at" = some none)
    (xi_OutOfRange : PySem.W.findIn K (.ref C_OutOfRange) "__init__" = some (some (.ref fI)))
    (xb_OutOfRange : PySem.W.subIn K (.ref C_OutOfRange) (.type "BaseException") = some true)
    (xt_OutOfRange : PySem.W.typeIn K (.ref C_OutOfRange) = some (.type "type"))
    (xh_OutOfRange : PySem.W.hasDictIn K C_OutOfRange = true)
    (xk_OutOfRange : PySem.W.keepIn K (.ref C_OutOfRange) = true)
    (xis_OutOfRange : PySem.W.isClsIn K C_OutOfRange = true)
    (l_I : K.lookup fI = some ⟨ocI, odI, .func (PySem.W.fnOf "__init__" "HouseError.__init__" (defArgs s_init) (defBody s_init) (defScope s_init) .none kVI dcI pmI anI cdI ctI), slI⟩)
    (c_I : PySem.W.codeIn K cdI "HouseError.__init__" = true)
    (k_I : PySem.W.keepIn K (.ref fI) = true)
    (t_I : PySem.W.typeIn K (.ref fI) = some (.type "function"))
    (e_OutOfRange_OutOfRange : PySem.W.subIn K (.ref C_OutOfRange) (.ref C_OutOfRange) = some true)
    : ∃ fd : FuncData, (∀ (s : Shared) (v : Value), BindsTo s fd ⟨[v], []⟩ [("script", v)]) ∧ ∀ base : Heap, K.In base → base.Ns mainGlobals mg → FnOk P w K mg base CX0 8 fa fd ["script"] (spLaw K) := by
  have e := hfa.symm.trans (PySem.W.mg_of X G a_law)
  cases e
  have T : Txt K mg ⟨fI, C_HouseError, C_OutOfRange⟩ := ⟨PySem.W.mg_none_of X G z_abs, PySem.W.mg_none_of X G z_all, PySem.W.mg_none_of X G z_bool, PySem.W.mg_none_of X G z_int, PySem.W.mg_none_of X G z_isinstance, PySem.W.mg_none_of X G z_len, PySem.W.mg_none_of X G z_list, PySem.W.mg_none_of X G z_min, PySem.W.mg_none_of X G z_range, PySem.W.mg_none_of X G z_set, PySem.W.mg_none_of X G z_sorted, ⟨_, _, fun_mk (st := s_stretches) l_stretches c_stretches k_stretches, PySem.W.mg_of X G a_stretches, (fun_mk (st := s_stretches) l_stretches c_stretches k_stretches).binds (ps := ["house"]) fun _ _ _ _ _ _ us hl => match us, hl with | [_], _ => rfl⟩, ⟨_, _, fun_mk (st := s_absent_words) l_absent_words c_absent_words k_absent_words, PySem.W.mg_of X G a_absent_words, (fun_mk (st := s_absent_words) l_absent_words c_absent_words k_absent_words).binds (ps := ["house", "alphabet"]) fun _ _ _ _ _ _ us hl => match us, hl with | [_, _], _ => rfl⟩, ⟨_, _, fun_mk (st := s__consists_of) l__consists_of c__consists_of k__consists_of, PySem.W.mg_of X G a__consists_of, (fun_mk (st := s__consists_of) l__consists_of c__consists_of k__consists_of).binds (ps := ["word", "alphabet"]) fun _ _ _ _ _ _ us hl => match us, hl with | [_, _], _ => rfl⟩, ⟨_, _, fun_mk (st := s__letters_behind) l__letters_behind c__letters_behind k__letters_behind, PySem.W.mg_of X G a__letters_behind, (fun_mk (st := s__letters_behind) l__letters_behind c__letters_behind k__letters_behind).binds (ps := ["words"]) fun _ _ _ _ _ _ us hl => match us, hl with | [_], _ => rfl⟩, ⟨_, _, fun_mk (st := s__law_draws) l__law_draws c__law_draws k__law_draws, PySem.W.mg_of X G a__law_draws, (fun_mk (st := s__law_draws) l__law_draws c__law_draws k__law_draws).binds (ps := ["script"]) fun _ _ _ _ _ _ us hl => match us, hl with | [_], _ => rfl⟩, ⟨_, _, fun_mk (st := s__law_at) l__law_at c__law_at k__law_at, PySem.W.mg_of X G a__law_at, (fun_mk (st := s__law_at) l__law_at c__law_at k__law_at).binds (ps := ["draws", "k", "many"]) fun _ _ _ _ _ _ us hl => match us, hl with | [_, _, _], _ => rfl⟩, ⟨_, _, fun_mk (st := s__law_text) l__law_text c__law_text k__law_text, PySem.W.mg_of X G a__law_text, (fun_mk (st := s__law_text) l__law_text c__law_text k__law_text).binds (ps := ["draws", "first", "most"]) fun _ _ _ _ _ _ us hl => match us, hl with | [_, _, _], _ => rfl⟩, ⟨_, _, fun_mk (st := s__law_house) l__law_house c__law_house k__law_house, PySem.W.mg_of X G a__law_house, (fun_mk (st := s__law_house) l__law_house c__law_house k__law_house).binds (ps := ["draws", "first"]) fun _ _ _ _ _ _ us hl => match us, hl with | [_, _], _ => rfl⟩, ⟨_, _, fun_mk (st := s__law_words) l__law_words c__law_words k__law_words, PySem.W.mg_of X G a__law_words, (fun_mk (st := s__law_words) l__law_words c__law_words k__law_words).binds (ps := ["house"]) fun _ _ _ _ _ _ us hl => match us, hl with | [_], _ => rfl⟩, ⟨_, _, fun_mk (st := s__law_alphabet) l__law_alphabet c__law_alphabet k__law_alphabet, PySem.W.mg_of X G a__law_alphabet, (fun_mk (st := s__law_alphabet) l__law_alphabet c__law_alphabet k__law_alphabet).binds (ps := ["draws", "k"]) fun _ _ _ _ _ _ us hl => match us, hl with | [_, _], _ => rfl⟩, ⟨_, _, fun_mk (st := s__law_due) l__law_due c__law_due k__law_due, PySem.W.mg_of X G a__law_due, (fun_mk (st := s__law_due) l__law_due c__law_due k__law_due).binds (ps := ["found", "alphabet"]) fun _ _ _ _ _ _ us hl => match us, hl with | [_, _], _ => rfl⟩, ⟨_, _, fun_mk (st := s__law_refused) l__law_refused c__law_refused k__law_refused, PySem.W.mg_of X G a__law_refused, (fun_mk (st := s__law_refused) l__law_refused c__law_refused k__law_refused).binds (ps := ["house", "alphabet"]) fun _ _ _ _ _ _ us hl => match us, hl with | [_, _], _ => rfl⟩, ⟨_, _, fun_mk (st := s_law) l_law c_law k_law, PySem.W.mg_of X G a_law, (fun_mk (st := s_law) l_law c_law k_law).binds (ps := ["script"]) fun _ _ _ _ _ _ us hl => match us, hl with | [_], _ => rfl⟩, ⟨_, fun_mk (st := s_init) l_I c_I k_I, (fun_mk (st := s_init) l_I c_I k_I).binds (ps := ["self", "at"]) (fun _ _ _ _ _ _ us hl => match us, hl with | [_, _], _ => rfl), t_I⟩, { g := PySem.W.mg_of X G xg_HouseError, o := ⟨⟨nm_HouseError, q_HouseError, N_HouseError, bs_HouseError, _, sn_HouseError, sub_HouseError, ab_HouseError, col_HouseError, dd_HouseError, m0_HouseError, m1_HouseError, m2_HouseError, m3_HouseError, m5_HouseError, xx_HouseError, by first | decide +kernel | rfl⟩, xs_HouseError, xb_HouseError, xt_HouseError, xk_HouseError⟩, i := xi_HouseError, no := xat_HouseError, f := ⟨xga_HouseError, xgg_HouseError, xb_HouseError, xh_HouseError⟩ }, { g := PySem.W.mg_of X G xg_OutOfRange, o := ⟨⟨nm_OutOfRange, q_OutOfRange, N_OutOfRange, bs_OutOfRange, _, sn_OutOfRange, sub_OutOfRange, ab_OutOfRange, col_OutOfRange, dd_OutOfRange, m0_OutOfRange, m1_OutOfRange, m2_OutOfRange, m3_OutOfRange, m5_OutOfRange, xx_OutOfRange, by first | decide +kernel | rfl⟩, xs_OutOfRange, xb_OutOfRange, xt_OutOfRange, xk_OutOfRange⟩, i := xi_OutOfRange, no := xat_OutOfRange, f := ⟨xga_OutOfRange, xgg_OutOfRange, xb_OutOfRange, xh_OutOfRange⟩ }, exm_of xb_OutOfRange xis_OutOfRange xt_OutOfRange e_OutOfRange_OutOfRange⟩
  exact ⟨PySem.W.fnOf "law" "law" (defArgs s_law) (defBody s_law) (defScope s_law) .none kV_law dc_law pm_law an_law cd_law ct_law, fun s v => .of_eq rfl, fun base _ _ => law_all T (fun_mk (st := s_law) l_law c_law k_law)⟩
end SH
open PySem PySem.W PyProof.Rows
set_option maxHeartbeats 0 in
theorem PySem.Challenge.cw_suffixhouse_k26_least_absent_words_holds : PySem.Challenge.rw_suffixhouse_k26_least_absent_words.Holds := by
  w_on; o_law; k_head; (case hw => w_witness2)
  k_fill
  refine L2.walk_of (l := PySem.Challenge.rw_suffixhouse_k26_least_absent_words) (n := 63) (k := 8) (x := "script") (CX := fun _ => L2.CX0) (sp := fun w => SH.spLaw _) rfl (by decide) rfl ⟨rfl, by decide, by decide⟩ (fun w h Y => PySem.W.kIn_of Y) ?F (fun _ _ a ns hl _ hS => ⟨a, ns, rfl, hS, hl, fun _ => rfl⟩) (fun _ _ _ _ _ h => h)
  case F =>
    intro w mg fa h KX G hmg
    refine' SH.all_mk KX G hmg ?z_abs ?z_all ?z_bool ?z_int ?z_isinstance ?z_len ?z_list ?z_min ?z_range ?z_set ?z_sorted ?a_stretches ?l_stretches ?c_stretches ?k_stretches ?a_absent_words ?l_absent_words ?c_absent_words ?k_absent_words ?a__consists_of ?l__consists_of ?c__consists_of ?k__consists_of ?a__letters_behind ?l__letters_behind ?c__letters_behind ?k__letters_behind ?a__law_draws ?l__law_draws ?c__law_draws ?k__law_draws ?a__law_at ?l__law_at ?c__law_at ?k__law_at ?a__law_text ?l__law_text ?c__law_text ?k__law_text ?a__law_house ?l__law_house ?c__law_house ?k__law_house ?a__law_words ?l__law_words ?c__law_words ?k__law_words ?a__law_alphabet ?l__law_alphabet ?c__law_alphabet ?k__law_alphabet ?a__law_due ?l__law_due ?c__law_due ?k__law_due ?a__law_refused ?l__law_refused ?c__law_refused ?k__law_refused ?a_law ?l_law ?c_law ?k_law ?xg_HouseError ?xx_HouseError ?xs_HouseError ?xga_HouseError ?xgg_HouseError ?xat_HouseError ?xi_HouseError ?xb_HouseError ?xt_HouseError ?xh_HouseError ?xk_HouseError ?xis_HouseError ?xg_OutOfRange ?xx_OutOfRange ?xs_OutOfRange ?xga_OutOfRange ?xgg_OutOfRange ?xat_OutOfRange ?xi_OutOfRange ?xb_OutOfRange ?xt_OutOfRange ?xh_OutOfRange ?xk_OutOfRange ?xis_OutOfRange ?l_I ?c_I ?k_I ?t_I ?e_OutOfRange_OutOfRange
    (case z_abs => first | k_is | rfl)
    (case z_all => first | k_is | rfl)
    (case z_bool => first | k_is | rfl)
    (case z_int => first | k_is | rfl)
    (case z_isinstance => first | k_is | rfl)
    (case z_len => first | k_is | rfl)
    (case z_list => first | k_is | rfl)
    (case z_min => first | k_is | rfl)
    (case z_range => first | k_is | rfl)
    (case z_set => first | k_is | rfl)
    (case z_sorted => first | k_is | rfl)
    (case a_stretches => first | k_is | rfl)
    (case l_stretches => first | k_is | rfl)
    (case c_stretches => first | k_is | rfl)
    (case k_stretches => first | k_is | rfl)
    (case a_absent_words => first | k_is | rfl)
    (case l_absent_words => first | k_is | rfl)
    (case c_absent_words => first | k_is | rfl)
    (case k_absent_words => first | k_is | rfl)
    (case a__consists_of => first | k_is | rfl)
    (case l__consists_of => first | k_is | rfl)
    (case c__consists_of => first | k_is | rfl)
    (case k__consists_of => first | k_is | rfl)
    (case a__letters_behind => first | k_is | rfl)
    (case l__letters_behind => first | k_is | rfl)
    (case c__letters_behind => first | k_is | rfl)
    (case k__letters_behind => first | k_is | rfl)
    (case a__law_draws => first | k_is | rfl)
    (case l__law_draws => first | k_is | rfl)
    (case c__law_draws => first | k_is | rfl)
    (case k__law_draws => first | k_is | rfl)
    (case a__law_at => first | k_is | rfl)
    (case l__law_at => first | k_is | rfl)
    (case c__law_at => first | k_is | rfl)
    (case k__law_at => first | k_is | rfl)
    (case a__law_text => first | k_is | rfl)
    (case l__law_text => first | k_is | rfl)
    (case c__law_text => first | k_is | rfl)
    (case k__law_text => first | k_is | rfl)
    (case a__law_house => first | k_is | rfl)
    (case l__law_house => first | k_is | rfl)
    (case c__law_house => first | k_is | rfl)
    (case k__law_house => first | k_is | rfl)
    (case a__law_words => first | k_is | rfl)
    (case l__law_words => first | k_is | rfl)
    (case c__law_words => first | k_is | rfl)
    (case k__law_words => first | k_is | rfl)
    (case a__law_alphabet => first | k_is | rfl)
    (case l__law_alphabet => first | k_is | rfl)
    (case c__law_alphabet => first | k_is | rfl)
    (case k__law_alphabet => first | k_is | rfl)
    (case a__law_due => first | k_is | rfl)
    (case l__law_due => first | k_is | rfl)
    (case c__law_due => first | k_is | rfl)
    (case k__law_due => first | k_is | rfl)
    (case a__law_refused => first | k_is | rfl)
    (case l__law_refused => first | k_is | rfl)
    (case c__law_refused => first | k_is | rfl)
    (case k__law_refused => first | k_is | rfl)
    (case a_law => first | k_is | rfl)
    (case l_law => first | k_is | rfl)
    (case c_law => first | k_is | rfl)
    (case k_law => first | k_is | rfl)
    (case xg_HouseError => first | k_is | rfl)
    (case xx_HouseError => first | k_is | rfl)
    (case xs_HouseError => first | k_is | rfl)
    (case xga_HouseError => first | k_is | rfl)
    (case xgg_HouseError => first | k_is | rfl)
    (case xat_HouseError => first | k_is | rfl)
    (case xi_HouseError => first | k_is | rfl)
    (case xb_HouseError => first | k_is | rfl)
    (case xt_HouseError => first | k_is | rfl)
    (case xh_HouseError => first | k_is | rfl)
    (case xk_HouseError => first | k_is | rfl)
    (case xis_HouseError => first | k_is | rfl)
    (case xg_OutOfRange => first | k_is | rfl)
    (case xx_OutOfRange => first | k_is | rfl)
    (case xs_OutOfRange => first | k_is | rfl)
    (case xga_OutOfRange => first | k_is | rfl)
    (case xgg_OutOfRange => first | k_is | rfl)
    (case xat_OutOfRange => first | k_is | rfl)
    (case xi_OutOfRange => first | k_is | rfl)
    (case xb_OutOfRange => first | k_is | rfl)
    (case xt_OutOfRange => first | k_is | rfl)
    (case xh_OutOfRange => first | k_is | rfl)
    (case xk_OutOfRange => first | k_is | rfl)
    (case xis_OutOfRange => first | k_is | rfl)
    (case l_I => first | k_is | rfl)
    (case c_I => first | k_is | rfl)
    (case k_I => first | k_is | rfl)
    (case t_I => first | k_is | rfl)
    (case e_OutOfRange_OutOfRange => first | k_is | rfl)
